/- Walks: the program's conversions: numbers, bounds, powers of ten, quotients rounded down. -/
import Derived.Test.YtcnkiecdagjgmaaC4z
import Derived.Test.YtcnkiecdagjgmaaM4w
namespace Go.Proofs.Ytcnkiecdagjgmaa.P4
open Go.RowKit Go.Proofs.Ytcnkiecdagjgmaa.Mem Go.Proofs.Ytcnkiecdagjgmaa.M3p Go.Proofs.Ytcnkiecdagjgmaa.C4p Go.Proofs.Ytcnkiecdagjgmaa.C4l Go.Proofs.Ytcnkiecdagjgmaa.C4v
set_option maxRecDepth 100000
set_option maxHeartbeats 1000000

theorem number_p (s : Bool) (r : UInt8) (w : World) :
    Calls Try.prog 114 #[.bool s, .int .u8 (r.toNat : Int)] w fun e w' => e = .returned (.int .i64 (num s r)) ∧ w = w' := by
  have hr := r.toNat_lt
  cases s
  · go_enter Try.func114, Try.ntmps114
    go_wp2
    go_ret
    exact ⟨ret_int (by unfold num; rw [if_neg (by simp)]), rfl⟩
  · by_cases h : 128 ≤ r.toNat
    · have h8 : IntKind.i8.wrap (r.toNat : Int) = (r.toNat : Int) - 256 := by unfold IntKind.wrap; simp [IntKind.bits, IntKind.signed]; omega
      go_enter Try.func114, Try.ntmps114
      go_wp2
      go_ret
      exact ⟨ret_int (by unfold num; rw [if_pos ⟨rfl, h⟩]), rfl⟩
    · have h8 : IntKind.i8.wrap (r.toNat : Int) = (r.toNat : Int) := by unfold IntKind.wrap; simp [IntKind.bits, IntKind.signed]; omega
      go_enter Try.func114, Try.ntmps114
      go_wp2
      go_ret
      exact ⟨ret_int (by unfold num; rw [if_neg (fun g => h g.2)]), rfl⟩
theorem factor_p (v : Int) (w : World) :
    Calls Try.prog 133 #[.int .i64 v] w fun e w' => e = .returned (.bool (decide (-512 ≤ v ∧ v ≤ 511))) ∧ w = w' := by
  go_enter Try.func133, Try.ntmps133
  go_wp2
  all_goals
    go_ret
    exact ⟨ret_bool (by rw [Bool.eq_iff_iff]; simp; try omega), rfl⟩
theorem expo_p (v : Int) (w : World) :
    Calls Try.prog 134 #[.int .i64 v] w fun e w' => e = .returned (.bool (decide (-3 ≤ v ∧ v ≤ 3))) ∧ w = w' := by
  go_enter Try.func134, Try.ntmps134
  go_wp2
  all_goals
    go_ret
    exact ⟨ret_bool (by rw [Bool.eq_iff_iff]; simp; try omega), rfl⟩
end Go.Proofs.Ytcnkiecdagjgmaa.P4
