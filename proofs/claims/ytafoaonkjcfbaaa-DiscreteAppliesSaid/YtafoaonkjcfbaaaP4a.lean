/- Walks: the program's conversions: numbers, bounds, powers of ten, quotients rounded down. -/
import Derived.Test.YtafoaonkjcfbaaaC4z
import Derived.Test.YtafoaonkjcfbaaaM4w
namespace Go.Proofs.Ytafoaonkjcfbaaa.P4
open Go.RowKit Go.Proofs.Ytafoaonkjcfbaaa.Mem Go.Proofs.Ytafoaonkjcfbaaa.M3p Go.Proofs.Ytafoaonkjcfbaaa.C4p Go.Proofs.Ytafoaonkjcfbaaa.C4l Go.Proofs.Ytafoaonkjcfbaaa.C4v
set_option maxRecDepth 100000
set_option maxHeartbeats 1000000

theorem number_p (s : Bool) (r : UInt8) (w : World) :
    Calls Try.prog 117 #[.bool s, .int .u8 (r.toNat : Int)] w fun e w' => e = .returned (.int .i64 (num s r)) ∧ w = w' := by
  have hr := r.toNat_lt
  cases s
  · go_enter Try.func117, Try.ntmps117
    go_wp2
    go_ret
    exact ⟨ret_int (by unfold num; rw [if_neg (by simp)]), rfl⟩
  · by_cases h : 128 ≤ r.toNat
    · have h8 : IntKind.i8.wrap (r.toNat : Int) = (r.toNat : Int) - 256 := by unfold IntKind.wrap; simp [IntKind.bits, IntKind.signed]; omega
      go_enter Try.func117, Try.ntmps117
      go_wp2
      go_ret
      exact ⟨ret_int (by unfold num; rw [if_pos ⟨rfl, h⟩]), rfl⟩
    · have h8 : IntKind.i8.wrap (r.toNat : Int) = (r.toNat : Int) := by unfold IntKind.wrap; simp [IntKind.bits, IntKind.signed]; omega
      go_enter Try.func117, Try.ntmps117
      go_wp2
      go_ret
      exact ⟨ret_int (by unfold num; rw [if_neg (fun g => h g.2)]), rfl⟩
theorem factor_p (v : Int) (w : World) :
    Calls Try.prog 140 #[.int .i64 v] w fun e w' => e = .returned (.bool (decide (-512 ≤ v ∧ v ≤ 511))) ∧ w = w' := by
  go_enter Try.func140, Try.ntmps140
  go_wp2
  all_goals
    go_ret
    exact ⟨ret_bool (by rw [Bool.eq_iff_iff]; simp; try omega), rfl⟩
theorem expo_p (v : Int) (w : World) :
    Calls Try.prog 141 #[.int .i64 v] w fun e w' => e = .returned (.bool (decide (-3 ≤ v ∧ v ≤ 3))) ∧ w = w' := by
  go_enter Try.func141, Try.ntmps141
  go_wp2
  all_goals
    go_ret
    exact ⟨ret_bool (by rw [Bool.eq_iff_iff]; simp; try omega), rfl⟩
end Go.Proofs.Ytafoaonkjcfbaaa.P4
