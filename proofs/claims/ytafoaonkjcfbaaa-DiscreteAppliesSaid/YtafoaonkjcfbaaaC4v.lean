/- Walks: the reference of conversions: numbers, powers of ten. -/
import Derived.Test.YtafoaonkjcfbaaaC4l
import Derived.StillTailTactics
namespace Go.Proofs.Ytafoaonkjcfbaaa.C4v
open Go.RowKit Go.Proofs.Ytafoaonkjcfbaaa.Mem Go.Proofs.Ytafoaonkjcfbaaa.M3p Go.Proofs.Ytafoaonkjcfbaaa.C4p Go.Proofs.Ytafoaonkjcfbaaa.C4l
set_option maxRecDepth 100000
set_option maxHeartbeats 1000000

theorem number_r (s : Bool) (r : UInt8) (w : World) :
    Calls Try.prog 135 #[.bool s, .int .u8 (r.toNat : Int)] w fun e w' => e = .returned (.int .i64 (num s r)) ∧ w = w' := by
  have hr := r.toNat_lt
  cases s
  · go_enter Try.func135, Try.ntmps135
    go_wp2
    go_ret
    exact ⟨ret_int (by unfold num; rw [if_neg (by simp)]), rfl⟩
  · by_cases h : 128 ≤ r.toNat
    · go_enter Try.func135, Try.ntmps135
      go_wp2
      go_ret
      exact ⟨ret_int (by unfold num; rw [if_pos ⟨rfl, h⟩]), rfl⟩
    · go_enter Try.func135, Try.ntmps135
      go_wp2
      go_ret
      exact ⟨ret_int (by unfold num; rw [if_neg (fun g => h g.2)]), rfl⟩
theorem raw_r (n : Int) (w : World) (h1 : -256 ≤ n) (h2 : n ≤ 1000000) :
    Calls Try.prog 100 #[.int .i64 n] w fun e w' => e = .returned (.int .u8 ((rawOf n).toNat : Int)) ∧ w = w' := by
  have e1 := raw_nat n
  have e2 : ((rawOf n).toNat : Int) = (n + 256) % 256 := by omega
  have e3 : (n + 256).tmod 256 = (n + 256) % 256 := Int.tmod_eq_emod_of_nonneg (by omega)
  have e4 : 0 ≤ (n + 256) % 256 := Int.emod_nonneg _ (by decide)
  have e5 : (n + 256) % 256 < 256 := Int.emod_lt_of_pos _ (by decide)
  rw [e2]
  clear e1 e2
  generalize (n + 256) % 256 = z at *
  go_enter Try.func100, Try.ntmps100
  go_wp2
  go_ret
  exact ⟨rfl, rfl⟩
theorem least_r (s : Bool) (w : World) :
    Calls Try.prog 99 #[.bool s] w fun e w' => e = .returned (.int .i64 (least s)) ∧ w = w' := by
  cases s
  · go_enter Try.func99, Try.ntmps99
    go_wp2
    go_ret
    exact ⟨rfl, rfl⟩
  · go_enter Try.func99, Try.ntmps99
    go_wp2
    go_ret
    exact ⟨rfl, rfl⟩
theorem ten_nat (n : Nat) : ten (n : Int) = ((10 ^ n : Nat) : Int) := by unfold ten; rw [Int.toNat_natCast]; push_cast; rfl
end Go.Proofs.Ytafoaonkjcfbaaa.C4v
