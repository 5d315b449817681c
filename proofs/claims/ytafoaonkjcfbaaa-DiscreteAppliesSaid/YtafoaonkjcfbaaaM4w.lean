/- Walks: the program's package micro: numbers. -/
import Derived.Test.YtafoaonkjcfbaaaM4s
namespace Go.Proofs.Ytafoaonkjcfbaaa.M3w
open Go.RowKit Go.Proofs.Ytafoaonkjcfbaaa.Mem Go.Proofs.Ytafoaonkjcfbaaa.M3p Go.Proofs.Ytafoaonkjcfbaaa.M3r Go.Proofs.Ytafoaonkjcfbaaa.F2p
set_option maxRecDepth 100000
set_option maxHeartbeats 1000000

theorem clamp_p (v : Int) (w : World) :
    Calls Try.prog 161 #[.int .i64 v] w fun e w' => e = .returned (.int .i64 (clp v)) ∧ w = w' := by
  go_enter Try.func161, Try.ntmps161
  go_wp2
  all_goals
    go_ret
    refine ⟨ret_int ?_, rfl⟩
    unfold clp lim
    split <;> (try split) <;> omega
/-- Rounding down, by the quotient and the rest that round toward zero. -/
theorem fdiv_t (a b : Int) (hb : b ≠ 0) : a.fdiv b = if a.tmod b ≠ 0 ∧ decide (a < 0) ≠ decide (b < 0) then a.tdiv b - 1 else a.tdiv b := by
  rw [Int.fdiv_eq_tdiv]
  by_cases hd : b ∣ a
  · rw [if_pos hd, if_neg (fun h => h.1 (Int.tmod_eq_zero_of_dvd hd)), Int.sub_zero]
  · rw [if_neg hd]
    have hm : a.tmod b ≠ 0 := fun h => hd (Int.dvd_of_tmod_eq_zero h)
    by_cases ha : 0 ≤ a
    · rw [if_pos ha]
      by_cases hb0 : 0 ≤ b
      · rw [if_pos hb0, if_neg (fun h => h.2 (by rw [decide_eq_false (by omega), decide_eq_false (by omega)])), Int.sub_zero]
      · rw [if_neg hb0, if_pos ⟨hm, by rw [decide_eq_false (by omega), decide_eq_true (by omega)]; decide⟩]
    · rw [if_neg ha]
      by_cases hb0 : 0 ≤ b
      · rw [if_pos hb0, if_pos ⟨hm, by rw [decide_eq_true (by omega), decide_eq_false (by omega)]; decide⟩, Int.sign_eq_one_of_pos (by omega)]
      · rw [if_neg hb0, if_neg (fun h => h.2 (by rw [decide_eq_true (by omega), decide_eq_true (by omega)])), Int.sign_eq_neg_one_of_neg (by omega)]
        omega
theorem fdiv_mul (x y : Int) : x.fdiv 1000000 = x / 1000000 ∧ (x / 1000000 * y + (x % 1000000 * y).fdiv 1000000) = x / 1000000 * y + x % 1000000 * y / 1000000 := by
  rw [Int.fdiv_eq_ediv_of_nonneg _ (by omega), Int.fdiv_eq_ediv_of_nonneg _ (by omega)]
  exact ⟨rfl, rfl⟩
theorem clp_neg {a : Int} (h : a < 0) : clp a < 0 := by unfold clp lim; split <;> (try split) <;> omega
end Go.Proofs.Ytafoaonkjcfbaaa.M3w
