/- Plain mathematics: readings that are more extreme; masks of a side. -/
import Derived.Test.YtcnkiecdagjgmaaYa
namespace Go.Proofs.Ytcnkiecdagjgmaa.Ya
open Go.Proofs.Ytcnkiecdagjgmaa.Ta
set_option maxRecDepth 100000

theorem bit7 (i : Nat) : (7 : Nat).testBit i = decide (i < 3) := Nat.testBit_two_pow_sub_one 3 i
theorem bit56 (i : Nat) : (56 : Nat).testBit i = decide (3 ≤ i ∧ i < 6) := by
  rcases Nat.lt_or_ge i 6 with h | h
  · rcases (show i = 0 ∨ i = 1 ∨ i = 2 ∨ i = 3 ∨ i = 4 ∨ i = 5 by omega) with rfl | rfl | rfl | rfl | rfl | rfl <;> decide
  · have hp : 2 ^ 6 ≤ 2 ^ i := Nat.pow_le_pow_right (by omega) h
    rw [Nat.testBit_lt_two_pow (by omega : 56 < 2 ^ i), decide_eq_false (by omega)]
theorem ord_facts {s : Sn} (hv : vs s = true) (hd : s.d = false) {x y : Int} (hxy : x ≤ y) :
    andn8 (wth s y 0 0 &&& 7) (wth s x 0 0) = 0 ∧ andn8 (wth s x 0 0 &&& 56) (wth s y 0 0) = 0 ∧ (wth s x 0 0 &&& 7 = 0 ∨ wth s x 0 0 &&& 56 = 0) := by
  refine ⟨andn8_zero fun i _ h => ?_, andn8_zero fun i _ h => ?_, ?_⟩
  · rw [Nat.testBit_and, bit7, Bool.and_eq_true, decide_eq_true_eq] at h
    have hi : i < 6 := by omega
    rw [wth_bit _ _ _ _ _ hi] at h ⊢
    exact rch_low hxy (by omega) h.1
  · rw [Nat.testBit_and, bit56, Bool.and_eq_true, decide_eq_true_eq] at h
    have hi : i < 6 := h.2.2
    rw [wth_bit _ _ _ _ _ hi] at h ⊢
    exact rch_up hxy (by omega) h.1
  · rcases Classical.em (∃ i, i ≤ 2 ∧ rch s x 0 0 i = true) with ⟨i, hi, hr⟩ | hno
    · right
      apply Nat.eq_of_testBit_eq
      intro j
      rw [Nat.testBit_and, bit56, Nat.zero_testBit]
      rcases Classical.em (3 ≤ j ∧ j < 6) with hj | hj
      · rw [wth_bit _ _ _ _ _ hj.2]
        cases hq : rch s x 0 0 j
        · rfl
        · exact (rch_both hv hd hi (by omega) hj.2 hr hq).elim
      · rw [decide_eq_false hj, Bool.and_false]
    · left
      apply Nat.eq_of_testBit_eq
      intro j
      rw [Nat.testBit_and, bit7, Nat.zero_testBit]
      rcases Classical.em (j < 3) with hj | hj
      · rw [wth_bit _ _ _ _ _ (by omega)]
        cases hq : rch s x 0 0 j
        · rfl
        · exact (hno ⟨j, by omega, hq⟩).elim
      · rw [decide_eq_false hj, Bool.and_false]
end Go.Proofs.Ytcnkiecdagjgmaa.Ya
