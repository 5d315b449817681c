/- Plain mathematics of the dice's thresholds. -/
import Derived.Test.YtekhpcfggbegaaaS09
namespace Go.Proofs.Ytekhpcfggbegaaa.Tm
open Go.Proofs.Ytekhpcfggbegaaa.Ta Go.Proofs.Ytekhpcfggbegaaa.C4p
set_option maxRecDepth 100000

def ord (k : Nat) : Nat := [2, 1, 0, 3, 4, 5].getD k 0
theorem ord_lt {k : Nat} (h : k < 6) : ord k < 6 := by
  rcases (show k = 0 ∨ k = 1 ∨ k = 2 ∨ k = 3 ∨ k = 4 ∨ k = 5 by omega) with rfl | rfl | rfl | rfl | rfl | rfl <;> decide
theorem ord_inj {a b : Nat} (ha : a < 6) (hb : b < 6) (h : ord a = ord b) : a = b := by
  have : ∀ a, a < 6 → ∀ b, b < 6 → ord a = ord b → a = b := by decide
  exact this a ha b hb h
structure Inv (sg : Bool) (mx k : Nat) (x : Int) (raw : List UInt8) : Prop where
  len : raw.length = 6
  lo : least sg ≤ x
  hi : x ≤ least sg + 39 + 35 * (k : Int) + (if 3 < k then 1 else 0)
  top : ∀ a, a < k → has mx (ord a) = true → num sg (raw.getD (ord a) 0) + (if a < 3 ∧ 3 < k then 1 else 0) ≤ x
  prs : ∀ a b, a < b → b < k → has mx (ord a) = true → has mx (ord b) = true → num sg (raw.getD (ord a) 0) + (if a < 3 ∧ 3 ≤ b then 1 else 0) ≤ num sg (raw.getD (ord b) 0)
  zer : ∀ a, a < 6 → (k ≤ a ∨ has mx (ord a) = false) → raw.getD (ord a) 0 = 0
theorem getD_set (l : List UInt8) (i j : Nat) (v : UInt8) (hi : i < l.length) : (l.set i v).getD j 0 = if i = j then v else l.getD j 0 := by
  rw [List.getD_eq_getElem?_getD, List.getElem?_set, List.getD_eq_getElem?_getD]
  split
  · subst_vars; first | (rw [if_pos hi]; rfl) | rfl
  · rfl
theorem Inv.start {sg : Bool} {mx : Nat} {x : Int} (h1 : least sg ≤ x) (h2 : x ≤ least sg + 39) : Inv sg mx 0 x [0, 0, 0, 0, 0, 0] := by
  refine ⟨rfl, h1, by simp; omega, fun a h => absurd h (Nat.not_lt_zero _), fun a b _ h => absurd h (Nat.not_lt_zero _), fun a ha _ => ?_⟩
  have := ord_lt ha
  rcases (show ord a = 0 ∨ ord a = 1 ∨ ord a = 2 ∨ ord a = 3 ∨ ord a = 4 ∨ ord a = 5 by omega) with e | e | e | e | e | e <;> rw [e] <;> rfl
/-- The number at hand in round k. -/
def now (k : Nat) (x : Int) : Int := if k = 3 then x + 1 else x
theorem Inv.miss {sg : Bool} {mx k : Nat} {x : Int} {raw : List UInt8} (h : Inv sg mx k x raw) (hk : k < 6) (hb : has mx (ord k) = false) : Inv sg mx (k + 1) (now k x) raw := by
  obtain ⟨h0, h1, h2, h3, h4, h5⟩ := h
  unfold now
  refine ⟨h0, by split <;> omega, ?_, fun a ha hh => ?_, fun a b hab hbk ha hh => ?_, fun a ha hh => ?_⟩
  · by_cases e : k = 3
    · subst e; simp at h2 ⊢; omega
    · rw [if_neg e]
      by_cases e2 : 3 < k
      · rw [if_pos e2] at h2; rw [if_pos (by omega)]; push_cast; omega
      · rw [if_neg e2] at h2; rw [if_neg (by omega)]; push_cast; omega
  · rcases Nat.lt_or_ge a k with g | g
    · have := h3 a g hh
      by_cases e : k = 3
      · subst e
        rw [if_neg (by omega)] at this
        rw [if_pos rfl]
        split <;> omega
      · rw [if_neg e]
        by_cases e2 : a < 3 ∧ 3 < k
        · rw [if_pos e2] at this; rw [if_pos (by omega)]; omega
        · rw [if_neg e2] at this; rw [if_neg (by omega)]; omega
    · obtain rfl : a = k := by omega
      rw [hb] at hh; cases hh
  · rcases Nat.lt_or_ge b k with g | g
    · exact h4 a b hab g ha hh
    · obtain rfl : b = k := by omega
      rw [hb] at hh; cases hh
  · refine h5 a ha ?_
    rcases hh with hh | hh
    · exact .inl (by omega)
    · exact .inr hh
theorem Inv.hit {sg : Bool} {mx k : Nat} {x : Int} {raw : List UInt8} (h : Inv sg mx k x raw) (hk : k < 6) (hb : has mx (ord k) = true) (q : Nat) (hq : q < 36) : Inv sg mx (k + 1) (now k x + (q : Int)) (raw.set (ord k) (rawOf (now k x))) := by
  obtain ⟨h0, h1, h2, h3, h4, h5⟩ := h
  have hlt := ord_lt hk
  have hnl : least sg ≤ now k x ∧ now k x < least sg + 256 ∧ x ≤ now k x := by
    unfold now
    have : (if 3 < k then (1 : Int) else 0) ≤ 1 := by split <;> omega
    split <;> omega
  have hnum : num sg (rawOf (now k x)) = now k x := num_raw hnl.1 hnl.2.1
  have hsame : ∀ a, a < 6 → a ≠ k → (raw.set (ord k) (rawOf (now k x))).getD (ord a) 0 = raw.getD (ord a) 0 := fun a ha hne => by
    rw [getD_set _ _ _ _ (by omega), if_neg (fun e => hne (ord_inj hk ha e).symm)]
  have hown : (raw.set (ord k) (rawOf (now k x))).getD (ord k) 0 = rawOf (now k x) := by
    rw [getD_set _ _ _ _ (by omega), if_pos rfl]
  have hstep : ∀ a, a < k → has mx (ord a) = true → num sg (raw.getD (ord a) 0) + (if a < 3 ∧ 3 ≤ k then 1 else 0) ≤ now k x := fun a ha hh => by
    have := h3 a ha hh
    unfold now
    by_cases e : k = 3
    · subst e
      rw [if_neg (by omega)] at this
      rw [if_pos rfl]
      split <;> omega
    · rw [if_neg e]
      by_cases e2 : a < 3 ∧ 3 < k
      · rw [if_pos e2] at this; rw [if_pos (by omega)]; omega
      · rw [if_neg e2] at this; rw [if_neg (by omega)]; omega
  refine ⟨by rw [List.length_set]; exact h0, by omega, ?_, fun a ha hh => ?_, fun a b hab hbk ha hh => ?_, fun a ha hh => ?_⟩
  · unfold now
    by_cases e : k = 3
    · subst e; simp at h2 ⊢; omega
    · rw [if_neg e]
      by_cases e2 : 3 < k
      · rw [if_pos e2] at h2; rw [if_pos (by omega)]; push_cast; omega
      · rw [if_neg e2] at h2; rw [if_neg (by omega)]; push_cast; omega
  · rcases Nat.lt_or_ge a k with g | g
    · rw [hsame a (by omega) (by omega)]
      have := hstep a g hh
      by_cases e2 : a < 3 ∧ 3 ≤ k
      · rw [if_pos e2] at this; rw [if_pos (by omega)]; omega
      · rw [if_neg e2] at this; rw [if_neg (by omega)]; omega
    · obtain rfl : a = k := by omega
      rw [hown, hnum, if_neg (by omega)]; omega
  · rcases Nat.lt_or_ge b k with g | g
    · rw [hsame a (by omega) (by omega), hsame b (by omega) (by omega)]
      exact h4 a b hab g ha hh
    · obtain rfl : b = k := by omega
      rw [hsame a (by omega) (by omega), hown, hnum]
      exact hstep a hab ha
  · have hak : a ≠ k := fun e => by
      subst e
      rcases hh with hh | hh
      · omega
      · rw [hb] at hh; cases hh
    rw [hsame a ha hak]
    refine h5 a ha ?_
    rcases hh with hh | hh
    · exact .inl (by omega)
    · exact .inr hh
theorem Inv.fin {sg : Bool} {mx : Nat} {x : Int} {raw : List UInt8} (h : Inv sg mx 6 x raw) (hm : mx ≤ 63) : lims sg mx raw = true := by
  obtain ⟨h0, h1, h2, h3, h4, h5⟩ := h
  unfold lims Ta.zer ordd
  rw [decide_eq_true hm, Bool.true_and, Bool.and_eq_true]
  have pos : ∀ i, i < 6 → ∃ a, a < 6 ∧ ord a = i ∧ (i < 3 → a = 2 - i) ∧ (3 ≤ i → a = i) := by
    intro i hi
    rcases (show i = 0 ∨ i = 1 ∨ i = 2 ∨ i = 3 ∨ i = 4 ∨ i = 5 by omega) with rfl | rfl | rfl | rfl | rfl | rfl
    · exact ⟨2, by omega, rfl, by omega, by omega⟩
    · exact ⟨1, by omega, rfl, by omega, by omega⟩
    · exact ⟨0, by omega, rfl, by omega, by omega⟩
    · exact ⟨3, by omega, rfl, by omega, by omega⟩
    · exact ⟨4, by omega, rfl, by omega, by omega⟩
    · exact ⟨5, by omega, rfl, by omega, by omega⟩
  constructor
  · simp only [List.all_eq_true, List.mem_range, Bool.or_eq_true, decide_eq_true_eq]
    intro i hi
    obtain ⟨a, ha, rfl, -, -⟩ := pos i hi
    cases hh : has mx (ord a) with
    | true => exact .inl rfl
    | false => exact .inr (h5 a ha (.inr hh))
  · simp only [List.all_eq_true, List.mem_range]
    intro j hj i hi
    obtain ⟨b, hb, rfl, pb1, pb2⟩ := pos j hj
    obtain ⟨a, ha, rfl, pa1, pa2⟩ := pos i (by omega)
    unfold pair
    cases hha : has mx (ord a)
    · rfl
    cases hhb : has mx (ord b)
    · rfl
    simp only [Bool.and_self, Bool.true_and, Bool.not_not]
    unfold fol
    by_cases q1 : ord b ≤ 2
    · rw [if_pos q1, decide_eq_true_eq]
      have e1 := pb1 (by omega)
      have e2 := pa1 (by omega)
      have := h4 b a (by omega) ha hhb hha
      rw [if_neg (by omega)] at this
      omega
    · rw [if_neg q1]
      have e1 := pb2 (by omega)
      by_cases q2 : 3 ≤ ord a
      · rw [if_pos q2, decide_eq_true_eq]
        have e2 := pa2 q2
        have := h4 a b (by omega) hb hha hhb
        rw [if_neg (by omega)] at this
        omega
      · rw [if_neg q2, decide_eq_true_eq]
        have e2 := pa1 (by omega)
        have := h4 a b (by omega) hb hha hhb
        rw [if_pos (by omega)] at this
        omega
end Go.Proofs.Ytekhpcfggbegaaa.Tm
