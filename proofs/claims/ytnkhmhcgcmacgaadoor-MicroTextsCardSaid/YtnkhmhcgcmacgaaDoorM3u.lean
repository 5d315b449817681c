/- Decimal texts: no text of a number is shorter than the one that is written; a text by its digits; a text that is cut at its point. -/
import Derived.Test.YtnkhmhcgcmacgaaDoorM3q
namespace Go.Proofs.YtnkhmhcgcmacgaaDoor.M3r
open Go.Proofs.YtnkhmhcgcmacgaaDoor.Mem Go.Proofs.YtnkhmhcgcmacgaaDoor.M3p Go.Proofs.YtnkhmhcgcmacgaaDoor.F2p
set_option maxRecDepth 100000

theorem frc_short (g k p : Nat) (hp : p < 1000000) (h : p * 10 ^ k % 1000000 = 0) : (frc g p).length ≤ k := by
  induction g generalizing k p with
  | zero => exact Nat.zero_le _
  | succ g ih =>
    by_cases h0 : p = 0
    · subst h0; rw [frc_zero]; exact Nat.zero_le _
    · rcases k with _ | k
      · rw [Nat.pow_zero, Nat.mul_one] at h; omega
      · have e : frc (g + 1) p = UInt8.ofNat (48 + 10 * p / 1000000) :: frc g (10 * p % 1000000) := by rw [frc, if_neg h0]
        have hz : (10 * p % 1000000) * 10 ^ k % 1000000 = 0 := by
          rw [Nat.mul_mod, Nat.mod_mod, ← Nat.mul_mod, Nat.mul_comm 10, Nat.mul_assoc, Nat.mul_comm 10, ← Nat.pow_succ]
          exact h
        have := ih k _ (Nat.mod_lt _ (by omega)) hz
        rw [e, List.length_cons]
        omega
theorem fin_ok {neg : Bool} {v : Nat} {n : Int} (h : fin neg v = (n, 0)) : v ≤ 1000000000000 ∧ n = if neg then -(v : Int) else (v : Int) := by
  unfold fin at h
  split at h
  · cases h
  · injection h with h1 _
    exact ⟨by omega, h1.symm⟩
theorem while_len (r : List UInt8) : (r.takeWhile isd).length + (r.dropWhile isd).length = r.length := by
  rw [← List.length_append, List.takeWhile_append_dropWhile]
theorem while_all (r : List UInt8) : ∀ x ∈ r.takeWhile isd, isd x = true := by
  intro x hx
  induction r with
  | nil => cases hx
  | cons a r ih =>
    rw [List.takeWhile_cons] at hx
    split at hx
    · rcases List.mem_cons.1 hx with rfl | hx
      · assumption
      · exact ih hx
    · cases hx
theorem frac_lt (f : List UInt8) (h6 : f.length ≤ 6) (h : f.all isd = true) : val f * 10 ^ (6 - f.length) < 1000000 := by
  have h1 := val_lt f (fun x hx => List.all_eq_true.1 h x hx)
  have h2 : 10 ^ f.length * 10 ^ (6 - f.length) = 1000000 := by rw [← Nat.pow_add, show f.length + (6 - f.length) = 6 by omega]
  have h3 : 0 < 10 ^ (6 - f.length) := Nat.pow_pos (by omega)
  calc val f * 10 ^ (6 - f.length) < 10 ^ f.length * 10 ^ (6 - f.length) := Nat.mul_lt_mul_of_pos_right h1 h3
    _ = 1000000 := h2
theorem psrU_short {neg : Bool} {r : List UInt8} {n : Int} (h : psrU neg r = (n, 0)) : ∃ v : Nat, v ≤ 1000000000000 ∧ n = (if neg then -(v : Int) else (v : Int)) ∧ (fmtN v).length ≤ r.length := by
  have hl := while_len r
  have ha := while_all r
  unfold psrU at h
  generalize r.takeWhile isd = i at *
  generalize r.dropWhile isd = d at *
  split at h
  · cases h
  rename_i hno
  have hi : 1 ≤ i.length := by omega
  have hd := dgs_len (val i) i.length (val_lt i ha) hi
  rcases d with _ | ⟨c, f⟩
  · obtain ⟨h1, h2⟩ := fin_ok h
    refine ⟨_, h1, h2, ?_⟩
    unfold fmtN
    rw [Nat.mul_div_cancel _ (by omega), Nat.mul_mod_left, if_pos rfl, List.append_nil]
    simp at hl; omega
  · dsimp only at h
    split at h
    · rename_i hc
      obtain ⟨-, f1, f2, f3⟩ := hc
      have hlt := frac_lt f f2 f3
      obtain ⟨h1, h2⟩ := fin_ok h
      refine ⟨_, h1, h2, ?_⟩
      have hz : val f * 10 ^ (6 - f.length) * 10 ^ f.length % 1000000 = 0 := by
        rw [Nat.mul_assoc, ← Nat.pow_add, show 6 - f.length + f.length = 6 by omega]
        exact Nat.mul_mod_left _ _
      generalize val f * 10 ^ (6 - f.length) = p at *
      have hs := frc_short 6 f.length p hlt hz
      unfold fmtN
      rw [show (val i * 1000000 + p) / 1000000 = val i by omega, show (val i * 1000000 + p) % 1000000 = p by omega, List.length_append]
      simp only [List.length_cons] at hl
      split
      · simp; omega
      · simp only [List.length_cons]; omega
    · cases h
/-- What Parse answers is within the limit, and its text is no longer than what was parsed. -/
theorem psr_short {l : List UInt8} {n : Int} (h : psr l = (n, 0)) : clp n = n ∧ (fmt n).length ≤ l.length := by
  unfold psr at h
  split at h
  · rename_i hh
    obtain ⟨v, h1, h2, h3⟩ := psrU_short h
    rcases l with _ | ⟨c, t⟩
    · cases hh
    rw [if_pos rfl] at h2
    subst h2
    refine ⟨clp_in (by unfold lim; omega) (by unfold lim; omega), ?_⟩
    unfold fmt
    rw [Int.natAbs_neg, Int.natAbs_natCast, List.length_append, List.length_cons]
    rw [List.tail_cons] at h3
    split
    · simp only [List.length_cons, List.length_nil]; omega
    · simp only [List.length_nil]; omega
  · obtain ⟨v, h1, h2, h3⟩ := psrU_short h
    rw [if_neg (by simp)] at h2
    subst h2
    refine ⟨clp_in (by unfold lim; omega) (by unfold lim; omega), ?_⟩
    unfold fmt
    rw [Int.natAbs_natCast, if_neg (by omega), List.nil_append]
    exact h3
theorem fin_err (neg : Bool) (v : Nat) : (fin neg v).2 = 0 ∨ (fin neg v).2 = 2 := by
  unfold fin; split
  · exact .inr rfl
  · exact .inl rfl
theorem psr_err (l : List UInt8) : (psr l).2 = 0 ∨ (psr l).2 = 2 ∨ (psr l).2 = 6 := by
  have key : ∀ neg r, (psrU neg r).2 = 0 ∨ (psrU neg r).2 = 2 ∨ (psrU neg r).2 = 6 := by
    intro neg r
    unfold psrU
    split
    · exact .inr (.inr rfl)
    · split
      · rcases fin_err neg (val (r.takeWhile isd) * 1000000) with h | h
        · exact .inl h
        · exact .inr (.inl h)
      · split
        · rename_i c f _ _
          rcases fin_err neg (val (r.takeWhile isd) * 1000000 + val f * 10 ^ (6 - f.length)) with h | h
          · exact .inl h
          · exact .inr (.inl h)
        · exact .inr (.inr rfl)
  unfold psr
  split <;> exact key _ _
theorem psr_num (l : List UInt8) : -1000000000000 ≤ (psr l).1 ∧ (psr l).1 ≤ 1000000000000 := by
  have kf : ∀ neg v, -1000000000000 ≤ (fin neg v).1 ∧ (fin neg v).1 ≤ 1000000000000 := by
    intro neg v
    unfold fin
    split
    · exact ⟨by decide, by decide⟩
    · rename_i hv
      cases neg
      · simp; omega
      · simp; omega
  have key : ∀ neg r, -1000000000000 ≤ (psrU neg r).1 ∧ (psrU neg r).1 ≤ 1000000000000 := by
    intro neg r
    unfold psrU
    split
    · exact ⟨by decide, by decide⟩
    · split
      · exact kf _ _
      · split
        · exact kf _ _
        · exact ⟨by decide, by decide⟩
  unfold psr
  split <;> exact key _ _
/-! A text that is cut at its point. -/
def notpt (x : UInt8) : Bool := decide (x ≠ 46)
theorem isd_notpt {x : UInt8} (h : isd x = true) : notpt x = true := by
  unfold notpt
  refine decide_eq_true fun e => ?_
  subst e
  revert h; decide
def wholeOk (i : List UInt8) : Bool := i.all isd && decide (i ≠ []) && decide (i.length ≤ 7) && (decide (i = [48]) || decide (i.head? ≠ some 48))
def fracOk (f : List UInt8) : Bool := f.all isd && decide (f ≠ []) && decide (f.length ≤ 6)
/-- Parse behind the sign, with the text cut at its first point. -/
def psrC (neg : Bool) (i : List UInt8) (pt : Bool) (f : List UInt8) : Int × Int :=
  if wholeOk i = true ∧ (pt = true → fracOk f = true) then fin neg (val i * 1000000 + val f * 10 ^ (6 - f.length)) else (0, 6)
theorem psrC_yes {neg pt : Bool} {i f : List UInt8} (h : wholeOk i = true) (h2 : pt = true → fracOk f = true) : psrC neg i pt f = fin neg (val i * 1000000 + val f * 10 ^ (6 - f.length)) := if_pos ⟨h, h2⟩
theorem psrC_no {neg pt : Bool} {i f : List UInt8} (h : ¬ (wholeOk i = true ∧ (pt = true → fracOk f = true))) : psrC neg i pt f = (0, 6) := if_neg h
theorem take_pt {i : List UInt8} (h : i.all isd = true) (r : List UInt8) : (i ++ 46 :: r).takeWhile notpt = i ∧ (i ++ 46 :: r).dropWhile notpt = 46 :: r := by
  have h2 : ∀ x ∈ i, notpt x = true := fun x hx => isd_notpt (List.all_eq_true.1 h x hx)
  rw [List.takeWhile_append_of_pos h2, List.dropWhile_append_of_pos h2]
  simp [notpt]
theorem wholeOk_iff (i : List UInt8) (ha : i.all isd = true) : wholeOk i = true ↔ ¬ (i.length = 0 ∨ 7 < i.length ∨ (1 < i.length ∧ i.head? = some 48)) := by
  unfold wholeOk
  rw [ha]
  rcases i with _ | ⟨x, t⟩
  · simp
  · simp only [Bool.true_and, Bool.and_eq_true, Bool.or_eq_true, decide_eq_true_eq, List.length_cons, List.head?_cons, ne_eq, Option.some.injEq]
    constructor
    · rintro ⟨⟨-, h1⟩, h2⟩ (h | h | ⟨h3, h4⟩)
      · omega
      · omega
      · rcases h2 with h2 | h2
        · injection h2 with _ h5; subst h5; simp at h3
        · exact h2 h4
    · intro h
      refine ⟨⟨by simp, by omega⟩, ?_⟩
      by_cases hx : x = 48
      · left
        subst hx
        have : ¬ (1 < t.length + 1) := fun h1 => h (.inr (.inr ⟨h1, rfl⟩))
        rcases t with _ | ⟨y, t⟩
        · rfl
        · simp at this
      · right
        exact hx
theorem psrU_whole (neg : Bool) (i : List UInt8) (hi : ∀ x ∈ i, notpt x = true) : psrU neg i = psrC neg i false [] := by
  by_cases ha : i.all isd = true
  · have h1 : ∀ x ∈ i, isd x = true := fun x hx => List.all_eq_true.1 ha x hx
    obtain ⟨s1, s2⟩ := while_split i [] h1 (.inl rfl)
    rw [List.append_nil] at s1 s2
    unfold psrU
    rw [s1, s2]
    by_cases hw : wholeOk i = true
    · rw [if_neg ((wholeOk_iff i ha).1 hw), psrC_yes hw (fun h => by cases h)]
      show _ = fin neg (val i * 1000000 + 0 * _)
      rw [Nat.zero_mul, Nat.add_zero]
    · rw [psrC_no (fun h => hw h.1), if_pos]
      exact Classical.not_not.1 (fun h => hw ((wholeOk_iff i ha).2 h))
  · have hw : wholeOk i = false := by unfold wholeOk; rw [Bool.eq_false_iff.2 ha]; rfl
    rw [psrC_no (fun h => by rw [hw] at h; exact absurd h.1 (by decide))]
    unfold psrU
    split
    · rfl
    · have hdw := List.takeWhile_append_dropWhile (p := isd) (l := i)
      rcases hd : i.dropWhile isd with _ | ⟨c, f⟩
      · exfalso
        rw [hd, List.append_nil] at hdw
        exact ha (by rw [← hdw]; exact List.all_eq_true.2 (while_all i))
      · refine if_neg ?_
        rintro ⟨rfl, -⟩
        have : (46 : UInt8) ∈ i := by rw [← hdw, hd]; simp
        have := hi _ this
        revert this; decide
theorem psrU_point (neg : Bool) (i f : List UInt8) (hi : ∀ x ∈ i, notpt x = true) : psrU neg (i ++ 46 :: f) = psrC neg i true f := by
  by_cases ha : i.all isd = true
  · have h1 : ∀ x ∈ i, isd x = true := fun x hx => List.all_eq_true.1 ha x hx
    obtain ⟨s1, s2⟩ := while_split i (46 :: f) h1 (.inr ⟨f, rfl⟩)
    unfold psrU
    rw [s1, s2]
    by_cases hw : wholeOk i = true
    · rw [if_neg ((wholeOk_iff i ha).1 hw)]
      have hf : ((46 : UInt8) = 46 ∧ 1 ≤ f.length ∧ f.length ≤ 6 ∧ f.all isd = true) ↔ (wholeOk i = true ∧ (true = true → fracOk f = true)) := by
        unfold fracOk
        rw [hw]
        constructor
        · rintro ⟨-, g1, g2, g3⟩
          refine ⟨rfl, fun _ => ?_⟩
          rw [g3, decide_eq_true g2, decide_eq_true (show f ≠ [] from fun e => by subst e; simp at g1)]
          rfl
        · rintro ⟨-, h⟩
          have h := h rfl
          rw [Bool.and_eq_true, Bool.and_eq_true, decide_eq_true_eq, decide_eq_true_eq] at h
          obtain ⟨⟨g1, g2⟩, g3⟩ := h
          refine ⟨rfl, ?_, g3, g1⟩
          rcases f with _ | ⟨x, f⟩
          · exact absurd rfl g2
          · simp
      by_cases hc : wholeOk i = true ∧ (true = true → fracOk f = true)
      · rw [psrC_yes hc.1 hc.2]
        exact if_pos (hf.2 hc)
      · rw [psrC_no hc]
        exact if_neg (fun h => hc (hf.1 h))
    · rw [psrC_no (fun h => hw h.1), if_pos]
      exact Classical.not_not.1 (fun h => hw ((wholeOk_iff i ha).2 h))
  · have hw : wholeOk i = false := by unfold wholeOk; rw [Bool.eq_false_iff.2 ha]; rfl
    rw [psrC_no (fun h => by rw [hw] at h; exact absurd h.1 (by decide))]
    unfold psrU
    split
    · rfl
    · obtain ⟨a, c, t, e, hat, hct⟩ : ∃ (a : List UInt8) (c : UInt8) (t : List UInt8), i = a ++ c :: t ∧ (∀ x ∈ a, isd x = true) ∧ isd c = false := by
        have hdw := List.takeWhile_append_dropWhile (p := isd) (l := i)
        rcases hd : i.dropWhile isd with _ | ⟨c, t⟩
        · exfalso
          rw [hd, List.append_nil] at hdw
          exact ha (by rw [← hdw]; exact List.all_eq_true.2 (while_all i))
        · refine ⟨_, c, t, by rw [← hd, hdw], while_all i, ?_⟩
          have := List.head?_dropWhile_not isd i
          rw [hd] at this
          simpa using this
      have hd : (i ++ 46 :: f).dropWhile isd = c :: (t ++ 46 :: f) := by
        rw [e, List.append_assoc, List.dropWhile_append_of_pos hat]
        simp [hct]
      rw [hd]
      refine if_neg ?_
      rintro ⟨rfl, -⟩
      have : (46 : UInt8) ∈ i := by rw [e]; simp
      have := hi _ this
      revert this; decide
/-! A text by its digits. -/
theorem dgs_seven (p : Nat) (hp : p < 1000000) : ∃ f, dgs (1000000 + p) = 49 :: f ∧ f.length = 6 ∧ val f = p ∧ f.all isd = true := by
  obtain ⟨v1, v2, v3⟩ := val_dgs (1000000 + p)
  have h7 := dgs_len (1000000 + p) 7 (by omega) (by omega)
  have hlt := val_lt _ v2
  rw [v1] at hlt
  have hge : 7 ≤ (dgs (1000000 + p)).length := by
    rcases Nat.lt_or_ge (dgs (1000000 + p)).length 7 with h | h
    · have := Nat.pow_le_pow_right (show 0 < 10 by omega) (show (dgs (1000000 + p)).length ≤ 6 by omega)
      omega
    · exact h
  rcases hd : dgs (1000000 + p) with _ | ⟨x, f⟩
  · rw [hd] at hge; simp at hge
  · rw [hd] at v1 v2 h7 hge
    simp only [List.length_cons] at h7 hge
    have hf6 : f.length = 6 := by omega
    have hfa : ∀ y ∈ f, isd y = true := fun y hy => v2 y (List.mem_cons_of_mem _ hy)
    have hx := v2 x List.mem_cons_self
    have hvl := val_lt f hfa
    rw [val_cons, hf6] at v1
    rw [hf6] at hvl
    have hdx : dv x = 1 := by omega
    refine ⟨f, ?_, hf6, by omega, List.all_eq_true.2 hfa⟩
    have : x = 49 := by
      unfold isd at hx
      rw [decide_eq_true_eq] at hx
      unfold dv at hdx
      exact UInt8.toNat_inj.1 (by rw [show x.toNat = 49 by omega]; rfl)
    rw [this]
theorem dgs_whole (w : Nat) (hw : w < 10000000) : wholeOk (dgs w) = true := by
  obtain ⟨v1, v2, v3⟩ := val_dgs w
  have hl := dgs_len w 7 (by omega) (by omega)
  rw [wholeOk_iff _ (List.all_eq_true.2 v2)]
  rintro (h | h | ⟨h1, h2⟩)
  · omega
  · omega
  · by_cases h0 : w = 0
    · rw [h0, dgs_small (by omega)] at h1; simp at h1
    · exact dgs_head _ (by omega) h2
/-- The text of w and six digits f, with or without a sign. -/
def decT (neg : Bool) (w : Nat) (f : List UInt8) : List UInt8 := (if neg then [45] else []) ++ (dgs w ++ 46 :: f)
theorem decU (w : Nat) : ∀ x ∈ dgs w, notpt x = true := fun x hx => isd_notpt ((val_dgs w).2.1 x hx)
theorem psr_cons (t : List UInt8) : psr (45 :: t) = psrU true t := by unfold psr; rw [if_pos (by simp), List.tail_cons]
theorem psr_plain {l : List UInt8} (h : l.head? ≠ some 45) : psr l = psrU false l := by unfold psr; rw [if_neg h]
theorem dgs_first (w : Nat) (r : List UInt8) : (dgs w ++ r).head? ≠ some 45 := by
  obtain ⟨-, v2, v3⟩ := val_dgs w
  rcases hd : dgs w with _ | ⟨x, t⟩
  · rw [hd] at v3; simp at v3
  · rw [hd] at v2
    have := v2 x (by simp)
    intro e
    simp at e
    subst e
    revert this; decide
theorem psr_dec (neg : Bool) (w p : Nat) (f : List UInt8) (hw : w < 1000000) (hf : f.length = 6) (hv : val f = p) (hp : p < 1000000) (ha : f.all isd = true) :
    psr (decT neg w f) = (if neg then -((w * 1000000 + p : Nat) : Int) else ((w * 1000000 + p : Nat) : Int), 0) := by
  have hc : psrU neg (dgs w ++ 46 :: f) = (if neg then -((w * 1000000 + p : Nat) : Int) else ((w * 1000000 + p : Nat) : Int), 0) := by
    rw [psrU_point neg _ f (decU w)]
    rw [psrC_yes (dgs_whole w (by omega)) (fun _ => by unfold fracOk; rw [ha, hf, decide_eq_true (show f ≠ [] from fun e => by subst e; simp at hf)]; rfl)]
    rw [hf, Nat.sub_self, Nat.pow_zero, Nat.mul_one, (val_dgs w).1, hv]
    unfold fin
    rw [if_neg (by omega)]
  unfold decT
  cases neg
  · show psr ([] ++ _) = _
    rw [List.nil_append, psr_plain (dgs_first w _), hc]
  · show psr ([45] ++ _) = _
    rw [List.singleton_append, psr_cons, hc]
theorem psr_dec_long (neg : Bool) (w : Nat) (f : List UInt8) (hf : f.length = 6) (c : UInt8) : psr (decT neg w f ++ [c]) = (0, 6) := by
  have hc : psrU neg (dgs w ++ 46 :: (f ++ [c])) = (0, 6) := by
    rw [psrU_point neg _ _ (decU w)]
    refine psrC_no ?_
    rintro ⟨-, h⟩
    have h := h rfl
    unfold fracOk at h
    rw [Bool.and_eq_true, decide_eq_true_eq, List.length_append, hf] at h
    exact absurd h.2 (by simp)
  unfold decT
  cases neg
  · show psr (([] ++ _) ++ [c]) = _
    rw [List.nil_append, List.append_assoc, psr_plain (dgs_first w _)]
    exact hc
  · show psr (([45] ++ _) ++ [c]) = _
    rw [List.append_assoc, List.singleton_append, psr_cons, List.append_assoc]
    exact hc
theorem psr_dec_zero (neg : Bool) (w : Nat) (f : List UInt8) : psr (48 :: decT neg w f) = (0, 6) := by
  rw [psr_plain (by simp)]
  have e0 : isd 48 = true := by decide
  have e1 : isd 45 = false := by decide
  unfold decT
  cases neg
  · show psrU false (48 :: ([] ++ (dgs w ++ 46 :: f))) = _
    rw [List.nil_append, ← List.cons_append, psrU_point false (48 :: dgs w) f (by
      intro x hx
      rcases List.mem_cons.1 hx with rfl | hx
      · decide
      · exact decU w x hx)]
    refine psrC_no ?_
    rintro ⟨h, -⟩
    rw [wholeOk_iff _ (by rw [List.all_cons, e0]; exact List.all_eq_true.2 (val_dgs w).2.1)] at h
    exact h (.inr (.inr ⟨by have := (val_dgs w).2.2; rw [List.length_cons]; omega, rfl⟩))
  · show psrU false (48 :: ([45] ++ (dgs w ++ 46 :: f))) = _
    unfold psrU
    rw [show (48 :: ([45] ++ (dgs w ++ 46 :: f))).takeWhile isd = [48] by simp [e0, e1], show (48 :: ([45] ++ (dgs w ++ 46 :: f))).dropWhile isd = 45 :: (dgs w ++ 46 :: f) by simp [e0, e1]]
    rw [if_neg (by simp)]
    show (if (45 : UInt8) = 46 ∧ _ then _ else _) = _
    rw [if_neg (fun h => absurd h.1 (by decide))]
end Go.Proofs.YtnkhmhcgcmacgaaDoor.M3r
