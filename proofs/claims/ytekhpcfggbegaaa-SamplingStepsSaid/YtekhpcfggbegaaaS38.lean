/- Mathematics of sorting in place: bytes read as numbers, swaps, what a segment keeps. -/
import Derived.Test.YtekhpcfggbegaaaS01
namespace Go.Proofs.Ytekhpcfggbegaaa.So
set_option maxRecDepth 100000

def gv (l : List UInt8) (i : Nat) : Nat := (l.getD i 0).toNat
def sw (l : List UInt8) (i j : Nat) : List UInt8 := (l.set i (l.getD j 0)).set j (l.getD i 0)
theorem gv_at {l : List UInt8} {i : Nat} (h : i < l.length) : l[i].toNat = gv l i := by
  unfold gv; rw [List.getD_eq_getElem?_getD, List.getElem?_eq_getElem h]; rfl
theorem gv_lt (l : List UInt8) (i : Nat) : gv l i < 256 := (l.getD i 0).toNat_lt
theorem sw_len (l : List UInt8) (i j : Nat) : (sw l i j).length = l.length := by simp [sw]
theorem gv_set {l : List UInt8} {i : Nat} (x : UInt8) (h : i < l.length) (k : Nat) : gv (l.set i x) k = if k = i then x.toNat else gv l k := by
  unfold gv
  rw [List.getD_eq_getElem?_getD, List.getElem?_set, List.getD_eq_getElem?_getD]
  by_cases e : i = k
  · subst e; simp [h]
  · simp [e, show ¬ k = i from fun e' => e e'.symm]
theorem gv_sw {l : List UInt8} {i j : Nat} (hi : i < l.length) (hj : j < l.length) (k : Nat) : gv (sw l i j) k = if k = j then gv l i else if k = i then gv l j else gv l k := by
  unfold sw
  rw [gv_set _ (by simpa using hj), gv_set _ hi]
  rfl
theorem sw_perm {l : List UInt8} {i j : Nat} (hi : i < l.length) (hj : j < l.length) : (sw l i j).Perm l := by
  have ei : l.getD i 0 = l[i] := by rw [List.getD_eq_getElem?_getD, List.getElem?_eq_getElem hi]; rfl
  have ej : l.getD j 0 = l[j] := by rw [List.getD_eq_getElem?_getD, List.getElem?_eq_getElem hj]; rfl
  rw [List.perm_iff_count]
  intro b
  have hj' : j < (l.set i l[j]).length := by simpa using hj
  unfold sw
  rw [ei, ej, List.count_set (h := hj'), List.count_set (h := hi)]
  have hg : (l.set i l[j])[j] = l[j] := by
    rw [List.getElem_set]; split <;> rfl
  rw [hg]
  have c1 : (l[i] == b) = true → 1 ≤ l.count b := fun h => by
    have : l[i] = b := by simpa using h
    rw [← this]; exact List.count_pos_iff.2 (List.getElem_mem _)
  by_cases h1 : (l[i] == b) = true
  · have := c1 h1
    by_cases h2 : (l[j] == b) = true <;> simp [h1, h2] <;> omega
  · by_cases h2 : (l[j] == b) = true <;> simp [h1, h2]
/-- l' is l with the places from a to b - 1 in another order. -/
structure Seg (a b : Nat) (l l' : List UInt8) : Prop where
  perm : l'.Perm l
  out : ∀ k, k < a ∨ b ≤ k → gv l' k = gv l k
section
variable {a b : Nat} {l l' l'' : List UInt8}
theorem Seg.refl (a b : Nat) (l : List UInt8) : Seg a b l l := ⟨.refl _, fun _ _ => rfl⟩
theorem Seg.len (h : Seg a b l l') : l'.length = l.length := h.perm.length_eq
theorem Seg.trans (h : Seg a b l l') (k : Seg a b l' l'') : Seg a b l l'' := ⟨k.perm.trans h.perm, fun q hq => (k.out q hq).trans (h.out q hq)⟩
theorem Seg.mono {a' b' : Nat} (h : Seg a b l l') (ha : a' ≤ a) (hb : b ≤ b') : Seg a' b' l l' := ⟨h.perm, fun q hq => h.out q (by omega)⟩
theorem Seg.sw (h : Seg a b l l') {i j : Nat} (hi : a ≤ i) (hi2 : i < b) (hj : a ≤ j) (hj2 : j < b) (hb : b ≤ l.length) : Seg a b l (sw l' i j) := by
  have hl := h.len
  refine ⟨(sw_perm (by omega) (by omega)).trans h.perm, fun q hq => ?_⟩
  rw [gv_sw (by omega) (by omega), if_neg (by omega), if_neg (by omega)]
  exact h.out q hq
theorem gv_inj {x y : UInt8} (h : x.toNat = y.toNat) : x = y := UInt8.toNat_inj.1 h
theorem Seg.all (h : Seg a b l l') (hb : b ≤ l.length) {P : Nat → Prop} (hP : ∀ k, a ≤ k → k < b → P (gv l k)) : ∀ k, a ≤ k → k < b → P (gv l' k) := by
  intro k hk hk2
  have hl := h.len
  have hout : ∀ q, (q < a ∨ b ≤ q) → l'[q]? = l[q]? := by
    intro q hq
    have := h.out q hq
    by_cases hql : q < l.length
    · rw [List.getElem?_eq_getElem hql, List.getElem?_eq_getElem (by omega)]
      rw [← gv_at hql, ← gv_at (by omega)] at this
      rw [gv_inj this]
    · rw [List.getElem?_eq_none (by omega), List.getElem?_eq_none (by omega)]
  have e1 : l'.take a = l.take a := by
    apply List.ext_getElem?
    intro q
    rw [List.getElem?_take, List.getElem?_take]
    split
    · exact hout q (.inl (by assumption))
    · rfl
  have e2 : l'.drop b = l.drop b := by
    apply List.ext_getElem?
    intro q
    rw [List.getElem?_drop, List.getElem?_drop]
    exact hout _ (.inr (by omega))
  have s1 : ∀ m : List UInt8, m = m.take a ++ ((m.drop a).take (b - a) ++ m.drop b) := by
    intro m
    have : (m.drop a).take (b - a) ++ m.drop b = m.drop a := by
      have := List.take_append_drop (b - a) (m.drop a)
      rw [List.drop_drop, show a + (b - a) = b by omega] at this
      exact this
    rw [this, List.take_append_drop]
  have hp := h.perm
  rw [s1 l', s1 l, e1, e2] at hp
  have hp2 := (List.perm_append_right_iff _).1 ((List.perm_append_left_iff _).1 hp)
  have hmem : l'[k] ∈ (l'.drop a).take (b - a) := by
    refine List.mem_iff_getElem?.2 ⟨k - a, ?_⟩
    rw [List.getElem?_take, if_pos (by omega), List.getElem?_drop, show a + (k - a) = k by omega, List.getElem?_eq_getElem]
  have hm2 := hp2.mem_iff.1 hmem
  obtain ⟨q, hq⟩ := List.mem_iff_getElem?.1 hm2
  rw [List.getElem?_take] at hq
  split at hq
  · rename_i hqb
    rw [List.getElem?_drop] at hq
    have hql : a + q < l.length := by
      rcases Nat.lt_or_ge (a + q) l.length with h2 | h2
      · exact h2
      · rw [List.getElem?_eq_none h2] at hq; cases hq
    rw [List.getElem?_eq_getElem hql] at hq
    have := hP (a + q) (by omega) (by omega)
    rw [← gv_at hql, Option.some.inj hq] at this
    rw [← gv_at (by omega : k < l'.length)]
    exact this
  · cases hq
/-- Sorted from a to b - 1. -/
def Srt (l : List UInt8) (a b : Nat) : Prop := ∀ i j, a ≤ i → i < j → j < b → gv l i ≤ gv l j
theorem Srt.short {l : List UInt8} {a b : Nat} (h : b ≤ a + 1) : Srt l a b := fun i j _ _ _ => by omega
end
end Go.Proofs.Ytekhpcfggbegaaa.So
