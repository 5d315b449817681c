/- Plain mathematics of filters: what is in the middle of a window; the next window. -/
import Derived.Test.YtekhpcfggbegaaaS09
namespace Go.Proofs.Ytekhpcfggbegaaa.Ja
set_option maxRecDepth 100000

theorem num_inj (s : Bool) {x y : UInt8} (h : C4p.num s x = C4p.num s y) : x = y := by
  have hx := x.toNat_lt
  have hy := y.toNat_lt
  apply UInt8.toNat_inj.1
  unfold C4p.num at h
  split at h <;> split at h <;> omega
theorem num_bd (s : Bool) (x : UInt8) : -128 ≤ C4p.num s x ∧ C4p.num s x ≤ 255 := by
  have hx := x.toNat_lt
  unfold C4p.num
  split <;> omega
/-- How many are below, and not above. -/
def lo (s : Bool) (l : List UInt8) (x : Int) : Nat := l.countP fun y => decide (C4p.num s y < x)
def le (s : Bool) (l : List UInt8) (x : Int) : Nat := l.countP fun y => decide (C4p.num s y ≤ x)
/-- x is in the middle of l, by number. -/
structure Med (s : Bool) (l : List UInt8) (x : UInt8) : Prop where
  mem : x ∈ l
  low : lo s l (C4p.num s x) ≤ l.length / 2
  high : l.length / 2 < le s l (C4p.num s x)
theorem le_lo (s : Bool) (l : List UInt8) {x y : Int} (h : x < y) : le s l x ≤ lo s l y := by
  unfold le lo
  refine List.countP_mono_left fun z _ hz => ?_
  have : C4p.num s z ≤ x := by simpa using hz
  simp; omega
theorem Med.one {s : Bool} {l : List UInt8} {x y : UInt8} (h : Med s l x) (k : Med s l y) : x = y := by
  apply num_inj s
  rcases Int.lt_trichotomy (C4p.num s x) (C4p.num s y) with h1 | h1 | h1
  · have := le_lo s l h1; have := h.high; have := k.low; omega
  · exact h1
  · have := le_lo s l h1; have := k.high; have := h.low; omega
theorem lo_perm {s : Bool} {l m : List UInt8} (h : m.Perm l) (x : Int) : lo s m x = lo s l x := h.countP_eq _
theorem le_perm {s : Bool} {l m : List UInt8} (h : m.Perm l) (x : Int) : le s m x = le s l x := h.countP_eq _
theorem Med.perm {s : Bool} {l m : List UInt8} {x : UInt8} (h : Med s m x) (p : m.Perm l) : Med s l x :=
  ⟨p.mem_iff.1 h.mem, by rw [← lo_perm p, ← p.length_eq]; exact h.low, by rw [← le_perm p, ← p.length_eq]; exact h.high⟩
theorem getD_at {l : List UInt8} {i : Nat} (h : i < l.length) : l.getD i 0 = l[i] := by
  rw [List.getD_eq_getElem?_getD, List.getElem?_eq_getElem h]; rfl
theorem count_lo {p : UInt8 → Bool} (m : List UInt8) (h : Nat) (hp : ∀ i, h ≤ i → i < m.length → p (m.getD i 0) = false) : m.countP p ≤ h := by
  have e : m.countP p = (m.take h).countP p + (m.drop h).countP p := by rw [← List.countP_append, List.take_append_drop]
  have h1 : (m.drop h).countP p = 0 := by
    rw [List.countP_eq_zero]
    intro y hy
    obtain ⟨i, hi, rfl⟩ := List.mem_iff_getElem.1 hy
    rw [List.length_drop] at hi
    rw [List.getElem_drop, ← getD_at (by omega), hp (h + i) (by omega) (by omega)]
    simp
  have h2 : (m.take h).countP p ≤ (m.take h).length := List.countP_le_length
  rw [List.length_take] at h2
  omega
theorem count_hi {p : UInt8 → Bool} (m : List UInt8) (h : Nat) (hh : h ≤ m.length) (hp : ∀ i, i < h → p (m.getD i 0) = true) : h ≤ m.countP p := by
  have e : (m.take h).countP p ≤ m.countP p := (List.take_sublist _ _).countP_le
  have hl : (m.take h).length = h := by rw [List.length_take]; omega
  have h1 : (m.take h).countP p = (m.take h).length := by
    rw [List.countP_eq_length]
    intro y hy
    obtain ⟨i, hi, rfl⟩ := List.mem_iff_getElem.1 hy
    rw [List.getElem_take, ← getD_at (by omega)]
    exact hp i (by omega)
  omega
/-- What stands in the middle of a sorted list. -/
theorem med_sorted {s : Bool} {m : List UInt8} (h0 : 0 < m.length) (hs : ∀ i j, i < j → j < m.length → C4p.num s (m.getD i 0) ≤ C4p.num s (m.getD j 0)) : Med s m (m.getD (m.length / 2) 0) := by
  have hk : m.length / 2 < m.length := by omega
  refine ⟨?_, ?_, ?_⟩
  · rw [getD_at hk]; exact List.getElem_mem _
  · refine count_lo m _ fun i h1 h2 => ?_
    have : C4p.num s (m.getD (m.length / 2) 0) ≤ C4p.num s (m.getD i 0) := by
      by_cases e : i = m.length / 2
      · rw [e]; exact Int.le_refl _
      · exact hs _ _ (by omega) h2
    exact decide_eq_false (by omega)
  · refine count_hi m (m.length / 2 + 1) (by omega) fun i h1 => ?_
    have : C4p.num s (m.getD i 0) ≤ C4p.num s (m.getD (m.length / 2) 0) := by
      by_cases e : i = m.length / 2
      · rw [e]; exact Int.le_refl _
      · exact hs _ _ (by omega) hk
    exact decide_eq_true this
/-- How many have the number x. -/
def eqc (s : Bool) (l : List UInt8) (x : Int) : Nat := l.countP fun y => decide (C4p.num s y = x)
theorem le_split (s : Bool) (x : Int) : ∀ l : List UInt8, le s l x = lo s l x + eqc s l x
  | [] => rfl
  | y :: l => by
    have ih := le_split s x l
    unfold le lo eqc at *
    rw [List.countP_cons, List.countP_cons, List.countP_cons, ih]
    by_cases h1 : C4p.num s y < x
    · have h2 : C4p.num s y ≤ x := by omega
      have h3 : ¬ C4p.num s y = x := by omega
      simp only [h1, h2, h3, decide_true, decide_false, if_true]
      simp; omega
    · by_cases h3 : C4p.num s y = x
      · simp [h3]; omega
      · have h2 : ¬ C4p.num s y ≤ x := by omega
        simp [h1, h2, h3]
/-- How many stand before the element i, by number and then by place, among the first k. -/
def bef (s : Bool) (l : List UInt8) (i : Nat) : Nat → Nat
  | 0 => 0
  | k + 1 => if C4p.num s (l.getD k 0) < C4p.num s (l.getD i 0) ∨ C4p.num s (l.getD k 0) = C4p.num s (l.getD i 0) ∧ k < i then bef s l i k + 1 else bef s l i k
theorem take_succ_getD {l : List UInt8} {k : Nat} (h : k < l.length) : l.take (k + 1) = l.take k ++ [l.getD k 0] := by
  rw [List.take_succ_eq_append_getElem h, List.getD_eq_getElem?_getD, List.getElem?_eq_getElem h]; rfl
theorem bef_eq (s : Bool) (l : List UInt8) (i : Nat) : ∀ k, k ≤ l.length → bef s l i k = lo s (l.take k) (C4p.num s (l.getD i 0)) + eqc s (l.take (min k i)) (C4p.num s (l.getD i 0))
  | 0, _ => by simp [lo, eqc, bef]
  | k + 1, h => by
    have ih := bef_eq s l i k (by omega)
    unfold bef
    by_cases hki : k < i
    · rw [show min (k + 1) i = k + 1 by omega]
      rw [show min k i = k by omega] at ih
      rw [take_succ_getD (by omega), ih]
      unfold lo eqc
      rw [List.countP_append, List.countP_append, List.countP_singleton, List.countP_singleton]
      by_cases e1 : C4p.num s (l.getD k 0) < C4p.num s (l.getD i 0)
      · have e2 : ¬ C4p.num s (l.getD k 0) = C4p.num s (l.getD i 0) := by omega
        rw [if_pos (Or.inl e1), if_pos (by simpa using e1), if_neg (by simpa using e2)]; omega
      · by_cases e2 : C4p.num s (l.getD k 0) = C4p.num s (l.getD i 0)
        · rw [if_pos (Or.inr ⟨e2, hki⟩), if_neg (by simpa using e1), if_pos (by simpa using e2)]; omega
        · rw [if_neg (by rintro (h | h); exact e1 h; exact e2 h.1), if_neg (by simpa using e1), if_neg (by simpa using e2)]; omega
    · rw [show min (k + 1) i = i by omega]
      rw [show min k i = i by omega] at ih
      rw [take_succ_getD (by omega), ih]
      unfold lo
      rw [List.countP_append, List.countP_singleton]
      by_cases e1 : C4p.num s (l.getD k 0) < C4p.num s (l.getD i 0)
      · rw [if_pos (Or.inl e1), if_pos (by simpa using e1)]; omega
      · rw [if_neg (by rintro (h | h); exact e1 h; exact hki h.2), if_neg (by simpa using e1)]; omega
theorem bef_all (s : Bool) (l : List UInt8) (i : Nat) (hi : i < l.length) : bef s l i l.length = lo s l (C4p.num s (l.getD i 0)) + eqc s (l.take i) (C4p.num s (l.getD i 0)) := by
  rw [bef_eq s l i l.length (Nat.le_refl _), List.take_length, show min l.length i = i by omega]
/-- The element that has half of the others before it is in the middle. -/
theorem bef_med {s : Bool} {l : List UInt8} {i : Nat} (hi : i < l.length) (h : bef s l i l.length = l.length / 2) : Med s l (l.getD i 0) := by
  rw [bef_all s l i hi] at h
  refine ⟨?_, by omega, ?_⟩
  · rw [List.getD_eq_getElem?_getD, List.getElem?_eq_getElem hi]
    exact List.getElem_mem _
  · rw [le_split]
    have h1 : eqc s (l.take (i + 1)) (C4p.num s (l.getD i 0)) ≤ eqc s l (C4p.num s (l.getD i 0)) := (List.take_sublist _ _).countP_le
    rw [take_succ_getD hi] at h1
    have h2 : eqc s (l.take i ++ [l.getD i 0]) (C4p.num s (l.getD i 0)) = eqc s (l.take i) (C4p.num s (l.getD i 0)) + 1 := by
      unfold eqc
      rw [List.countP_append, List.countP_singleton, if_pos (by simp)]
    omega
theorem nth_ex {p : UInt8 → Bool} : ∀ (l : List UInt8) (j : Nat), j < l.countP p → ∃ i, ∃ h : i < l.length, p l[i] = true ∧ (l.take i).countP p = j
  | [], j, h => by simp at h
  | x :: l, j, h => by
    rw [List.countP_cons] at h
    by_cases hx : p x = true
    · rw [if_pos hx] at h
      rcases j with _ | j
      · exact ⟨0, by simp, hx, rfl⟩
      · obtain ⟨i, hi, h1, h2⟩ := nth_ex (p := p) l j (by omega)
        exact ⟨i + 1, by simp; omega, h1, by rw [List.take_succ_cons, List.countP_cons, if_pos hx, h2]⟩
    · rw [if_neg hx] at h
      obtain ⟨i, hi, h1, h2⟩ := nth_ex (p := p) l j (by omega)
      exact ⟨i + 1, by simp; omega, h1, by rw [List.take_succ_cons, List.countP_cons, if_neg hx, h2]; rfl⟩
theorem bef_ex {s : Bool} {l : List UInt8} {x : UInt8} (h : Med s l x) : ∃ i, i < l.length ∧ bef s l i l.length = l.length / 2 := by
  have h1 := h.low
  have h2 := h.high
  rw [le_split] at h2
  obtain ⟨i, hi, h3, h4⟩ := nth_ex (p := fun y => decide (C4p.num s y = C4p.num s x)) l (l.length / 2 - lo s l (C4p.num s x)) (by unfold eqc at h2; omega)
  have h5 : C4p.num s l[i] = C4p.num s x := by simpa using h3
  refine ⟨i, hi, ?_⟩
  have h6 : l.getD i 0 = l[i] := by rw [List.getD_eq_getElem?_getD, List.getElem?_eq_getElem hi]; rfl
  rw [bef_all s l i hi, h6, h5]
  unfold eqc
  rw [h4]; omega
/-- A window with a sample behind the others, no longer than k. -/
def push (l : List UInt8) (x : UInt8) (k : Nat) : List UInt8 := if k < l.length + 1 then (l ++ [x]).drop 1 else l ++ [x]
theorem push_len (l : List UInt8) (x : UInt8) (k : Nat) : (push l x k).length = if k < l.length + 1 then l.length else l.length + 1 := by
  unfold push
  split <;> simp
/-- The filter (l, m) is one of a sensor. -/
def vf (v : Bool) (k : Int) (l : List UInt8) (m : Int) : Bool := v && (decide ((l.length : Int) ≤ k) && (decide (0 ≤ m) && (decide (m ≤ 3) && (decide (m < 3) || decide (l.length = 0)))))
end Go.Proofs.Ytekhpcfggbegaaa.Ja
