/- Plain mathematics of filters: the last samples since the last long gap; the median of the window, counted. -/
import Derived.Test.YtekhpcfggbegaaaS44
namespace Go.Proofs.Ytekhpcfggbegaaa.Jn
open Go.Proofs.Ytekhpcfggbegaaa.Ja Go.Proofs.Ytekhpcfggbegaaa.Jk
set_option maxRecDepth 100000

/-- The numbers since the last long gap, and how many samples are missing now. -/
def nxL (s : Bool) (q : List Int × Nat) (t : Tk) : List Int × Nat :=
  if t.m = false then (q.1 ++ [C4p.num s t.r], 0) else if q.2 + 1 = 3 then ([], 3) else (q.1, q.2 + 1)
def runL (s : Bool) (l : List Tk) : List Int × Nat := l.foldl (nxL s) ([], 0)
theorem runL_snoc (s : Bool) (l : List Tk) (t : Tk) : runL s (l ++ [t]) = nxL s (runL s l) t := by unfold runL; rw [List.foldl_append]; rfl
theorem runL_take {s : Bool} {l : List Tk} {i : Nat} (h : i < l.length) : runL s (l.take (i + 1)) = nxL s (runL s (l.take i)) l[i] := by
  rw [List.take_succ_eq_append_getElem h, runL_snoc]
/-- How the filter and the numbers belong together. -/
def Rl (s : Bool) (k : Nat) (f : List UInt8 × Int) (q : List Int × Nat) : Prop :=
  f.1.map (C4p.num s) = q.1.drop (q.1.length - k) ∧ f.2 = ((min q.2 3 : Nat) : Int) ∧ (3 ≤ q.2 → q.1 = [])
theorem drop_snoc (a : List Int) (v : Int) (k : Nat) (hk : 1 ≤ k) : (a ++ [v]).drop (a.length + 1 - k) = if k < (a.drop (a.length - k)).length + 1 then (a.drop (a.length - k) ++ [v]).drop 1 else a.drop (a.length - k) ++ [v] := by
  rw [List.length_drop]
  by_cases h : k ≤ a.length
  · rw [if_pos (by omega), ← List.drop_append_of_le_length (by omega), List.drop_drop]
    congr 1; omega
  · rw [if_neg (by omega), show a.length - k = 0 by omega, show a.length + 1 - k = 0 by omega, List.drop_zero, List.drop_zero]
theorem Rl.next {s : Bool} {k : Nat} {f : List UInt8 × Int} {q : List Int × Nat} (h : Rl s k f q) (hk : 1 ≤ k) (t : Tk) : Rl s k (nxF k f t) (nxL s q t) := by
  obtain ⟨h1, h2, h3⟩ := h
  unfold nxF nxL
  by_cases hm : t.m = false
  · rw [if_pos hm, if_pos hm]
    refine ⟨?_, by show (0 : Int) = ((min 0 3 : Nat) : Int); rfl, fun h => by simp at h⟩
    show (push f.1 t.r k).map (C4p.num s) = (q.1 ++ [C4p.num s t.r]).drop ((q.1 ++ [C4p.num s t.r]).length - k)
    rw [List.length_append, List.length_singleton, drop_snoc _ _ _ hk, ← h1, List.length_map]
    unfold push
    split
    · rw [List.map_drop, List.map_append]; rfl
    · rw [List.map_append]; rfl
  · rw [if_neg hm, if_neg hm]
    by_cases h4 : q.2 + 1 = 3
    · rw [if_pos h4, if_neg (by omega)]
      exact ⟨by simp, rfl, fun _ => rfl⟩
    · rw [if_neg h4]
      by_cases h5 : f.2 + 1 < 3
      · rw [if_pos h5]
        refine ⟨h1, ?_, fun h => ?_⟩
        · show f.2 + 1 = ((min (q.2 + 1) 3 : Nat) : Int); omega
        · exact h3 (by show 3 ≤ q.2; have : 3 ≤ q.2 + 1 := h; omega)
      · rw [if_neg h5]
        have hq := h3 (by omega)
        refine ⟨?_, ?_, fun _ => hq⟩
        · show [].map (C4p.num s) = q.1.drop (q.1.length - k); rw [hq]; simp
        · show (3 : Int) = ((min (q.2 + 1) 3 : Nat) : Int); omega
theorem Rl.run (s : Bool) (k : Nat) (hk : 1 ≤ k) (l : List Tk) : Rl s k (runF k l) (runL s l) := by
  unfold runF runL
  suffices ∀ (m : List Tk) (f : List UInt8 × Int) (q : List Int × Nat), Rl s k f q → Rl s k (m.foldl (nxF k) f) (m.foldl (nxL s) q) from this l _ _ ⟨by simp, rfl, fun h => by simp at h⟩
  intro m
  induction m with
  | nil => intro f q h; exact h
  | cons t m ih => intro f q h; exact ih _ _ (h.next hk t)
/-- A window is full exactly if there are enough numbers. -/
theorem Rl.full {s : Bool} {k : Nat} {f : List UInt8 × Int} {q : List Int × Nat} (h : Rl s k f q) : decide (f.1.length = k) = decide (k ≤ q.1.length) := by
  have h1 := congrArg List.length h.1
  rw [List.length_map, List.length_drop] at h1
  by_cases hk : k ≤ q.1.length
  · rw [decide_eq_true hk, decide_eq_true (by omega)]
  · rw [decide_eq_false hk, decide_eq_false (by omega)]
theorem lo_map (s : Bool) (x : Int) (l : List UInt8) : lo s l x = (l.map (C4p.num s)).countP (fun y => decide (y < x)) := by
  unfold lo; rw [List.countP_map]; rfl
theorem count3 (x : Int) (l : List Int) : l.countP (fun y => decide (y < x)) + l.countP (fun y => decide (x < y)) + l.countP (fun y => decide (y = x)) = l.length := by
  induction l with
  | nil => rfl
  | cons y l ih =>
    rw [List.countP_cons, List.countP_cons, List.countP_cons, List.length_cons]
    rcases Int.lt_trichotomy y x with h | h | h
    · rw [if_pos (by simpa using h), if_neg (by simp; omega), if_neg (by simp; omega)]; omega
    · subst h; simp; omega
    · rw [if_neg (by simp; omega), if_pos (by simpa using h), if_neg (by simp; omega)]; omega
theorem med_count {s : Bool} {l : List UInt8} {x : UInt8} (h : Med s l x) (hk : l.length % 2 = 1) :
    (l.map (C4p.num s)).countP (fun y => decide (y < C4p.num s x)) ≤ l.length / 2 ∧ (l.map (C4p.num s)).countP (fun y => decide (C4p.num s x < y)) ≤ l.length / 2 ∧ 0 < (l.map (C4p.num s)).countP (fun y => decide (y = C4p.num s x)) := by
  have h1 := h.low
  have h2 := h.high
  rw [lo_map] at h1
  rw [le_split, lo_map, show eqc s l (C4p.num s x) = (l.map (C4p.num s)).countP (fun y => decide (y = C4p.num s x)) by unfold eqc; rw [List.countP_map]; rfl] at h2
  have h3 := count3 (C4p.num s x) (l.map (C4p.num s))
  rw [List.length_map] at h3
  omega
end Go.Proofs.Ytekhpcfggbegaaa.Jn
