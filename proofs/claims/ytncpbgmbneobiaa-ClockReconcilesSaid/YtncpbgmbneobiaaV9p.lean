/- Mathematics of changes of the clock: which lists of events are paired, and the reconciled times. -/
import Derived.Test.YtncpbgmbneobiaaV9e
namespace Go.Proofs.Ytncpbgmbneobiaa.V9
open Go.RowKit Go.Proofs.Ytncpbgmbneobiaa.Mem Go.Proofs.Ytncpbgmbneobiaa.V7
set_option maxRecDepth 100000

/-- 1: the first event of a change; 2: the second one; otherwise 0. -/
def mk (e : Ev) : Nat := if e.st = 18 ∧ e.ty = 111 ∧ e.de = false ∧ e.d0 = 5 ∧ e.d2 = 255 then (if e.d1 = 0 then 1 else if e.d1 = 128 then 2 else 0) else 0
/-- Is each first event directly before a second one, and each second one directly behind a first one? -/
def paired : Bool → List Ev → Bool
  | a, [] => !a
  | a, e :: l => (decide (mk e = 2) == a) && paired (decide (mk e = 1)) l
/-- What the changes of a list shift what stands before it by; p stands before it. -/
def sf : Ev → List Ev → Int
  | _, [] => 0
  | p, e :: l => (if mk e = 2 then (e.time : Int) - (p.time : Int) else 0) + sf e l
/-- The reconciled times. -/
def tms : List Ev → List Int
  | [] => []
  | e :: l => ((e.time : Int) + sf e l) :: tms l
theorem tms_len (l : List Ev) : (tms l).length = l.length := by
  induction l with
  | nil => rfl
  | cons e l ih => simp [tms, ih]
theorem tms_get : ∀ (l : List Ev) (k : Nat) (h : k < l.length), (tms l)[k]'(by rw [tms_len]; exact h) = (l[k].time : Int) + sf l[k] (l.drop (k + 1))
  | e :: l, 0, _ => rfl
  | e :: l, k + 1, h => by
    have := tms_get l k (by simpa using h)
    simpa [tms] using this
theorem sf_bound (l : List Ev) (hf : ∀ e ∈ l, e.time < 4294967296) : ∀ p : Ev, p.time < 4294967296 → -(4294967296 * (l.length : Int)) ≤ sf p l ∧ sf p l ≤ 4294967296 * (l.length : Int) := by
  induction l with
  | nil => intro p _; simp [sf]
  | cons e l ih =>
    intro p hp
    have he := hf e (by simp)
    have := ih (fun x hx => hf x (by simp [hx])) e he
    simp only [sf, List.length_cons]
    split <;> omega
/-- One step of the loop from the end. -/
theorem sf_step (l : List Ev) (k : Nat) (h : k + 1 < l.length) : sf l[k] (l.drop (k + 1)) = (if mk l[k + 1] = 2 then (l[k + 1].time : Int) - (l[k].time : Int) else 0) + sf l[k + 1] (l.drop (k + 2)) := by
  rw [List.drop_eq_getElem_cons h]
  rfl
theorem paired_head {l : List Ev} (h : paired false l = true) (h0 : 0 < l.length) : mk l[0] ≠ 2 := by
  match l, h0 with
  | e :: l, _ =>
    simp only [paired, Bool.and_eq_true, beq_iff_eq, decide_eq_false_iff_not] at h
    exact h.1
theorem paired_step (l : List Ev) (a : Bool) (k : Nat) (h : k < l.length) : paired a (l.drop k) = ((decide (mk l[k] = 2) == a) && paired (decide (mk l[k] = 1)) (l.drop (k + 1))) := by
  rw [List.drop_eq_getElem_cons h]; rfl
theorem paired_app : ∀ (l : List Ev) (a : Bool) (m : List Ev), paired a l = true → paired a (l ++ m) = paired false m
  | [], a, m, h => by
    simp only [paired, Bool.not_eq_true'] at h
    rw [h]; rfl
  | e :: l, a, m, h => by
    simp only [paired, List.cons_append, Bool.and_eq_true] at h ⊢
    rw [h.1, Bool.true_and, paired_app l _ m h.2]
/-- Lists without events of changes. -/
theorem paired_none : ∀ (l : List Ev), (∀ e ∈ l, mk e = 0) → paired false l = true
  | [], _ => rfl
  | e :: l, h => by
    have he := h e (by simp)
    simp only [paired, he]
    simpa using paired_none l (fun x hx => h x (by simp [hx]))
theorem sf_none : ∀ (l : List Ev) (p : Ev), (∀ e ∈ l, mk e = 0) → sf p l = 0
  | [], _, _ => rfl
  | e :: l, p, h => by
    simp only [sf, h e (by simp)]
    rw [sf_none l e (fun x hx => h x (by simp [hx]))]; rfl
theorem tms_none : ∀ (l : List Ev), (∀ e ∈ l, mk e = 0) → tms l = l.map fun e => (e.time : Int)
  | [], _ => rfl
  | e :: l, h => by
    simp only [tms, List.map_cons]
    rw [sf_none l e (fun x hx => h x (by simp [hx])), tms_none l (fun x hx => h x (by simp [hx])), Int.add_zero]
/-- One event of a change alone among others. -/
theorem paired_one (l : List Ev) (e : Ev) (m : List Ev) (hl : ∀ x ∈ l, mk x = 0) (hm : ∀ x ∈ m, mk x = 0) (he : mk e = 1 ∨ mk e = 2) : paired false (l ++ e :: m) = false := by
  rw [paired_app l false (e :: m) (paired_none l hl)]
  rcases he with he | he
  · simp only [paired, he]
    match m with
    | [] => rfl
    | x :: m => simp [paired, hm x (by simp)]
  · simp [paired, he]
/-- A list and an event behind it; a list and a change behind it. -/
theorem sf_app : ∀ (l : List Ev) (p : Ev) (m : List Ev), sf p (l ++ m) = sf p l + sf ((p :: l).getLast (by simp)) m
  | [], p, m => by simp [sf]
  | e :: l, p, m => by
    simp only [List.cons_append, sf, sf_app l e m]
    rw [List.getLast_cons (List.cons_ne_nil e l)]
    omega
theorem mk_lt (e : Ev) : mk e < 3 := by
  unfold mk
  repeat' split
  all_goals omega
/-- What the reference asks of each event, one after the other. -/
def badAt (l : List Ev) (i : Nat) : Bool := (decide (mk (l.getD i Ev.none) = 1) && (decide (i + 1 = l.length) || !decide (mk (l.getD (i + 1) Ev.none) = 2))) || (decide (mk (l.getD i Ev.none) = 2) && (decide (i = 0) || !decide (mk (l.getD (i - 1) Ev.none) = 1)))
/-- Where the check has come to: a first event stood right before. -/
def af (l : List Ev) (i : Nat) : Bool := decide (0 < i) && decide (mk (l.getD (i - 1) Ev.none) = 1)
theorem getD_at (l : List Ev) (i : Nat) (h : i < l.length) : l.getD i Ev.none = l[i] := by
  rw [List.getD, List.getElem?_eq_getElem h]; rfl
/-- The check of the reference, in steps. -/
theorem check_step (l : List Ev) (i : Nat) (h : i < l.length) (hb : badAt l i = false) (ha : af l i = true → mk l[i] = 2) :
    paired (af l i) (l.drop i) = paired (af l (i + 1)) (l.drop (i + 1)) ∧ (af l (i + 1) = true → ∃ h : i + 1 < l.length, mk l[i + 1] = 2) := by
  rw [paired_step l _ i h]
  have e1 : af l (i + 1) = decide (mk l[i] = 1) := by
    unfold af
    rw [show i + 1 - 1 = i from rfl, getD_at l i h]
    simp
  unfold badAt at hb
  rw [getD_at l i h] at hb
  simp only [Bool.or_eq_false_iff, Bool.and_eq_false_iff, decide_eq_false_iff_not, Bool.not_eq_false', decide_eq_true_eq] at hb
  obtain ⟨hb1, hb2⟩ := hb
  constructor
  · rw [e1]
    have : (decide (mk l[i] = 2) == af l i) = true := by
      rcases hA : af l i with _ | _
      · simp only [beq_iff_eq, decide_eq_false_iff_not]
        intro h2
        rcases hb2 with hb2 | ⟨hb3, hb4⟩
        · exact hb2 h2
        · unfold af at hA
          rw [hb4] at hA
          simp at hA
          omega
      · simp [ha hA]
    rw [this, Bool.true_and]
  · intro h1
    rw [e1, decide_eq_true_eq] at h1
    rcases hb1 with hb1 | ⟨hb1, hb3⟩
    · exact absurd h1 hb1
    · have hlt : i + 1 < l.length := by omega
      rw [getD_at l (i + 1) hlt] at hb3
      exact ⟨hlt, hb3⟩
theorem check_bad (l : List Ev) (i : Nat) (h : i < l.length) (hb : badAt l i = true) : paired (af l i) (l.drop i) = false := by
  rw [paired_step l _ i h]
  unfold badAt at hb
  rw [getD_at l i h] at hb
  simp only [Bool.or_eq_true, Bool.and_eq_true, decide_eq_true_eq, Bool.not_eq_true', decide_eq_false_iff_not] at hb
  rcases hb with ⟨h1, h2⟩ | ⟨h1, h2⟩
  · rw [h1]
    rcases Nat.lt_or_ge (i + 1) l.length with hlt | hge
    · rcases h2 with h2 | h2
      · omega
      · rw [getD_at l (i + 1) hlt] at h2
        rw [paired_step l _ (i + 1) hlt]
        simp [h2]
    · rw [List.drop_eq_nil_of_le hge]
      simp [paired]
  · have : af l i = false := by
      unfold af
      rcases h2 with h2 | h2
      · simp [h2]
      · rw [decide_eq_false h2, Bool.and_false]
    rw [this, h1]
    rfl
theorem check_end (l : List Ev) (h : af l l.length = true → ∃ h : l.length < l.length, mk l[l.length] = 2) : paired (af l l.length) (l.drop l.length) = true := by
  rcases hA : af l l.length with _ | _
  · simp [paired]
  · obtain ⟨h1, _⟩ := h hA
    omega
end Go.Proofs.Ytncpbgmbneobiaa.V9
