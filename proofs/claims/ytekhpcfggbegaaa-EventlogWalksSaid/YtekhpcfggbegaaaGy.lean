/- Walks: the IDs of a log that was filled; what Get answers there. -/
import Derived.Test.YtekhpcfggbegaaaGx
import Derived.Test.YtekhpcfggbegaaaGu
namespace Go.Proofs.Ytekhpcfggbegaaa.G9
open Go.RowKit Go.Proofs.Ytekhpcfggbegaaa.Mem Go.Proofs.Ytekhpcfggbegaaa.E5p Go.Proofs.Ytekhpcfggbegaaa.E5m Go.Proofs.Ytekhpcfggbegaaa.E5a Go.Proofs.Ytekhpcfggbegaaa.E5d Go.Proofs.Ytekhpcfggbegaaa.V7 Go.Proofs.Ytekhpcfggbegaaa.V9
set_option maxRecDepth 100000
set_option maxHeartbeats 400000

/-- The records' IDs ascend; none is 0; the next one is behind them all. -/
structure Asc (L : Lg) (n : Nat) : Prop where
  nid : 1 ≤ L.nid ∧ L.nid ≤ n + 1
  low : ∀ r ∈ L.recs, 1 ≤ r.e.id ∧ r.e.id < L.nid
  asc : L.recs.Pairwise fun a b => a.e.id < b.e.id
theorem Asc.opened {L : Lg} {n : Nat} (h : Asc L n) (t : Nat) : Asc (L.opened t) n :=
  ⟨h.nid, fun r hr => h.low r (List.mem_filter.1 hr).1, h.asc.filter _⟩
theorem Asc.room {L : Lg} {n : Nat} (h : Asc L n) (k : Nat) : Asc (mroom k L).1 n := by
  unfold mroom
  split
  · exact h
  split
  · split
    · exact h.opened _
    · exact h
  · exact h.opened _
theorem Asc.wrote {L : Lg} {n : Nat} (h : Asc L n) (hn : n < 65533) (e : Ev) : Asc (L.wrote (Lg.withId e L.nid)) (n + 1) := by
  have h1 := h.nid
  have hb : Lg.behind L.nid = L.nid + 1 := by unfold Lg.behind; rw [if_neg (by omega)]
  have hw : (L.wrote (Lg.withId e L.nid)).nid = L.nid + 1 := hb
  refine ⟨by rw [hw]; omega, fun r hr => ?_, ?_⟩
  · rw [hw]
    rcases List.mem_append.1 hr with hr | hr
    · have := h.low r hr; omega
    · obtain rfl := List.mem_singleton.1 hr
      exact ⟨h1.1, Nat.lt_succ_self _⟩
  · refine List.pairwise_append.2 ⟨h.asc, List.pairwise_singleton _ _, fun a ha b hb => ?_⟩
    obtain rfl := List.mem_singleton.1 hb
    exact (h.low a ha).2
theorem Asc.madd {L : Lg} {n : Nat} (h : Asc L n) (hn : n < 65533) (k : Nat) (e : Ev) : Asc (madd k L e).1 (n + 1) := by
  have hr := h.room k
  unfold G9.madd
  dsimp only
  split
  · exact hr.wrote hn e
  · exact ⟨⟨hr.nid.1, Nat.le_succ_of_le hr.nid.2⟩, hr.low, hr.asc⟩
theorem Asc.adds (k : Nat) : ∀ (evs : List Ev) (L : Lg) (n : Nat), Asc L n → n + evs.length < 65533 → Asc (addsF k L evs) (n + evs.length)
  | [], _, _, h, _ => h
  | e :: l, L, n, h, hn => by
    have := Asc.adds k l (G9.madd k L e).1 (n + 1) (h.madd (by simp at hn; omega) k e) (by simp at hn; omega)
    rw [List.length_cons, show n + (l.length + 1) = n + 1 + l.length by omega]
    exact this
theorem Asc.fresh (S k : Nat) (ow : Bool) : Asc (fresh 0 S ow k) 0 := ⟨⟨Nat.le_refl _, Nat.le_refl _⟩, fun r hr => (by cases hr), List.Pairwise.nil⟩
/-- The ID that finds record k. -/
def idAt (l : List Rc) (k : Nat) : Nat := if k = 0 then 0 else match l[k]? with | some r => r.e.id | none => 0
theorem asc_lt {l : List Rc} (h : l.Pairwise fun a b => a.e.id < b.e.id) {i j : Nat} (hij : i < j) (hj : j < l.length) : (l[i]'(by omega)).e.id < l[j].e.id := List.pairwise_iff_getElem.1 h i j (by omega) hj hij
theorem find_at {l : List Rc} {k : Nat} (h : l.Pairwise fun a b => a.e.id < b.e.id) (h0 : ∀ r ∈ l, 1 ≤ r.e.id) (hk : k < l.length) : l.findIdx (isId (idAt l k)) = k := by
  rw [List.findIdx_eq hk]
  unfold idAt isId
  by_cases hz : k = 0
  · subst hz
    exact ⟨by simp, fun j hj => by omega⟩
  · rw [if_neg hz, List.getElem?_eq_getElem hk]
    dsimp only
    refine ⟨by simp, fun j hj => ?_⟩
    have h1 := asc_lt h hj hk
    have h2 := h0 _ (List.getElem_mem hk)
    simp
    omega
/-- Record by record. -/
theorem getR_at {l : List Rc} {k : Nat} (h : l.Pairwise fun a b => a.e.id < b.e.id) (h0 : ∀ r ∈ l, 1 ≤ r.e.id) (hk : k < l.length) :
    ∃ nx, getR l (idAt l k) = (l[k].e, nx, 0) ∧ decide (nx = 0) = decide (k + 1 = l.length) ∧ nx = idAt l (k + 1) := by
  by_cases hl : k + 1 < l.length
  · refine ⟨l[k + 1].e.id, getR_more (find_at h h0 hk) hl, ?_, ?_⟩
    · have := h0 _ (List.getElem_mem hl)
      rw [decide_eq_false (by omega), decide_eq_false (by omega)]
    · unfold idAt
      rw [if_neg (by omega), List.getElem?_eq_getElem hl]
  · refine ⟨0, getR_last (find_at h h0 hk) (by omega), ?_, ?_⟩
    · rw [decide_eq_true rfl, decide_eq_true (by omega)]
    · unfold idAt
      rw [if_neg (by omega), List.getElem?_eq_none (by omega)]
/-- An ID that some record has, or 0 and there are records: OK; else missing. -/
theorem getR_ok {l : List Rc} {i : Nat} (h : l.any (isId i) = true) : (getR l i).2.2 = 0 := by
  have hk := List.findIdx_lt_length.2 (List.any_eq_true.1 h)
  by_cases hl : l.findIdx (isId i) + 1 < l.length
  · rw [getR_more rfl hl]
  · rw [getR_last rfl (by omega)]
/-- Is the ID among the first k records? -/
def has (i : Nat) (l : List Ev) : Bool := l.any fun e => decide (e.id = i)
theorem any_has (l : List Rc) (i : Nat) : l.any (isId i) = (decide (i = 0) && decide (0 < l.length) || has i (l.map (·.e))) := by
  unfold has isId
  induction l with
  | nil => simp
  | cons r l ih =>
    rw [List.any_cons, ih]
    simp only [List.map_cons, List.any_cons, List.length_cons]
    by_cases h0 : i = 0
    · simp [h0]
    · simp [h0]
end Go.Proofs.Ytekhpcfggbegaaa.G9
