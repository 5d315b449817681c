/- Plain mathematics: readings that are more extreme; masks of a side. Small lemmas for stage 12's laws: a record's points over stores in other blocks. An array of six numbers in a block; the readings at the last changes. -/
import Derived.Test.YtcnkiecdagjgmaaYa
import Derived.Test.YtcnkiecdagjgmaaYh
import Derived.Test.YtcnkiecdagjgmaaYk
namespace Go.Proofs.Ytcnkiecdagjgmaa.Ya
open Go.Proofs.Ytcnkiecdagjgmaa.Ta
set_option maxRecDepth 100000

theorem bit7 (i : Nat) : (7 : Nat).testBit i = decide (i < 3) := Nat.testBit_two_pow_sub_one 3 i
theorem bit56 (i : Nat) : (56 : Nat).testBit i = decide (3 ≤ i ∧ i < 6) := by
  rcases Nat.lt_or_ge i 6 with h | h
  · rcases (show i = 0 ∨ i = 1 ∨ i = 2 ∨ i = 3 ∨ i = 4 ∨ i = 5 by omega) with rfl | rfl | rfl | rfl | rfl | rfl <;> decide
  · have hp : 2 ^ 6 ≤ 2 ^ i := Nat.pow_le_pow_right (by omega) h
    rw [Nat.testBit_lt_two_pow (by omega : 56 < 2 ^ i), decide_eq_false (by omega)]
theorem ord_facts {s : Sn} (hv : vs s = true) (hd : s.d = false) {x y : Int} (hxy : x ≤ y) :
    andn8 (wth s y 0 0 &&& 7) (wth s x 0 0) = 0 ∧ andn8 (wth s x 0 0 &&& 56) (wth s y 0 0) = 0 ∧ (wth s x 0 0 &&& 7 = 0 ∨ wth s x 0 0 &&& 56 = 0) := by
  refine ⟨andn8_zero fun i _ h => ?_, andn8_zero fun i _ h => ?_, ?_⟩
  · rw [Nat.testBit_and, bit7, Bool.and_eq_true, decide_eq_true_eq] at h
    have hi : i < 6 := by omega
    rw [wth_bit _ _ _ _ _ hi] at h ⊢
    exact rch_low hxy (by omega) h.1
  · rw [Nat.testBit_and, bit56, Bool.and_eq_true, decide_eq_true_eq] at h
    have hi : i < 6 := h.2.2
    rw [wth_bit _ _ _ _ _ hi] at h ⊢
    exact rch_up hxy (by omega) h.1
  · rcases Classical.em (∃ i, i ≤ 2 ∧ rch s x 0 0 i = true) with ⟨i, hi, hr⟩ | hno
    · right
      apply Nat.eq_of_testBit_eq
      intro j
      rw [Nat.testBit_and, bit56, Nat.zero_testBit]
      rcases Classical.em (3 ≤ j ∧ j < 6) with hj | hj
      · rw [wth_bit _ _ _ _ _ hj.2]
        cases hq : rch s x 0 0 j
        · rfl
        · exact (rch_both hv hd hi (by omega) hj.2 hr hq).elim
      · rw [decide_eq_false hj, Bool.and_false]
    · left
      apply Nat.eq_of_testBit_eq
      intro j
      rw [Nat.testBit_and, bit7, Nat.zero_testBit]
      rcases Classical.em (j < 3) with hj | hj
      · rw [wth_bit _ _ _ _ _ (by omega)]
        cases hq : rch s x 0 0 j
        · rfl
        · exact (hno ⟨j, by omega, hq⟩).elim
      · rw [decide_eq_false hj, Bool.and_false]
end Go.Proofs.Ytcnkiecdagjgmaa.Ya
namespace Go.Proofs.Ytcnkiecdagjgmaa.Ya
open Go.RowKit Go.Proofs.Ytcnkiecdagjgmaa.Mem Go.Proofs.Ytcnkiecdagjgmaa.F2p Go.Proofs.Ytcnkiecdagjgmaa.C4l Go.Proofs.Ytcnkiecdagjgmaa.Ta Go.Proofs.Ytcnkiecdagjgmaa.Tb
set_option maxRecDepth 100000

theorem psl_own {base : Nat} {w : World} {A : Option Addr} {n c : Nat} {p : List Pt} (h : POwn base w (.slice A n c) p) : PSl w A n c p := by
  obtain ⟨A', n', c', e, hs⟩ := h.sl
  injection e with e1 e2 e3
  subst e1 e2 e3
  exact hs
theorem pown_below {base : Nat} {w w' : World} {v : Value} {p : List Pt} (h : POwn base w v p) (hb : Below w.heap.size w w') : POwn base w' v p := by
  refine ⟨h.1, ?_⟩
  rcases h.2 with h1 | ⟨g, cap, cur, h1, h2, h3, h4⟩
  · exact .inl h1
  · refine .inr ⟨g, cap, cur, h1, h2, (hb.block g ?_).trans h3, h4⟩
    rcases Nat.lt_or_ge g w.heap.size with h5 | h5
    · exact h5
    · rw [Array.getElem?_eq_none h5] at h3; cases h3
end Go.Proofs.Ytcnkiecdagjgmaa.Ya
namespace Go.Proofs.Ytcnkiecdagjgmaa.Ya
open Go.RowKit Go.Proofs.Ytcnkiecdagjgmaa.Mem Go.Proofs.Ytcnkiecdagjgmaa.C4l Go.Proofs.Ytcnkiecdagjgmaa.Ta Go.Proofs.Ytcnkiecdagjgmaa.Tb
set_option maxRecDepth 100000

def LAr (w : World) (r : Nat) (L : Nat → Int) : Prop := ∃ cs : Array Value, w.heap[r]? = some (.cells cs 57 (0, 0)) ∧ cs.size = 6 ∧ ∀ j, j < 6 → cs[j]? = some (.int .i64 (L j))
section
variable {w w' : World} {r : Nat} {L : Nat → Int}
theorem LAr.lt (h : LAr w r L) : r < w.heap.size := by
  obtain ⟨cs, h1, -⟩ := h
  rcases Nat.lt_or_ge r w.heap.size with h2 | h2
  · exact h2
  · rw [Array.getElem?_eq_none h2] at h1; cases h1
theorem LAr.below (h : LAr w r L) (hb : Below w.heap.size w w') : LAr w' r L := by
  have hl := h.lt
  obtain ⟨cs, h1, h2⟩ := h
  exact ⟨cs, (hb.block r hl).trans h1, h2⟩
theorem LAr.cell (h : LAr w r L) {j : Nat} (hj : j < 6) : w.cell? ⟨r, j, none⟩ = some (.int .i64 (L j)) := by
  obtain ⟨cs, h1, -, h3⟩ := h
  rw [cell_of_row w r j _ _ _ h1]
  exact h3 j hj
theorem LAr.fz (h : LAr w r L) (j : Nat) : w.frozen? ⟨r, j, none⟩ = false := by
  obtain ⟨cs, h1, -⟩ := h
  exact frozen_of_row w r j _ _ h1
theorem LAr.set (h : LAr w r L) {j : Nat} (hj : j < 6) (x : Int) : LAr (w.setCell ⟨r, j, none⟩ (.int .i64 x)) r (fun i => if i = j then x else L i) := by
  obtain ⟨cs, h1, h2, h3⟩ := h
  refine ⟨_, heap_setCell_same w r j _ _ (.int .i64 x) h1, by simpa using h2, fun i hi => ?_⟩
  rw [Array.getElem?_setIfInBounds]
  by_cases he : j = i
  · subst he
    rw [if_pos rfl, if_pos (by omega)]
    dsimp only
    rw [if_pos rfl]
  · rw [if_neg he, h3 i hi]
    dsimp only
    rw [if_neg (fun e : i = j => he e.symm)]
theorem LAr.congr {L' : Nat → Int} (h : LAr w r L) (he : ∀ i, i < 6 → L i = L' i) : LAr w r L' := by
  obtain ⟨cs, h1, h2, h3⟩ := h
  exact ⟨cs, h1, h2, fun j hj => by rw [h3 j hj, he j hj]⟩
end
/-- The readings at the last changes, behind the first q changes of a step. -/
def upd (a b : Nat) (x : Int) (L : Nat → Int) (q : Nat) : Nat → Int := fun i => if i ∈ (ixs a b 6).take q then x else L i
theorem upd_zero (a b : Nat) (x : Int) (L : Nat → Int) (i : Nat) : L i = upd a b x L 0 i := by unfold upd; rw [List.take_zero, if_neg List.not_mem_nil]
theorem upd_old (a b : Nat) (x : Int) (L : Nat → Int) (q : Nat) (hq : q < (ixs a b 6).length) : upd a b x L q (ixs a b 6)[q] = L (ixs a b 6)[q] := by
  unfold upd; rw [if_neg (ixs_new a b 6 q hq)]
theorem upd_next (a b : Nat) (x : Int) (L : Nat → Int) (q : Nat) (hq : q < (ixs a b 6).length) (i : Nat) : (if i = (ixs a b 6)[q] then x else upd a b x L q i) = upd a b x L (q + 1) i := by
  unfold upd
  by_cases h1 : i = (ixs a b 6)[q]
  · rw [if_pos h1, if_pos ((mem_take_succ hq i).2 (.inr h1))]
  · rw [if_neg h1]
    by_cases h2 : i ∈ (ixs a b 6).take q
    · rw [if_pos h2, if_pos ((mem_take_succ hq i).2 (.inl h2))]
    · rw [if_neg h2, if_neg (fun hh => ((mem_take_succ hq i).1 hh).elim h2 h1)]
theorem upd_end {s : Sn} {x : Int} {st : Nat} {L : Nat → Int} (h : ∀ j, j < 6 → Lst s st j (L j)) (j : Nat) (hj : j < 6) : Lst s (nxt s x st) j (upd st (nxt s x st) x L (ixs st (nxt s x st) 6).length j) := by
  unfold upd
  rw [List.take_length]
  by_cases hm : j ∈ ixs st (nxt s x st) 6
  · rw [if_pos hm]
    exact lst_new hj (mem_ixs.1 hm).2
  · rw [if_neg hm]
    refine lst_old (h j hj) ?_
    rcases Decidable.em (st.testBit j = (nxt s x st).testBit j) with h2 | h2
    · exact h2
    · exact absurd (mem_ixs.2 ⟨hj, h2⟩) hm
theorem upd_in {a b : Nat} {x : Int} {L : Nat → Int} {q i : Nat} (hx : -128 ≤ x ∧ x ≤ 1000) (h : -128 ≤ L i ∧ L i ≤ 1000) : -128 ≤ upd a b x L q i ∧ upd a b x L q i ≤ 1000 := by
  unfold upd; split
  · exact hx
  · exact h
theorem pown_lar {w : World} {base : Nat} {V : Value} {p : List Pt} {r : Nat} {L : Nat → Int} (h : POwn base w V p) (hb : LAr w r L) : V.ownBlock ≠ some r := by
  intro e
  rcases h.2 with ⟨rfl, _⟩ | ⟨g, cap, cur, rfl, _, hh, _⟩
  · cases e
  · simp only [Value.ownBlock, Option.some.injEq] at e
    subst e
    obtain ⟨cs, hb, -⟩ := hb
    rw [hb] at hh
    injection hh with hh
    injection hh with _ ht
    revert ht
    decide
theorem pown_set {w : World} {base : Nat} {V : Value} {p : List Pt} {r : Nat} {L : Nat → Int} (h : POwn base w V p) (hb : LAr w r L) (j : Nat) (u : Value) : POwn base (w.setCell ⟨r, j, none⟩ u) V p :=
  World.ownsRow.kept h (set_grown w r j u) (.inr (pown_lar h hb))
theorem ksl_own {base : Nat} {w : World} {A : Option Addr} {n c : Nat} {l : List Ch} (h : KOwn base w (.slice A n c) l) : KSl w A n c l := by
  obtain ⟨A', n', c', e, hs⟩ := h.sl
  injection e with e1 e2 e3
  subst e1 e2 e3
  exact hs
theorem kown_kept {base g : Nat} {w w' : World} {v : Value} {l : List Ch} (h : KOwn base w v l) (hg : w.grownBy w' (some g)) (hlo : g < base) : KOwn base w' v l :=
  World.ownsRow.kept h hg (.inr (fun e => by have := (World.ownsRow.lt h _ e).1; omega))
end Go.Proofs.Ytcnkiecdagjgmaa.Ya
