/- Walks: the reference of thresholds: Analog, Reached, Step. An array of six numbers in a block; the readings at the last changes. Walks: the reference's SameChanges, over the same list. -/
import Derived.Test.YtafoaonkjcfbaaaS49
import Derived.Test.YtafoaonkjcfbaaaS50
import Derived.Test.YtafoaonkjcfbaaaS52
import Derived.Test.YtafoaonkjcfbaaaS40
import Derived.Test.YtafoaonkjcfbaaaS42
import Derived.Test.YtafoaonkjcfbaaaS10
import Derived.Laws.StructEq
import Derived.Deep.RegionHeld3
namespace Go.Proofs.Ytafoaonkjcfbaaa.Ya
open Go.RowKit Go.Proofs.Ytafoaonkjcfbaaa.Mem Go.Proofs.Ytafoaonkjcfbaaa.F2p Go.Proofs.Ytafoaonkjcfbaaa.C4l Go.Proofs.Ytafoaonkjcfbaaa.Ta Go.Proofs.Ytafoaonkjcfbaaa.Tb
set_option maxRecDepth 100000
set_option maxHeartbeats 1000000

theorem pk_add (f : Nat → Bool) (j : Nat) (h : j < 6) : ((pk f j : Nat) : Int) + 2 ^ j % 256 = ((pk f j + 2 ^ j : Nat) : Int) := by
  have h1 : 2 ^ j < 64 := Nat.pow_lt_pow_right (n := 6) (by omega) h
  rw [pow_mod j h1]
  rfl
theorem kown_below {base : Nat} {w w' : World} {v : Value} {l : List Ch} (h : KOwn base w v l) (hb : Below w.heap.size w w') : KOwn base w' v l := by
  refine ⟨h.1, ?_⟩
  rcases h.2 with h1 | ⟨g, cap, cur, h1, h2, h3, h4⟩
  · exact .inl h1
  · refine .inr ⟨g, cap, cur, h1, h2, (hb.block g ?_).trans h3, h4⟩
    rcases Nat.lt_or_ge g w.heap.size with h5 | h5
    · exact h5
    · rw [Array.getElem?_eq_none h5] at h3; cases h3
end Go.Proofs.Ytafoaonkjcfbaaa.Ya
namespace Go.Proofs.Ytafoaonkjcfbaaa.Ya
open Go.RowKit Go.Proofs.Ytafoaonkjcfbaaa.Mem Go.Proofs.Ytafoaonkjcfbaaa.C4l Go.Proofs.Ytafoaonkjcfbaaa.Ta Go.Proofs.Ytafoaonkjcfbaaa.Tb
set_option maxRecDepth 100000

def LAr (w : World) (r : Nat) (L : Nat → Int) : Prop := ∃ cs : Array Value, w.heap[r]? = some (.cells cs 151 (0, 0)) ∧ cs.size = 6 ∧ ∀ j, j < 6 → cs[j]? = some (.int .i64 (L j))
section
variable {w w' : World} {r : Nat} {L : Nat → Int}
theorem LAr.lt (h : LAr w r L) : r < w.heap.size := by
  obtain ⟨cs, h1, -⟩ := h
  rcases Nat.lt_or_ge r w.heap.size with h2 | h2
  · exact h2
  · rw [Array.getElem?_eq_none h2] at h1; cases h1
theorem LAr.below (h : LAr w r L) (hb : Below w.heap.size w w') : LAr w' r L := by
  have hl := h.lt
  obtain ⟨cs, h1, h2⟩ := h
  exact ⟨cs, (hb.block r hl).trans h1, h2⟩
theorem LAr.cell (h : LAr w r L) {j : Nat} (hj : j < 6) : w.cell? ⟨r, j, none⟩ = some (.int .i64 (L j)) := by
  obtain ⟨cs, h1, -, h3⟩ := h
  rw [cell_of_row w r j _ _ _ h1]
  exact h3 j hj
theorem LAr.fz (h : LAr w r L) (j : Nat) : w.frozen? ⟨r, j, none⟩ = false := by
  obtain ⟨cs, h1, -⟩ := h
  exact frozen_of_row w r j _ _ h1
theorem LAr.set (h : LAr w r L) {j : Nat} (hj : j < 6) (x : Int) : LAr (w.setCell ⟨r, j, none⟩ (.int .i64 x)) r (fun i => if i = j then x else L i) := by
  obtain ⟨cs, h1, h2, h3⟩ := h
  refine ⟨_, heap_setCell_same w r j _ _ (.int .i64 x) h1, by simpa using h2, fun i hi => ?_⟩
  rw [Array.getElem?_setIfInBounds]
  by_cases he : j = i
  · subst he
    rw [if_pos rfl, if_pos (by omega)]
    dsimp only
    rw [if_pos rfl]
  · rw [if_neg he, h3 i hi]
    dsimp only
    rw [if_neg (fun e : i = j => he e.symm)]
theorem LAr.congr {L' : Nat → Int} (h : LAr w r L) (he : ∀ i, i < 6 → L i = L' i) : LAr w r L' := by
  obtain ⟨cs, h1, h2, h3⟩ := h
  exact ⟨cs, h1, h2, fun j hj => by rw [h3 j hj, he j hj]⟩
end
/-- The readings at the last changes, behind the first q changes of a step. -/
def upd (a b : Nat) (x : Int) (L : Nat → Int) (q : Nat) : Nat → Int := fun i => if i ∈ (ixs a b 6).take q then x else L i
theorem upd_zero (a b : Nat) (x : Int) (L : Nat → Int) (i : Nat) : L i = upd a b x L 0 i := by unfold upd; rw [List.take_zero, if_neg List.not_mem_nil]
theorem upd_old (a b : Nat) (x : Int) (L : Nat → Int) (q : Nat) (hq : q < (ixs a b 6).length) : upd a b x L q (ixs a b 6)[q] = L (ixs a b 6)[q] := by
  unfold upd; rw [if_neg (ixs_new a b 6 q hq)]
theorem upd_next (a b : Nat) (x : Int) (L : Nat → Int) (q : Nat) (hq : q < (ixs a b 6).length) (i : Nat) : (if i = (ixs a b 6)[q] then x else upd a b x L q i) = upd a b x L (q + 1) i := by
  unfold upd
  by_cases h1 : i = (ixs a b 6)[q]
  · rw [if_pos h1, if_pos ((mem_take_succ hq i).2 (.inr h1))]
  · rw [if_neg h1]
    by_cases h2 : i ∈ (ixs a b 6).take q
    · rw [if_pos h2, if_pos ((mem_take_succ hq i).2 (.inl h2))]
    · rw [if_neg h2, if_neg (fun hh => ((mem_take_succ hq i).1 hh).elim h2 h1)]
theorem upd_end {s : Sn} {x : Int} {st : Nat} {L : Nat → Int} (h : ∀ j, j < 6 → Lst s st j (L j)) (j : Nat) (hj : j < 6) : Lst s (nxt s x st) j (upd st (nxt s x st) x L (ixs st (nxt s x st) 6).length j) := by
  unfold upd
  rw [List.take_length]
  by_cases hm : j ∈ ixs st (nxt s x st) 6
  · rw [if_pos hm]
    exact lst_new hj (mem_ixs.1 hm).2
  · rw [if_neg hm]
    refine lst_old (h j hj) ?_
    rcases Decidable.em (st.testBit j = (nxt s x st).testBit j) with h2 | h2
    · exact h2
    · exact absurd (mem_ixs.2 ⟨hj, h2⟩) hm
theorem upd_in {a b : Nat} {x : Int} {L : Nat → Int} {q i : Nat} (hx : -128 ≤ x ∧ x ≤ 1000) (h : -128 ≤ L i ∧ L i ≤ 1000) : -128 ≤ upd a b x L q i ∧ upd a b x L q i ≤ 1000 := by
  unfold upd; split
  · exact hx
  · exact h
theorem pown_lar {w : World} {base : Nat} {V : Value} {p : List Pt} {r : Nat} {L : Nat → Int} (h : POwn base w V p) (hb : LAr w r L) : V.ownBlock ≠ some r := by
  intro e
  rcases h.2 with ⟨rfl, _⟩ | ⟨g, cap, cur, rfl, _, hh, _⟩
  · cases e
  · simp only [Value.ownBlock, Option.some.injEq] at e
    subst e
    obtain ⟨cs, hb, -⟩ := hb
    rw [hb] at hh
    injection hh with hh
    injection hh with _ ht
    revert ht
    decide
theorem pown_set {w : World} {base : Nat} {V : Value} {p : List Pt} {r : Nat} {L : Nat → Int} (h : POwn base w V p) (hb : LAr w r L) (j : Nat) (u : Value) : POwn base (w.setCell ⟨r, j, none⟩ u) V p :=
  World.ownsRow.kept h (set_grown w r j u) (.inr (pown_lar h hb))
theorem ksl_own {base : Nat} {w : World} {A : Option Addr} {n c : Nat} {l : List Ch} (h : KOwn base w (.slice A n c) l) : KSl w A n c l := by
  obtain ⟨A', n', c', e, hs⟩ := h.sl
  injection e with e1 e2 e3
  subst e1 e2 e3
  exact hs
theorem kown_kept {base g : Nat} {w w' : World} {v : Value} {l : List Ch} (h : KOwn base w v l) (hg : w.grownBy w' (some g)) (hlo : g < base) : KOwn base w' v l :=
  World.ownsRow.kept h hg (.inr (fun e => by have := (World.ownsRow.lt h _ e).1; omega))
end Go.Proofs.Ytafoaonkjcfbaaa.Ya
namespace Go.Proofs.Ytafoaonkjcfbaaa.Ya
open Go.RowKit Go.Proofs.Ytafoaonkjcfbaaa.Mem Go.Proofs.Ytafoaonkjcfbaaa.Ta
set_option maxRecDepth 100000
set_option maxHeartbeats 1000000

theorem ch_neq (W : World) (i : Int) (b : Bool) : (binOp .neq 88 (.agg #[.int .i64 i, .bool b]) (.agg #[.int .i64 i, .bool b])).run Try.prog W = .ok (.bool false) W := by
  rw [run_neq_struct]
  go_simp
theorem ch_guard (W : World) (x y : Operand) (i : Int) (b : Bool) : (eqGuard .neq 88 x y (.agg #[.int .i64 i, .bool b]) (.agg #[.int .i64 i, .bool b])).run Try.prog W = .ok () W :=
  run_eqGuard_agg W .neq 88 x y _ _ Try.eqGuardType88
theorem same_chs {w : World} {A A' : Option Addr} {n n' c c' : Nat} {l : List Ch} (h : KSl w A n c l) (h' : KSl w A' n' c' l) (hn : n ≤ 1000) :
    Calls Try.prog 45 #[.slice A n c, .slice A' n' c'] w fun e w' => e = .returned (.bool true) ∧ Below w.heap.size w w' := by
  have hnn : n' = n := by rw [h.len, h'.len]
  subst hnn
  have HL := Lib.hid h.len
  have hrow := h.row
  have hrow' := h'.row
  clear h h'
  go_enter Try.func45, Try.ntmps45
  go_wp2_with fail
  go_loopw [5] (fun i wr => ∃ j : Nat, j ≤ n' ∧ i = .int .i64 j ∧ Below w.heap.size w wr) (fun i _ => n' - (intOf i).toNat)
  case atStart => exact ⟨0, Nat.zero_le _, rfl, Below.refl _ _⟩
  case round =>
    obtain ⟨j, hj, rfl, hbel⟩ := hrel
    by_cases hlt : j < n'
    · have hjl : j < l.length := by rw [← HL.out]; exact hlt
      obtain ⟨a, rfl, hab, a0, a1⟩ := krow_at (Rd.below hrow hbel) hjl
      obtain ⟨b, rfl, hbb, b0, b1⟩ := krow_at (Rd.below hrow' hbel) hjl
      generalize l[j] = x at *
      obtain ⟨xi, xo⟩ := x
      dsimp only at a0 a1 b0 b1
      have a1' : wr.cell? ⟨(a.add (j * 2)).block, (a.add (j * 2)).off + 1, none⟩ = some (.bool xo) := by rw [← a1, ← add_add]; rfl
      have b1' : wr.cell? ⟨(b.add (j * 2)).block, (b.add (j * 2)).off + 1, none⟩ = some (.bool xo) := by rw [← b1, ← add_add]; rfl
      have hq := fun W => ch_neq W xi xo
      have hg := fun W x y => ch_guard W x y xi xo
      have n1 : (j : Int) < (n' : Int) := by omega
      have n2 : (0 : Int) ≤ (j : Int) := by omega
      go_wp2_with fail
      go_quiet (fail)
      have hb2 : Below w.heap.size w (wr.drewN nq) := ⟨hbel.os, hbel.tape, hbel.output, hbel.size, hbel.block⟩
      go_wp2_with fail
      exact ⟨⟨j + 1, by omega, by go_num, hb2⟩, by simp [intOf]; omega⟩
    · obtain rfl : j = n' := by omega
      go_wp2_with fail
      go_ret
      exact ⟨rfl, hbel⟩
end Go.Proofs.Ytafoaonkjcfbaaa.Ya
