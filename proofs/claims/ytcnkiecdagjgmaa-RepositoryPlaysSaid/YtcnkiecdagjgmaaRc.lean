/- A repository in memory: its head, its records, their bytes; what a call on it leaves of all else. -/
import Derived.Test.YtcnkiecdagjgmaaRb
namespace Go.Proofs.Ytcnkiecdagjgmaa.R11
open Go.RowKit Go.Proofs.Ytcnkiecdagjgmaa.Mem
set_option maxRecDepth 100000
set_option maxHeartbeats 1000000

def headOf (S : Rp) (rv : Value) : Array Value := #[.int .i64 (S.cap : Int), rv, .int .u16 (S.last : Int), .int .u16 (S.resv : Int), .bool S.rsvd]
def Hd (w : World) (g : Nat) (cs : Array Value) : Prop := w.heap[g]? = some (.cells cs 129 (0, 0))
theorem lt_of_some {w : World} {g : Nat} {o : Obj} (h : w.heap[g]? = some o) : g < w.heap.size := by
  rcases Nat.lt_or_ge g w.heap.size with h1 | h1
  · exact h1
  · rw [Array.getElem?_eq_none h1] at h; cases h
theorem ne_of_types {w : World} {g h : Nat} {c1 c2 : Array Value} {T1 T2 : TypeId} {z1 z2 : Nat × Nat} (h1 : w.heap[g]? = some (.cells c1 T1 z1)) (h2 : w.heap[h]? = some (.cells c2 T2 z2)) (hn : T1 ≠ T2) : g ≠ h := by
  rintro rfl
  rw [h1] at h2
  injection h2 with h2
  injection h2 with _ h3
  exact hn h3
theorem own_blk {base : Nat} {w : World} {e sz n g c : Nat} {xs : List Value} (h : w.ownsRow base e sz (.slice (some ⟨g, 0, none⟩) n c) n xs) : base ≤ g ∧ ∃ c z, w.heap[g]? = some (.cells c e z) := by
  rcases h.2 with ⟨hv, _⟩ | ⟨g', cap, cur, hv, h1, h2, _⟩
  · cases hv
  · injection hv with e1
    injection e1 with e1
    injection e1 with e1
    subst e1
    exact ⟨h1, _, _, h2⟩
theorem row_any {base : Nat} {w w' : World} {e sz n : Nat} {v : Value} {xs : List Value} (h : w.ownsRow base e sz v n xs) (hk : ∀ i, v.ownBlock = some i → w'.heap[i]? = w.heap[i]?) : w'.ownsRow base e sz v n xs := by
  refine ⟨h.1, ?_⟩
  rcases h.2 with h0 | ⟨g, cap, cur, rfl, h1, h2, r⟩
  · exact .inl h0
  · exact .inr ⟨g, cap, cur, rfl, h1, (hk g rfl).trans h2, r⟩
theorem below_put {B : Nat} {W w : World} (h : Below B W w) {p : Addr} (hp : B ≤ p.block) (v : Value) : Below B W (w.setCell p v) :=
  ⟨h.os, h.tape, h.output, by have := h.size; simpa using this, fun i hi => (heap_setCell_other w p i v (by omega)).trans (h.block i hi)⟩
/-- Nothing but the repository's own blocks has turned, and the records lie where they lay or in a new block. -/
structure Kp (g : Nat) (rv rv' : Value) (w w' : World) : Prop where
  os : w'.os = w.os
  tape : w'.tape = w.tape
  output : w'.output = w.output
  size : w.heap.size ≤ w'.heap.size
  block : ∀ i, i < w.heap.size → i ≠ g → rv.ownBlock ≠ some i → w'.heap[i]? = w.heap[i]? ∧ rv'.ownBlock ≠ some i
section
variable {g : Nat} {rv rv' rv2 : Value} {w w' w2 : World}
theorem Kp.refl : Kp g rv rv w w := ⟨rfl, rfl, rfl, Nat.le_refl _, fun _ _ _ h => ⟨rfl, h⟩⟩
theorem Kp.trans (h : Kp g rv rv' w w') (k : Kp g rv' rv2 w' w2) : Kp g rv rv2 w w2 :=
  ⟨k.os.trans h.os, k.tape.trans h.tape, k.output.trans h.output, Nat.le_trans h.size k.size, fun i hi e f => by
    obtain ⟨h1, h2⟩ := h.block i hi e f
    obtain ⟨k1, k2⟩ := k.block i (Nat.lt_of_lt_of_le hi h.size) e h2
    exact ⟨k1.trans h1, k2⟩⟩
theorem Kp.of_below {B : Nat} (h : Below B w w') (hB : w.heap.size ≤ B) : Kp g rv rv w w' := ⟨h.os, h.tape, h.output, h.size, fun i hi _ f => ⟨h.block i (by omega), f⟩⟩
theorem Kp.put (v : Value) (i : Nat) : Kp g rv rv w (w.setCell ⟨g, i, none⟩ v) := by
  have h := set_grown w g i v
  exact ⟨h.os, h.tape, h.output, h.size, fun j hj e f => ⟨h.block j hj (fun x => e (by injection x)), f⟩⟩
theorem Kp.drewN (h : Kp g rv rv' w w') (n : Nat) : Kp g rv rv' w (w'.drewN n) := ⟨h.os, h.tape, h.output, h.size, h.block⟩
theorem Kp.drew (h : Kp g rv rv' w w') : Kp g rv rv' w w'.drew := ⟨h.os, h.tape, h.output, h.size, h.block⟩
/-- The records have moved within their block or to a new one. -/
theorem Kp.rows (h : w.grownBy w' rv.ownBlock) (hn : rv'.ownBlock = rv.ownBlock ∨ ∀ i, rv'.ownBlock = some i → w.heap.size ≤ i) : Kp g rv rv' w w' :=
  ⟨h.os, h.tape, h.output, h.size, fun i hi _ f => ⟨h.block i hi (fun e => f e.symm), fun e => by
    rcases hn with hn | hn
    · exact f (hn ▸ e)
    · have := hn i e; omega⟩⟩
end
/-- A repository, in a world that has kept what lay below block B in W. -/
structure RA (B : Nat) (W w : World) (g : Nat) (rv : Value) (S : Rp) : Prop where
  bel : Below B W w
  head : Hd w g (headOf S rv)
  own : KOwn B w rv S.recs
  rows : ∀ r ∈ S.recs, Own B w (.slice (some ⟨r.blk, 0, none⟩) r.b.length r.cap) r.b
  low : B ≤ g
section
variable {B : Nat} {W w w' : World} {g : Nat} {rv rv' : Value} {S S' : Rp}
theorem RA.lg (h : RA B W w g rv S) : g < w.heap.size := lt_of_some h.head
theorem RA.base (h : RA B W w g rv S) : B ≤ w.heap.size := Nat.le_trans h.low (Nat.le_of_lt h.lg)
theorem RA.r1 (h : RA B W w g rv S) {i : Nat} (hi : rv.ownBlock = some i) : i ≠ g ∧ i < w.heap.size ∧ B ≤ i := by
  obtain ⟨hb, c, z, hr⟩ := h.own.blk hi
  exact ⟨ne_of_types hr h.head (by decide), lt_of_some hr, hb⟩
theorem RA.rb (h : RA B W w g rv S) {r : Rk} (hr : r ∈ S.recs) : r.blk ≠ g ∧ rv.ownBlock ≠ some r.blk ∧ r.blk < w.heap.size ∧ B ≤ r.blk := by
  obtain ⟨hb, c, z, hk⟩ := own_blk (h.rows r hr)
  refine ⟨ne_of_types hk h.head (by decide), fun e => ?_, lt_of_some hk, hb⟩
  obtain ⟨_, c', z', hr'⟩ := h.own.blk e
  exact ne_of_types hk hr' (by decide) rfl
theorem RA.c (h : RA B W w g rv S) (i : Nat) : w.cell? ⟨g, i, none⟩ = (headOf S rv)[i]? := cell_of_row w g i _ _ _ h.head
theorem RA.c0 (h : RA B W w g rv S) : w.cell? ⟨g, 0, none⟩ = some (.int .i64 (S.cap : Int)) := h.c 0
theorem RA.c1 (h : RA B W w g rv S) : w.cell? ⟨g, 1, none⟩ = some rv := h.c 1
theorem RA.c2 (h : RA B W w g rv S) : w.cell? ⟨g, 2, none⟩ = some (.int .u16 (S.last : Int)) := h.c 2
theorem RA.c3 (h : RA B W w g rv S) : w.cell? ⟨g, 3, none⟩ = some (.int .u16 (S.resv : Int)) := h.c 3
theorem RA.c4 (h : RA B W w g rv S) : w.cell? ⟨g, 4, none⟩ = some (.bool S.rsvd) := h.c 4
theorem RA.fz (h : RA B W w g rv S) (i : Nat) : w.frozen? ⟨g, i, none⟩ = false := frozen_of_row w g i _ _ h.head
/-- All its blocks are as they were. -/
theorem RA.same (h : RA B W w g rv S) (hb : Below B w w') (hk : ∀ i, i < w.heap.size → (i = g ∨ rv.ownBlock = some i ∨ ∃ r ∈ S.recs, r.blk = i) → w'.heap[i]? = w.heap[i]?) : RA B W w' g rv S :=
  ⟨h.bel.trans hb, (hk g h.lg (.inl rfl)).trans h.head, row_any h.own fun i hi => hk i (h.r1 hi).2.1 (.inr (.inl hi)),
    fun r hr => row_any (h.rows r hr) fun i hi => by injection hi with hi; subst hi; exact hk _ (h.rb hr).2.2.1 (.inr (.inr ⟨r, hr, rfl⟩)), h.low⟩
theorem RA.step (h : RA B W w g rv S) (hb : Below w.heap.size w w') : RA B W w' g rv S := h.same (hb.mono h.base) fun i hi _ => hb.block i hi
theorem RA.drewN (h : RA B W w g rv S) (n : Nat) : RA B W (w.drewN n) g rv S := ⟨below_drewN h.bel, h.head, h.own, h.rows, h.low⟩
theorem RA.drew (h : RA B W w g rv S) : RA B W w.drew g rv S := h.drewN 1
theorem RA.alloc (h : RA B W w g rv S) (o : Obj) : RA B W (w.alloc o) g rv S := h.step ((Below.refl _ _).alloc (Nat.le_refl _) _)
/-- Block b is none of the repository's own. -/
structure Far (g : Nat) (rv : Value) (S : Rp) (b : Nat) : Prop where
  g : b ≠ g
  rv : rv.ownBlock ≠ some b
  rows : ∀ r ∈ S.recs, r.blk ≠ b
theorem RA.grown_far {b : Nat} (h : RA B W w g rv S) (hg : w.grownBy w' (some b)) (hf : Far g rv S b) (hB : B ≤ b) : RA B W w' g rv S :=
  h.same ⟨hg.os, hg.tape, hg.output, hg.size, fun i hi => hg.block i (by have := h.base; omega) (fun e => by injection e; omega)⟩ fun i hi hc => hg.block i hi (fun e => by
    injection e with e
    subst e
    rcases hc with hc | hc | ⟨r, hr, hc⟩
    · exact hf.g hc
    · exact hf.rv hc
    · exact hf.rows r hr hc)
theorem RA.far_new (h : RA B W w g rv S) {b : Nat} (hb : w.heap.size ≤ b) : Far g rv S b :=
  ⟨fun e => by have := h.lg; omega, fun e => by have := (h.r1 e).2.1; omega, fun r hr e => by have := (h.rb hr).2.2.1; omega⟩
/-- A cell of the head is stored. -/
theorem RA.put (h : RA B W w g rv S) (i : Nat) (v : Value) (rv' : Value) (hh : (headOf S rv).setIfInBounds i v = headOf S' rv') (ho : KOwn B w rv' S'.recs) (hr : ∀ r ∈ S'.recs, Own B w (.slice (some ⟨r.blk, 0, none⟩) r.b.length r.cap) r.b) :
    RA B W (w.setCell ⟨g, i, none⟩ v) g rv' S' := by
  have h1 := heap_setCell_same w g i _ _ v h.head
  rw [hh] at h1
  refine ⟨below_put h.bel h.low v, h1, row_any ho fun j hj => heap_setCell_other w _ j v ?_, fun r hq => row_any (hr r hq) fun j hj => heap_setCell_other w _ j v ?_, h.low⟩
  · obtain ⟨_, c, z, hk⟩ := ho.blk hj
    exact ne_of_types hk h.head (by decide)
  · injection hj with hj
    subst hj
    obtain ⟨_, c, z, hk⟩ := own_blk (hr r hq)
    exact ne_of_types hk h.head (by decide)
theorem RA.put0 (h : RA B W w g rv S) (i : Nat) (v : Value) (hh : (headOf S rv).setIfInBounds i v = headOf S' rv) (hr : S'.recs = S.recs) : RA B W (w.setCell ⟨g, i, none⟩ v) g rv S' :=
  h.put i v rv hh (by rw [hr]; exact h.own) (by rw [hr]; exact h.rows)
/-- The records are another row. -/
theorem RA.recs (h : RA B W w g rv S) (hg : w.grownBy w' rv.ownBlock) (ho : KOwn B w' rv' S'.recs) (hr : ∀ r ∈ S'.recs, Own B w (.slice (some ⟨r.blk, 0, none⟩) r.b.length r.cap) r.b) (hh : (headOf S rv).setIfInBounds 1 rv' = headOf S' rv') :
    RA B W (w'.setCell ⟨g, 1, none⟩ rv') g rv' S' := by
  have hgb : w'.heap[g]? = w.heap[g]? := hg.block g h.lg fun e => (h.r1 e.symm).1 rfl
  have hh0 : Hd w' g (headOf S rv) := hgb.trans h.head
  have hb : Below B w w' := ⟨hg.os, hg.tape, hg.output, hg.size, fun i hi => hg.block i (by have := h.base; omega) fun e => by have := (h.r1 e.symm).2.2; omega⟩
  have h1 := heap_setCell_same w' g 1 _ _ rv' hh0
  rw [hh] at h1
  refine ⟨below_put (h.bel.trans hb) h.low rv', h1, row_any ho fun j hj => heap_setCell_other w' _ j rv' ?_, fun r hq => ?_, h.low⟩
  · obtain ⟨_, c, z, hk⟩ := ho.blk hj
    exact ne_of_types hk hh0 (by decide)
  · obtain ⟨_, c, z, hk⟩ := own_blk (hr r hq)
    have hne : r.blk ≠ g := ne_of_types hk h.head (by decide)
    refine row_any (hr r hq) fun j hj => ?_
    injection hj with hj
    subst hj
    refine (heap_setCell_other w' _ _ rv' hne).trans (hg.block _ (lt_of_some hk) fun e => ?_)
    obtain ⟨_, c', z', hr'⟩ := h.own.blk e.symm
    exact ne_of_types hk hr' (by decide) rfl
theorem RA.kprecs (_h : RA B W w g rv S) (hg : w.grownBy w' rv.ownBlock) (hk : rv'.ownBlock = rv.ownBlock ∨ rv'.ownBlock = some w.heap.size) : Kp g rv rv' w (w'.setCell ⟨g, 1, none⟩ rv') :=
  (Kp.rows hg (hk.imp id fun e i hi => by rw [e] at hi; injection hi with hi; omega)).trans (Kp.put rv' 1)
theorem Kp.grown_at {b : Nat} (k : Kp g rv rv' w w') (hb : b < w.heap.size) (h1 : b ≠ g) (h2 : rv.ownBlock ≠ some b) : w'.heap[b]? = w.heap[b]? ∧ rv'.ownBlock ≠ some b := k.block b hb h1 h2
theorem Kp.below (k : Kp g rv rv' w w') (h : RA B W w g rv S) : Below B w w' :=
  ⟨k.os, k.tape, k.output, k.size, fun i hi => (k.block i (by have := h.base; omega) (by have := h.low; omega) (fun e => by have := (h.r1 e).2.2; omega)).1⟩
end
end Go.Proofs.Ytcnkiecdagjgmaa.R11
