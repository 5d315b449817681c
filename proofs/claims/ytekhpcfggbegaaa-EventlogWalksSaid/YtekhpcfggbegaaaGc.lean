/- The event log in memory: its head, its records, its device; what a call on it leaves of all else. -/
import Derived.Test.YtekhpcfggbegaaaGb
import Derived.Test.YtekhpcfggbegaaaE5e
namespace Go.Proofs.Ytekhpcfggbegaaa.G9
open Go.RowKit Go.Proofs.Ytekhpcfggbegaaa.Mem Go.Proofs.Ytekhpcfggbegaaa.E5p Go.Proofs.Ytekhpcfggbegaaa.E5m Go.Proofs.Ytekhpcfggbegaaa.E5d Go.Proofs.Ytekhpcfggbegaaa.V7 Go.Proofs.Ytekhpcfggbegaaa.V9
set_option maxRecDepth 100000
set_option maxHeartbeats 1000000

def headOf (d : Sh) (L : Lg) (rv : Value) : Array Value :=
  #[.pointer (some ⟨d.g, 0, none⟩), .int .i64 (L.first : Int), .int .i64 (L.S : Int), .bool L.ow, .int .i64 (L.newest : Int), .int .i64 (L.tail : Int), .int .i64 (L.used : Int), .int .u16 (L.nid : Int), rv, .bool L.full, .int .u16 (L.resv : Int), .bool L.rsvd]
/-- The cells of a log that has ended. -/
def headNone : Array Value :=
  #[.pointer none, .int .i64 0, .int .i64 0, .bool false, .int .i64 0, .int .i64 0, .int .i64 0, .int .u16 0, .slice none 0 0, .bool false, .int .u16 0, .bool false]
def Hd (w : World) (g : Nat) (cs : Array Value) : Prop := w.heap[g]? = some (.cells cs 130 (0, 0))
/-- Two blocks of different types. -/
theorem ne_of_types {w : World} {g h : Nat} {c1 c2 : Array Value} {T1 T2 : TypeId} {z1 z2 : Nat × Nat} (h1 : w.heap[g]? = some (.cells c1 T1 z1)) (h2 : w.heap[h]? = some (.cells c2 T2 z2)) (hn : T1 ≠ T2) : g ≠ h := by
  rintro rfl
  rw [h1] at h2
  injection h2 with h2
  injection h2 with _ h3
  exact hn h3
theorem ROwn.blk {base : Nat} {w : World} {v : Value} {l : List Rc} (h : ROwn base w v l) {i : Nat} (hi : v.ownBlock = some i) : base ≤ i ∧ ∃ c z, w.heap[i]? = some (.cells c 133 z) := by
  rcases h.2 with ⟨rfl, _⟩ | ⟨g, cap, cur, rfl, hg, hh, _⟩
  · cases hi
  · injection hi with hi
    subst hi
    exact ⟨hg, _, _, hh⟩
theorem own_blk {base : Nat} {w : World} {e sz n g c : Nat} {xs : List Value} (h : w.ownsRow base e sz (.slice (some ⟨g, 0, none⟩) n c) n xs) : base ≤ g ∧ ∃ c z, w.heap[g]? = some (.cells c e z) := by
  rcases h.2 with ⟨hv, _⟩ | ⟨g', cap, cur, hv, h1, h2, _⟩
  · cases hv
  · injection hv with e1
    injection e1 with e1
    injection e1 with e1
    subst e1
    exact ⟨h1, _, _, h2⟩
/-- Nothing but the log's own blocks has turned, and the records lie where they lay or in a new block. -/
structure Kp (d : Sh) (g : Nat) (rv rv' : Value) (w w' : World) : Prop where
  os : w'.os = w.os
  tape : w'.tape = w.tape
  output : w'.output = w.output
  size : w.heap.size ≤ w'.heap.size
  block : ∀ i, i < w.heap.size → i ≠ d.g → i ≠ d.gb → i ≠ d.gw → i ≠ g → rv.ownBlock ≠ some i → w'.heap[i]? = w.heap[i]? ∧ rv'.ownBlock ≠ some i
section
variable {d : Sh} {g : Nat} {rv rv' rv2 : Value} {w w' w2 : World}
theorem Kp.refl : Kp d g rv rv w w := ⟨rfl, rfl, rfl, Nat.le_refl _, fun _ _ _ _ _ _ h => ⟨rfl, h⟩⟩
theorem Kp.trans (h : Kp d g rv rv' w w') (k : Kp d g rv' rv2 w' w2) : Kp d g rv rv2 w w2 :=
  ⟨k.os.trans h.os, k.tape.trans h.tape, k.output.trans h.output, Nat.le_trans h.size k.size, fun i hi a b c e f => by
    obtain ⟨h1, h2⟩ := h.block i hi a b c e f
    obtain ⟨k1, k2⟩ := k.block i (Nat.lt_of_lt_of_le hi h.size) a b c e h2
    exact ⟨k1.trans h1, k2⟩⟩
theorem Kp.of_kept (h : Kept d w w') : Kp d g rv rv w w' := ⟨h.os, h.tape, h.output, h.size, fun i hi a b c _ f => ⟨h.block i hi a b c, f⟩⟩
theorem Kp.of_below {B : Nat} (h : Below B w w') (hB : w.heap.size ≤ B) : Kp d g rv rv w w' := ⟨h.os, h.tape, h.output, h.size, fun i hi _ _ _ _ f => ⟨h.block i (by omega), f⟩⟩
theorem Kp.put (v : Value) (i : Nat) : Kp d g rv rv w (w.setCell ⟨g, i, none⟩ v) := by
  have h := set_grown w g i v
  exact ⟨h.os, h.tape, h.output, h.size, fun j hj _ _ _ e f => ⟨h.block j hj (fun x => e (by injection x)), f⟩⟩
theorem Kp.drew (h : Kp d g rv rv' w w') : Kp d g rv rv' w w'.drew := ⟨h.os, h.tape, h.output, h.size, h.block⟩
theorem Kp.drewN (h : Kp d g rv rv' w w') (n : Nat) : Kp d g rv rv' w (w'.drewN n) := ⟨h.os, h.tape, h.output, h.size, h.block⟩
/-- The records have moved within their block or to a new one. -/
theorem Kp.rows (h : w.grownBy w' rv.ownBlock) (hn : ∀ i, i < w.heap.size → rv.ownBlock ≠ some i → rv'.ownBlock ≠ some i) : Kp d g rv rv' w w' :=
  ⟨h.os, h.tape, h.output, h.size, fun i hi _ _ _ _ f => ⟨h.block i hi (fun e => f e.symm), hn i hi f⟩⟩
theorem Kp.below {B : Nat} {W : World} (k : Kp d g rv rv' w w') (h : Below B W w) (h1 : B ≤ d.g) (h2 : B ≤ d.gb) (h3 : B ≤ d.gw) (h4 : B ≤ g) (h5 : ∀ i, rv.ownBlock = some i → B ≤ i) (h6 : B ≤ w.heap.size) : Below B W w' :=
  ⟨k.os.trans h.os, k.tape.trans h.tape, k.output.trans h.output, Nat.le_trans h.size k.size, fun i hi => (k.block i (by omega) (by omega) (by omega) (by omega) (by omega) (fun e => by have := h5 i e; omega)).1.trans (h.block i hi)⟩
end
/-- A log that lives, in a world that has kept what lay below block B in W. -/
structure LA (B : Nat) (W w : World) (d : Sh) (s : Fl) (m g : Nat) (rv : Value) (L : Lg) (n : Nat) : Prop where
  dev : At B W w d s m
  head : Hd w g (headOf d L rv)
  own : ROwn B w rv L.recs
  low : B ≤ g
  ok : L.Ok s n
section
variable {B : Nat} {W w w' : World} {d : Sh} {s s' : Fl} {m m' g n : Nat} {rv : Value} {L : Lg}
theorem LA.n1 (h : LA B W w d s m g rv L n) : g ≠ d.g := ne_of_types h.head h.dev.dev.head (by decide)
theorem LA.n2 (h : LA B W w d s m g rv L n) : g ≠ d.gb := by
  obtain ⟨_, c, z, hb⟩ := own_blk h.dev.dev.bytes
  exact ne_of_types h.head hb (by decide)
theorem LA.n3 (h : LA B W w d s m g rv L n) : g ≠ d.gw := by
  obtain ⟨_, c, z, hb⟩ := own_blk h.dev.dev.wear
  exact ne_of_types h.head hb (by decide)
theorem LA.r1 (h : LA B W w d s m g rv L n) {i : Nat} (hi : rv.ownBlock = some i) : i ≠ d.g ∧ i ≠ d.gb ∧ i ≠ d.gw ∧ i ≠ g ∧ i < w.heap.size := by
  obtain ⟨hb, c, z, hr⟩ := h.own.blk hi
  obtain ⟨_, c1, z1, h1⟩ := own_blk h.dev.dev.bytes
  obtain ⟨_, c2, z2, h2⟩ := own_blk h.dev.dev.wear
  exact ⟨ne_of_types hr h.dev.dev.head (by decide), ne_of_types hr h1 (by decide), ne_of_types hr h2 (by decide), ne_of_types hr h.head (by decide), E5m.lt_of_some hr⟩
theorem LA.lg (h : LA B W w d s m g rv L n) : g < w.heap.size := E5m.lt_of_some h.head
theorem LA.c (h : LA B W w d s m g rv L n) (i : Nat) : w.cell? ⟨g, i, none⟩ = (headOf d L rv)[i]? := cell_of_row w g i _ _ _ h.head
theorem LA.fz (h : LA B W w d s m g rv L n) (i : Nat) : w.frozen? ⟨g, i, none⟩ = false := frozen_of_row w g i _ _ h.head
end
end Go.Proofs.Ytekhpcfggbegaaa.G9
