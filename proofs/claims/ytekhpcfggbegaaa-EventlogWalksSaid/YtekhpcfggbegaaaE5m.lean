/- A flash device in memory: its head, its bytes, its wear; what a call on it leaves of all else. -/
import Derived.Test.YtekhpcfggbegaaaOwn
import Derived.Test.YtekhpcfggbegaaaE5p
namespace Go.Proofs.Ytekhpcfggbegaaa.E5m
open Go.RowKit Go.Proofs.Ytekhpcfggbegaaa.Mem Go.Proofs.Ytekhpcfggbegaaa.E5p
set_option maxRecDepth 100000
set_option maxHeartbeats 400000

/-- A row of numbers of the call's own. -/
def IOwn (base : Nat) (w : World) (v : Value) (l : List Int) : Prop := w.ownsRow base 3 1 v l.length (ivs l)
/-- Where a device lies. -/
structure Sh where
  g : Nat
  gb : Nat
  cb : Nat
  gw : Nat
  cw : Nat
def cellsOf (d : Sh) (s : Fl) : Array Value :=
  #[.int .i64 (s.size : Int), .slice (some ⟨d.gb, 0, none⟩) s.bytes.length d.cb, .slice (some ⟨d.gw, 0, none⟩) s.wear.length d.cw, .int .i64 (s.steps : Int), .int .i64 (s.left : Int), .int .u8 (s.torn.toNat : Int), .bool s.down]
structure Dev (T : TypeId) (base : Nat) (w : World) (d : Sh) (s : Fl) : Prop where
  head : w.heap[d.g]? = some (.cells (cellsOf d s) T (0, 0))
  bytes : Own base w (.slice (some ⟨d.gb, 0, none⟩) s.bytes.length d.cb) s.bytes
  wear : IOwn base w (.slice (some ⟨d.gw, 0, none⟩) s.wear.length d.cw) s.wear
  low : base ≤ d.g
  n1 : d.g ≠ d.gb
  n2 : d.g ≠ d.gw
  n3 : d.gb ≠ d.gw
/-- Nothing but the device's own blocks has turned. -/
structure Kept (d : Sh) (w w' : World) : Prop where
  os : w'.os = w.os
  tape : w'.tape = w.tape
  output : w'.output = w.output
  size : w.heap.size ≤ w'.heap.size
  block : ∀ i, i < w.heap.size → i ≠ d.g → i ≠ d.gb → i ≠ d.gw → w'.heap[i]? = w.heap[i]?
/-- The devices share nothing. -/
structure Apart (d e : Sh) : Prop where
  a1 : e.g ≠ d.g
  a2 : e.g ≠ d.gb
  a3 : e.g ≠ d.gw
  b1 : e.gb ≠ d.g
  b2 : e.gb ≠ d.gb
  b3 : e.gb ≠ d.gw
  c1 : e.gw ≠ d.g
  c2 : e.gw ≠ d.gb
  c3 : e.gw ≠ d.gw
theorem Apart.symm {d e : Sh} (h : Apart d e) : Apart e d := ⟨h.a1.symm, h.b1.symm, h.c1.symm, h.a2.symm, h.b2.symm, h.c2.symm, h.a3.symm, h.b3.symm, h.c3.symm⟩
theorem lt_of_some {w : World} {g : Nat} {o : Obj} (h : w.heap[g]? = some o) : g < w.heap.size := by
  rcases Nat.lt_or_ge g w.heap.size with h1 | h1
  · exact h1
  · rw [Array.getElem?_eq_none h1] at h; cases h
/-- A row of the call's own whose block stays. -/
theorem row_stays {base e sz n g c : Nat} {w w' : World} {xs : List Value} (h : w.ownsRow base e sz (.slice (some ⟨g, 0, none⟩) n c) n xs) (hg : w'.heap[g]? = w.heap[g]?) :
    w'.ownsRow base e sz (.slice (some ⟨g, 0, none⟩) n c) n xs := by
  refine ⟨h.1, ?_⟩
  rcases h.2 with ⟨hv, _⟩ | ⟨g', cap, cur, hv, h1, h2, h3⟩
  · cases hv
  · have hv' := hv
    injection hv with e1 e2 e3
    injection e1 with e1
    injection e1 with e1
    subst e1
    exact .inr ⟨g, cap, cur, hv', h1, hg.trans h2, h3⟩
theorem row_lt {base e sz n g c : Nat} {w : World} {xs : List Value} (h : w.ownsRow base e sz (.slice (some ⟨g, 0, none⟩) n c) n xs) : base ≤ g ∧ g < w.heap.size := by
  rcases h.2 with ⟨hv, _⟩ | ⟨g', cap, cur, hv, h1, h2, h3⟩
  · cases hv
  · injection hv with e1 e2 e3
    injection e1 with e1
    injection e1 with e1
    subst e1
    exact ⟨h1, lt_of_some h2⟩
section
variable {T : TypeId} {base : Nat} {w w' w2 : World} {d e : Sh} {s : Fl}
theorem Dev.lg (h : Dev T base w d s) : d.g < w.heap.size := lt_of_some h.head
theorem Dev.lb (h : Dev T base w d s) : base ≤ d.gb ∧ d.gb < w.heap.size := row_lt h.bytes
theorem Dev.lw (h : Dev T base w d s) : base ≤ d.gw ∧ d.gw < w.heap.size := row_lt h.wear
theorem Dev.stays (h : Dev T base w d s) (h1 : w'.heap[d.g]? = w.heap[d.g]?) (h2 : w'.heap[d.gb]? = w.heap[d.gb]?) (h3 : w'.heap[d.gw]? = w.heap[d.gw]?) : Dev T base w' d s :=
  ⟨h1.trans h.head, row_stays h.bytes h2, row_stays h.wear h3, h.low, h.n1, h.n2, h.n3⟩
theorem Dev.kept (h : Dev T base w e s) (k : Kept d w w') (ap : Apart d e) : Dev T base w' e s :=
  h.stays (k.block _ h.lg ap.a1 ap.a2 ap.a3) (k.block _ h.lb.2 ap.b1 ap.b2 ap.b3) (k.block _ h.lw.2 ap.c1 ap.c2 ap.c3)
theorem Dev.below {B : Nat} (h : Dev T base w d s) (k : Below B w w') (hB : w.heap.size ≤ B) : Dev T base w' d s :=
  h.stays (k.block _ (Nat.lt_of_lt_of_le h.lg hB)) (k.block _ (Nat.lt_of_lt_of_le h.lb.2 hB)) (k.block _ (Nat.lt_of_lt_of_le h.lw.2 hB))
theorem Dev.drewN (h : Dev T base w d s) (n : Nat) : Dev T base (w.drewN n) d s := ⟨h.head, h.bytes, h.wear, h.low, h.n1, h.n2, h.n3⟩
theorem Dev.base_ {b : Nat} (h : Dev T base w d s) (hb : b ≤ base) : Dev T b w d s := ⟨h.head, h.bytes.base_ hb, own_base h.wear hb, Nat.le_trans hb h.low, h.n1, h.n2, h.n3⟩
theorem Dev.apart {T' : TypeId} {b' : Nat} {s' : Fl} (h : Dev T base w d s) (h' : Dev T' b' w' e s') (hb : w.heap.size ≤ b') : Apart d e := by
  have := h.lg; have := h.lb; have := h.lw; have := h'.low; have := h'.lb; have := h'.lw
  exact ⟨by omega, by omega, by omega, by omega, by omega, by omega, by omega, by omega, by omega⟩
theorem Dev.c0 (h : Dev T base w d s) : w.cell? ⟨d.g, 0, none⟩ = some (.int .i64 (s.size : Int)) := by rw [cell_of_row w d.g 0 _ _ _ h.head]; rfl
theorem Dev.c1 (h : Dev T base w d s) : w.cell? ⟨d.g, 1, none⟩ = some (.slice (some ⟨d.gb, 0, none⟩) s.bytes.length d.cb) := by rw [cell_of_row w d.g 1 _ _ _ h.head]; rfl
theorem Dev.c2 (h : Dev T base w d s) : w.cell? ⟨d.g, 2, none⟩ = some (.slice (some ⟨d.gw, 0, none⟩) s.wear.length d.cw) := by rw [cell_of_row w d.g 2 _ _ _ h.head]; rfl
theorem Dev.c3 (h : Dev T base w d s) : w.cell? ⟨d.g, 3, none⟩ = some (.int .i64 (s.steps : Int)) := by rw [cell_of_row w d.g 3 _ _ _ h.head]; rfl
theorem Dev.c4 (h : Dev T base w d s) : w.cell? ⟨d.g, 4, none⟩ = some (.int .i64 (s.left : Int)) := by rw [cell_of_row w d.g 4 _ _ _ h.head]; rfl
theorem Dev.c5 (h : Dev T base w d s) : w.cell? ⟨d.g, 5, none⟩ = some (.int .u8 (s.torn.toNat : Int)) := by rw [cell_of_row w d.g 5 _ _ _ h.head]; rfl
theorem Dev.c6 (h : Dev T base w d s) : w.cell? ⟨d.g, 6, none⟩ = some (.bool s.down) := by rw [cell_of_row w d.g 6 _ _ _ h.head]; rfl
theorem Dev.fz (h : Dev T base w d s) (i : Nat) : w.frozen? ⟨d.g, i, none⟩ = false := frozen_of_row w d.g i _ _ h.head
theorem Dev.sl (h : Dev T base w d s) : Sl w (some ⟨d.gb, 0, none⟩) s.bytes.length d.cb s.bytes := sl_own h.bytes rfl
theorem other_block (w : World) (g i k : Nat) (v : Value) (h : k ≠ g) : (w.setCell ⟨g, i, none⟩ v).heap[k]? = w.heap[k]? := heap_setCell_other w ⟨g, i, none⟩ k v h
/-- A store into the head. -/
theorem Dev.put (h : Dev T base w d s) (i : Nat) (v : Value) (s' : Fl) (hc : (cellsOf d s).setIfInBounds i v = cellsOf d s') (hb : s'.bytes = s.bytes) (hw : s'.wear = s.wear) : Dev T base (w.setCell ⟨d.g, i, none⟩ v) d s' := by
  refine ⟨?_, ?_, ?_, h.low, h.n1, h.n2, h.n3⟩
  · rw [heap_setCell_same w d.g i _ _ v h.head]; exact congrArg (fun a => some (Obj.cells a T (0, 0))) hc
  · rw [hb]; exact row_stays h.bytes (other_block _ _ _ _ _ h.n1.symm)
  · rw [hw]; exact row_stays h.wear (other_block _ _ _ _ _ h.n2.symm)
theorem Dev.put3 (h : Dev T base w d s) (n : Nat) : Dev T base (w.setCell ⟨d.g, 3, none⟩ (.int .i64 (n : Int))) d { s with steps := n } := h.put 3 _ _ rfl rfl rfl
theorem Dev.put4 (h : Dev T base w d s) (n : Nat) : Dev T base (w.setCell ⟨d.g, 4, none⟩ (.int .i64 (n : Int))) d { s with left := n } := h.put 4 _ _ rfl rfl rfl
theorem Dev.put5 (h : Dev T base w d s) (t : UInt8) : Dev T base (w.setCell ⟨d.g, 5, none⟩ (.int .u8 (t.toNat : Int))) d { s with torn := t } := h.put 5 _ _ rfl rfl rfl
theorem Dev.put6 (h : Dev T base w d s) (b : Bool) : Dev T base (w.setCell ⟨d.g, 6, none⟩ (.bool b)) d { s with down := b } := h.put 6 _ _ rfl rfl rfl
/-- Other bytes in the same block. -/
theorem Dev.bytes_ (h : Dev T base w d s) {l : List UInt8} (hl : l.length = s.bytes.length) (ho : Own base w' (.slice (some ⟨d.gb, 0, none⟩) l.length d.cb) l) (hg : w.grownBy w' (some d.gb)) : Dev T base w' d { s with bytes := l } := by
  refine ⟨?_, ho, ?_, h.low, h.n1, h.n2, h.n3⟩
  · have := hg.block d.g h.lg (by simp; exact h.n1)
    rw [this, h.head]
    simp [cellsOf, hl]
  · exact row_stays h.wear (hg.block d.gw h.lw.2 (by simp; exact h.n3.symm))
/-- Other wear in the same block. -/
theorem Dev.wear_ (h : Dev T base w d s) {l : List Int} (hl : l.length = s.wear.length) (ho : IOwn base w' (.slice (some ⟨d.gw, 0, none⟩) l.length d.cw) l) (hg : w.grownBy w' (some d.gw)) : Dev T base w' d { s with wear := l } := by
  refine ⟨?_, ?_, ho, h.low, h.n1, h.n2, h.n3⟩
  · have := hg.block d.g h.lg (by simp; exact h.n2)
    rw [this, h.head]
    simp [cellsOf, hl]
  · exact row_stays h.bytes (hg.block d.gb h.lb.2 (by simp; exact h.n3))
theorem Kept.refl (d : Sh) (w : World) : Kept d w w := ⟨rfl, rfl, rfl, Nat.le_refl _, fun _ _ _ _ _ => rfl⟩
theorem Kept.trans (h : Kept d w w') (k : Kept d w' w2) : Kept d w w2 :=
  ⟨k.os.trans h.os, k.tape.trans h.tape, k.output.trans h.output, Nat.le_trans h.size k.size, fun i hi a b c => (k.block i (Nat.lt_of_lt_of_le hi h.size) a b c).trans (h.block i hi a b c)⟩
theorem Kept.grown {k : Nat} (h : w.grownBy w' (some k)) (hk : k = d.g ∨ k = d.gb ∨ k = d.gw) : Kept d w w' :=
  ⟨h.os, h.tape, h.output, h.size, fun i hi a b c => h.block i hi (fun e => by injection e; omega)⟩
theorem Kept.put (d : Sh) (w : World) (i : Nat) (v : Value) : Kept d w (w.setCell ⟨d.g, i, none⟩ v) := Kept.grown (set_grown w d.g i v) (.inl rfl)
theorem Kept.drewN (h : Kept d w w') (n : Nat) : Kept d w (w'.drewN n) := ⟨h.os, h.tape, h.output, h.size, h.block⟩
theorem Kept.of_below {B : Nat} (h : Below B w w') (hB : w.heap.size ≤ B) : Kept d w w' := ⟨h.os, h.tape, h.output, h.size, fun i hi _ _ _ => h.block i (by omega)⟩
theorem Kept.below {B : Nat} {a : World} (k : Kept d w w') (h : Below B a w) (hd : Dev T B w d s) : Below B a w' := by
  have := hd.low; have := hd.lb; have := hd.lw
  exact ⟨k.os.trans h.os, k.tape.trans h.tape, k.output.trans h.output, Nat.le_trans h.size k.size, fun i hi => (k.block i (by omega) (by omega) (by omega) (by omega)).trans (h.block i hi)⟩
/-- What lies below the device's blocks reads as before. -/
theorem Kept.rd {B : Nat} {A : Option Addr} {xs : List Value} (k : Kept d w w') (h : Rd B w A xs) (hd : Dev T base w d s) (hB : B ≤ base) : Rd B w' A xs :=
  h.keep fun p hp => by
    have := hd.low; have := hd.lb; have := hd.lw; have := hd.lg
    exact World.cell?_of_block (k.block p.block (by omega) (by omega) (by omega) (by omega))
/-- The bytes lie outside the device. -/
def Off (d : Sh) (A : Option Addr) (b : List UInt8) : Prop := 0 < b.length → ∀ a, A = some a → a.block ≠ d.g ∧ a.block ≠ d.gb ∧ a.block ≠ d.gw
theorem Off.row {B : Nat} {A : Option Addr} {b : List UInt8} (h : Row B w A b) (hd : Dev T base w' d s) (hB : B ≤ base) : Off d A b := fun hb a ha => by
  obtain ⟨a', e, hlt, _⟩ := row_at h hb
  have e2 := ha.symm.trans e
  injection e2 with e2
  subst e2
  have := hd.low; have := hd.lb; have := hd.lw
  omega
theorem Off.block {g i : Nat} {b : List UInt8} (h1 : g ≠ d.g) (h2 : g ≠ d.gb) (h3 : g ≠ d.gw) : Off d (some ⟨g, i, none⟩) b := fun _ a ha => by
  injection ha with ha
  subst ha
  exact ⟨h1, h2, h3⟩
theorem Off.new {g i : Nat} {b : List UInt8} (hd : Dev T base w d s) (hg : w.heap.size ≤ g) : Off d (some ⟨g, i, none⟩) b := by
  have := hd.lg; have := hd.lb; have := hd.lw
  exact Off.block (by omega) (by omega) (by omega)
theorem Kept.row {B : Nat} {A : Option Addr} {b : List UInt8} (k : Kept d w w') (h : Row B w A b) (ho : Off d A b) (hB : B ≤ w.heap.size) : Row B w' A b := fun hl => by
  obtain ⟨a, e, hlt, hc⟩ := h hl
  obtain ⟨h1, h2, h3⟩ := ho (by rwa [len_bvs] at hl) a e
  exact ⟨a, e, hlt, fun j hj => (World.cell?_of_block (k.block (a.add j).block (by rw [add_block]; omega) (by rw [add_block]; exact h1) (by rw [add_block]; exact h2) (by rw [add_block]; exact h3))).trans (hc j hj)⟩
/-- A row of the call's own elsewhere. -/
theorem Kept.own {base' e sz n g c : Nat} {xs : List Value} (k : Kept d w w') (h : w.ownsRow base' e sz (.slice (some ⟨g, 0, none⟩) n c) n xs) (h1 : g ≠ d.g) (h2 : g ≠ d.gb) (h3 : g ≠ d.gw) : w'.ownsRow base' e sz (.slice (some ⟨g, 0, none⟩) n c) n xs :=
  row_stays h (k.block _ (row_lt h).2 h1 h2 h3)
end
section
variable {base g n c i : Nat} {w : World} {l : List Int} (h : IOwn base w (.slice (some ⟨g, 0, none⟩) n c) l) (hn : n = l.length)
include h hn
theorem iown_cell (hi : i < l.length) : w.cell? ⟨g, i, none⟩ = some (.int .i64 l[i]) := by
  subst hn
  rw [World.ownsRow.cellAt h i (by omega)]
  simp [ivs, List.getElem?_eq_getElem hi]
theorem iown_frozen (i : Nat) : w.frozen? ⟨g, i, none⟩ = false := by
  subst hn
  exact World.ownsRow.frozenAt h i
theorem iown_store (i : Nat) (x : Int) : IOwn base (w.setCell ⟨g, i, none⟩ (.int .i64 x)) (.slice (some ⟨g, 0, none⟩) n c) (l.set i x) ∧ w.grownBy (w.setCell ⟨g, i, none⟩ (.int .i64 x)) (some g) := by
  subst hn
  have hst := World.ownsRow.stored h i (.int .i64 x)
  refine ⟨?_, hst.2⟩
  have := hst.1
  unfold IOwn ivs
  rwa [List.length_set, List.map_set]
end
/-- A slice of numbers reads as the list l. -/
structure ISl (w : World) (A : Option Addr) (n c : Nat) (l : List Int) : Prop where
  len : n = l.length
  row : IRow w.heap.size w A l
  cap : n ≤ c
  max : c ≤ maxLen
  nil : A = none → c = 0
theorem ISl.step {w w' : World} {A : Option Addr} {n c : Nat} {l : List Int} (h : ISl w A n c l) (hb : Below w.heap.size w w') : ISl w' A n c l := ⟨h.len, (h.row.below hb).more hb.size, h.cap, h.max, h.nil⟩
theorem ISl.of_own {base : Nat} {w : World} {v : Value} {l : List Int} (h : IOwn base w v l) : ∃ A n c, v = .slice A n c ∧ ISl w A n c l := by
  obtain ⟨A, c, rfl, h1, h2⟩ := own_form h
  refine ⟨A, l.length, c, rfl, rfl, own_rd h, h1, h2, fun e => ?_⟩
  rcases h.2 with ⟨hv, _⟩ | ⟨g, cap, cur, hv, _⟩
  · injection hv
  · subst e; cases hv
theorem Dev.isl {T : TypeId} {base : Nat} {w : World} {d : Sh} {s : Fl} (h : Dev T base w d s) : ISl w (some ⟨d.gw, 0, none⟩) s.wear.length d.cw s.wear := by
  obtain ⟨A, n, c, hv, hs⟩ := ISl.of_own h.wear
  injection hv with e1 e2 e3
  subst e1 e2 e3
  exact hs
end Go.Proofs.Ytekhpcfggbegaaa.E5m
