/- Walks: the program's package event: what a change makes. -/
import Derived.Test.YtekhpcfggbegaaaF2p
import Derived.Laws.Rows
import Derived.Laws.Tables
import Derived.Lib.AppendIntMem
namespace Go.Proofs.Ytekhpcfggbegaaa.V7
open Go.RowKit Go.Proofs.Ytekhpcfggbegaaa.Mem
set_option maxRecDepth 100000
set_option maxHeartbeats 400000

/-- An event's ten values. -/
structure Ev where
  (id time gen st sn ty : Nat) (de : Bool) (d0 d1 d2 : Nat)
deriving DecidableEq
namespace Ev
/-- The values are those of their types. -/
structure Fit (e : Ev) : Prop where
  id : e.id < 65536
  time : e.time < 4294967296
  gen : e.gen < 65536
  st : e.st < 256
  sn : e.sn < 256
  ty : e.ty < 256
  d0 : e.d0 < 256
  d1 : e.d1 < 256
  d2 : e.d2 < 256
def cells (e : Ev) : Array Value := #[.int .u16 (e.id : Int), .int .u32 (e.time : Int), .int .u16 (e.gen : Int), .int .u8 (e.st : Int), .int .u8 (e.sn : Int), .int .u8 (e.ty : Int), .bool e.de, .int .u8 (e.d0 : Int), .int .u8 (e.d1 : Int), .int .u8 (e.d2 : Int)]
def v (e : Ev) : Value := .agg e.cells
def none : Ev := ⟨0, 0, 0, 0, 0, 0, false, 0, 0, 0⟩
end Ev
/-- Which events are valid. -/
def vld (e : Ev) : Bool := decide (e.id ≤ 65534) && decide (e.time ≤ 4294967294) && decide (e.ty ≤ 127)

theorem valid_p (e : Ev) (w : World) : Calls Try.prog 114 #[e.v] w fun x w' => x = .returned (.bool (vld e)) ∧ Below w.heap.size w w' := by
  obtain ⟨id, time, gen, st, sn, ty, de, d0, d1, d2⟩ := e
  unfold Ev.v Ev.cells
  go_enter Try.func114, Try.ntmps114
  go_wp2_with fail
  all_goals
    go_ret
    exact ⟨ret_bool (by rw [Bool.eq_iff_iff]; simp [vld]; omega), (Below.refl _ _).alloc (Nat.le_refl _) _⟩
/-- At the block r lies the event e, and may be written. -/
def Box (w : World) (r : Nat) (e : Ev) : Prop := w.heap[r]? = some (.cells e.cells 89 (0, 0))
theorem lt_of_some {w : World} {b : Nat} {o : Obj} (h : w.heap[b]? = some o) : b < w.heap.size := by
  rcases Nat.lt_or_ge b w.heap.size with h1 | h1
  · exact h1
  · rw [Array.getElem?_eq_none h1] at h; cases h
theorem Box.lt {w : World} {r : Nat} {e : Ev} (h : Box w r e) : r < w.heap.size := lt_of_some h
theorem Box.new (w : World) (e : Ev) : Box (w.alloc (.cells e.cells 89)) w.heap.size e := heap_alloc_new w _
theorem Box.below {B r : Nat} {w w' : World} {e : Ev} (h : Box w r e) (hb : Below B w w') (hr : r < B) : Box w' r e := (hb.block r hr).trans h
theorem Box.alloc {r : Nat} {w : World} {e : Ev} (h : Box w r e) (o : Obj) : Box (w.alloc o) r e := (heap_alloc_old w o (Box.lt h)).trans h
theorem Box.grown {r : Nat} {w w' : World} {e : Ev} {b : Option Nat} (h : Box w r e) (hg : w.grownBy w' b) (hr : some r ≠ b) : Box w' r e := (hg.block r h.lt hr).trans h
section
variable {w : World} {r : Nat} {e : Ev} (h : Box w r e)
include h
theorem Box.c (i : Nat) : w.cell? ⟨r, i, none⟩ = e.cells[i]? := cell_of_row w r i _ _ _ h
theorem Box.fz (i : Nat) : w.frozen? ⟨r, i, none⟩ = false := frozen_of_row w r i _ _ h
theorem Box.c0 : w.cell? ⟨r, 0, none⟩ = some (.int .u16 (e.id : Int)) := h.c 0
theorem Box.c1 : w.cell? ⟨r, 1, none⟩ = some (.int .u32 (e.time : Int)) := h.c 1
theorem Box.c2 : w.cell? ⟨r, 2, none⟩ = some (.int .u16 (e.gen : Int)) := h.c 2
theorem Box.c3 : w.cell? ⟨r, 3, none⟩ = some (.int .u8 (e.st : Int)) := h.c 3
theorem Box.c4 : w.cell? ⟨r, 4, none⟩ = some (.int .u8 (e.sn : Int)) := h.c 4
theorem Box.c5 : w.cell? ⟨r, 5, none⟩ = some (.int .u8 (e.ty : Int)) := h.c 5
theorem Box.c6 : w.cell? ⟨r, 6, none⟩ = some (.bool e.de) := h.c 6
theorem Box.c7 : w.cell? ⟨r, 7, none⟩ = some (.int .u8 (e.d0 : Int)) := h.c 7
theorem Box.c8 : w.cell? ⟨r, 8, none⟩ = some (.int .u8 (e.d1 : Int)) := h.c 8
theorem Box.c9 : w.cell? ⟨r, 9, none⟩ = some (.int .u8 (e.d2 : Int)) := h.c 9
theorem Box.set (i : Nat) (v : Value) (e' : Ev) (he : e.cells.setIfInBounds i v = e'.cells) : Box (w.setCell ⟨r, i, none⟩ v) r e' := by
  unfold Box
  rw [← he]
  exact heap_setCell_same w r i _ _ v h
theorem Box.load : (loadVar 89 ⟨r, 0, none⟩).run Try.prog w = .ok e.v w := run_loadVar_row w r _ _ _ _ _ h Try.underlying89 rfl (by kernel_rfl)
end
theorem one_cells (e : Ev) : e.cells.all (·.oneCell') = true := by
  simp [Ev.cells, Value.oneCell']
/-- A whole event is stored at its block. -/
theorem wpList_store_box {ops : Array Oper} {rest : List Oper} {o : Oper} {a : Act} {w : World} {Q : Exit → Act → World → Prop} (hgd : o.guard = none) (x y : Operand) (ho : o.op = .store 89 x y)
    (r : Nat) (e e0 : Ev) (hx : a.eval x = .pointer (some ⟨r, 0, none⟩)) (hy : a.eval y = e.v) (hb : Box w r e0)
    (h : ∀ w', Box w' r e → w.grownBy w' (some r) → wpList Try.prog ops Q rest (a.put o.dst undef) w') : wpList Try.prog ops Q (o :: rest) a w :=
  wpList_store_row hgd _ x y ho r e.cells hx hy _ _ hb (by kernel_rfl) rfl (one_cells e)
    (h _ (setRow_heap w r _ _ _ _ hb) ⟨rfl, rfl, rfl, by simp, fun k _ hk => setRow_other w r k _ (fun he => hk (by rw [he]))⟩)
theorem wpList_load_box {ops : Array Oper} {rest : List Oper} {o : Oper} {a : Act} {w : World} {Q : Exit → Act → World → Prop} (hgd : o.guard = none) (x : Operand) (ho : o.op = .load 89 x)
    (r : Nat) (e : Ev) (hx : a.eval x = .pointer (some ⟨r, 0, none⟩)) (hb : Box w r e)
    (h : wpList Try.prog ops Q rest (a.put o.dst e.v) w) : wpList Try.prog ops Q (o :: rest) a w :=
  wpList_load_row hgd _ x ho r hx _ _ _ _ hb Try.underlying89 rfl (by kernel_rfl) h
/-- A function's end whose result is an event in a block. -/
theorem out_box {p : Tmp} {a : Act} {w : World} {r : Nat} {e : Ev} {Q : Ending → World → Prop} {fn : Func} (hr : fn.results = #[.cell p 89]) (hp : a.tmps.getD p undef = .pointer (some ⟨r, 0, none⟩)) (hd : a.defers = []) (hb : Box w r e) (h : Q (.returned e.v) w) :
    bodyPost Try.prog fn Q .ret a w :=
  bodyPost_ret (results_cell_row hr _ w r _ _ _ _ hp hb Try.underlying89 rfl (by kernel_rfl)) hd h
theorem out_box2 {p q : Tmp} {a : Act} {w : World} {r : Nat} {e : Ev} {v : Value} {Q : Ending → World → Prop} {fn : Func} (hr : fn.results = #[.cell p 89, .tmp q]) (hp : a.tmps.getD p undef = .pointer (some ⟨r, 0, none⟩)) (hq : a.tmps.getD q undef = v) (hd : a.defers = []) (hb : Box w r e) (h : Q (.returned (.tuple #[e.v, v])) w) :
    bodyPost Try.prog fn Q .ret a w := by
  refine bodyPost_ret ?_ hd h
  have hp' : a.tmps[p]?.getD undef = .pointer (some ⟨r, 0, none⟩) := by simpa using hp
  have hq' : a.tmps[q]?.getD undef = v := by simpa using hq
  simp [results, hr, hp', hq', asAddr, hb.load]
/-- Three data bytes are stored. -/
theorem Box.data {B r q : Nat} {w0 w : World} {e eq : Ev} (h : Box w r e) (hq : Box w q eq) (hne : q ≠ r) (hb : Below B w0 w) (hz : B ≤ w.heap.size) (hr : B ≤ r) (a b c : Nat) :
    Box (((w.setCell ⟨r, 7, none⟩ (.int .u8 (a : Int))).setCell ⟨r, 8, none⟩ (.int .u8 (b : Int))).setCell ⟨r, 9, none⟩ (.int .u8 (c : Int))) r ⟨e.id, e.time, e.gen, e.st, e.sn, e.ty, e.de, a, b, c⟩ ∧
    Box (((w.setCell ⟨r, 7, none⟩ (.int .u8 (a : Int))).setCell ⟨r, 8, none⟩ (.int .u8 (b : Int))).setCell ⟨r, 9, none⟩ (.int .u8 (c : Int))) q eq ∧
    Below B w0 (((w.setCell ⟨r, 7, none⟩ (.int .u8 (a : Int))).setCell ⟨r, 8, none⟩ (.int .u8 (b : Int))).setCell ⟨r, 9, none⟩ (.int .u8 (c : Int))) := by
  have g1 := set_grown w r 7 (.int .u8 (a : Int))
  have g2 := set_grown (w.setCell ⟨r, 7, none⟩ (.int .u8 (a : Int))) r 8 (.int .u8 (b : Int))
  have g3 := set_grown ((w.setCell ⟨r, 7, none⟩ (.int .u8 (a : Int))).setCell ⟨r, 8, none⟩ (.int .u8 (b : Int))) r 9 (.int .u8 (c : Int))
  have g := grown_trans (grown_trans g1 g2) g3
  exact ⟨((h.set 7 _ ⟨e.id, e.time, e.gen, e.st, e.sn, e.ty, e.de, a, e.d1, e.d2⟩ rfl).set 8 _ ⟨e.id, e.time, e.gen, e.st, e.sn, e.ty, e.de, a, b, e.d2⟩ rfl).set 9 _ _ rfl, hq.grown g (fun e => by injection e; omega), hb.grown g hz (fun k hk => by injection hk; omega)⟩
/-- The offset of each index of a threshold, as the program's table has it. -/
def offs : List Int := [0, 2, 4, 7, 9, 11]
def OffTab (w : World) : Prop := Lib.TabIs Try.prog w "baseboard/event.offsets" .u8 offs
def OffBelow (B : Nat) (w : World) : Prop := Lib.TabBelow Try.prog B w "baseboard/event.offsets" .u8 offs
theorem OffTab.start {w : World} (h : OffTab w) : OffBelow w.heap.size w := Lib.tabBelow_of_tabIs h
theorem OffBelow.at_ {B : Nat} {w w1 : World} (h : OffBelow B w) (hb : Below B w w1) : OffTab w1 := h w1 hb
def off (i : Nat) : Nat := if i < 3 then 2 * i else 2 * i + 1
end Go.Proofs.Ytekhpcfggbegaaa.V7
