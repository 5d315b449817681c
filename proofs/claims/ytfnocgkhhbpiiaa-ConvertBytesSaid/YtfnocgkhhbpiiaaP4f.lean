/- Walks: the program's conversions: the raw readings that have a value, one after the other. -/
import Derived.RangeFuncNested
import Derived.RangeFuncBound
import Derived.RangeFuncCalls
import Derived.RangeFuncLeaves
import Derived.Shelf.Abstract
import Derived.Shelf.RegionOpen
import Derived.WalkKit
import Derived.OwnWalkIn
import Derived.TacticsInMore
import Derived.LoopNIn
import Derived.LoopIn
import Derived.Test.YtfnocgkhhbpiiaaP4e
namespace Go.Proofs.Ytfnocgkhhbpiiaa.P4
open Go.RowKit Go.Shelf Go.Proofs.Ytfnocgkhhbpiiaa.Mem Go.Proofs.Ytfnocgkhhbpiiaa.M3p Go.Proofs.Ytfnocgkhhbpiiaa.C4p Go.Proofs.Ytfnocgkhhbpiiaa.C4l Go.Proofs.Ytfnocgkhhbpiiaa.C4v
set_option maxRecDepth 100000
set_option maxHeartbeats 4000000
attribute [local go_sem] Oper.semAt_some

/-- The raw readings of the first n numbers that have a value, with it. -/
def vseq (c : Cv) : Nat → List (UInt8 × Int)
  | 0 => []
  | n + 1 => if (ord c n).2 = 0 then vseq c n ++ [(rawAt c n, (ord c n).1)] else vseq c n
theorem vseq_len (c : Cv) (n : Nat) : (vseq c n).length ≤ n := by
  induction n with
  | zero => exact Nat.le_refl _
  | succ n ih =>
    rw [vseq]
    split
    · rw [List.length_append]; simp; omega
    · omega
/-- What the iterator hands over; the clamp says that the value is within the limit. -/
abbrev encs (p : UInt8 × Int) : Array Value := #[.int .u8 (p.1.toNat : Int), .int .i64 (clp p.2)]
/-- A variable in a box of its own. -/
def Bx (W : World) (g : Nat) (v : Value) : Prop := W.cell? ⟨g, 0, none⟩ = some v ∧ W.frozen? ⟨g, 0, none⟩ = false
section
variable {W W' : World} {g : Nat} {v : Value}
theorem Bx.kept {row : Option Nat} (h : Bx W g v) (hg : W.grownBy W' row) (hr : ∀ r, row = some r → ∃ o : Obj, W.heap[r]? = some o ∧ o.isCells = false) : Bx W' g v := ⟨cell_kept h.1 hg hr, (frozen_kept h.1 hg hr).trans h.2⟩
theorem Bx.set (h : Bx W g v) (u : Value) : Bx (W.setCell ⟨g, 0, none⟩ u) g u := ⟨World.cell?_setCell_same' _ _ _ (by rw [h.1]; rfl), by rw [World.frozen?_setCell]; exact h.2⟩
theorem Bx.other (h : Bx W g v) {k : Nat} (u : Value) (hne : k ≠ g) : Bx (W.setCell ⟨k, 0, none⟩ u) g v :=
  ⟨(World.cell?_setCell_other W _ ⟨g, 0, none⟩ _ (fun e => by have := congrArg Addr.block e; simp at this; omega)).trans h.1, by rw [World.frozen?_setCell]; exact h.2⟩
theorem Bx.alloc (h : Bx W g v) (o : Obj) : Bx (W.alloc o) g v := h.kept (World.grownBy_alloc W o none) (fun r e => by cases e)
theorem Bx.row {t : TypeId} (h : W.heap[g]? = some (.cells #[v] t (0, 0))) : Bx W g v := ⟨by rw [cell_of_row W g 0 _ _ _ h]; rfl, frozen_of_row W g 0 _ _ h⟩
theorem Bx.new (W : World) (v : Value) (t : TypeId) : Bx (W.alloc (.cells #[v] t)) W.heap.size v := Bx.row (heap_alloc_new W _)
theorem Bx.lt (h : Bx W g v) : g < W.heap.size := by
  rcases Nat.lt_or_ge g W.heap.size with hlt | hge
  · exact hlt
  · have := h.1
    simp [World.cell?, Array.getElem?_eq_none hge] at this
end
theorem heap_other {W : World} {g k i : Nat} (u : Value) (h : k ≠ g) : (W.setCell ⟨k, i, none⟩ u).heap[g]? = W.heap[g]? := by
  simp [World.setCell, Array.getElem?_modify, h]
/-- What a round keeps: what lay ahead of the call, and the iterator's own box. -/
def Kp (n₀ Bc : Nat) (W W' : World) : Prop := Below n₀ W W' ∧ W'.heap[Bc]? = W.heap[Bc]?
theorem Kp.refl (n₀ Bc : Nat) (W : World) : Kp n₀ Bc W W := ⟨Below.refl _ _, rfl⟩
theorem Kp.trans {n₀ Bc : Nat} {A B C : World} (h : Kp n₀ Bc A B) (k : Kp n₀ Bc B C) : Kp n₀ Bc A C := ⟨h.1.trans k.1, k.2.trans h.2⟩
abbrev cvs (f m b k1 k2 : Int) (s : Bool) (A : Option Addr) (n cp : Nat) : Array Value := #[.int .i64 f, .bool s, .int .i64 m, .int .i64 b, .int .i64 k1, .int .i64 k2, .slice A n cp]
theorem raw_conv (L : Int) (i : Nat) : IntKind.u8.wrap (L + i) = ((rawOf (L + i)).toNat : Int) := by
  rw [raw_nat, IntKind.wrap_u8]
  omega
end Go.Proofs.Ytfnocgkhhbpiiaa.P4
