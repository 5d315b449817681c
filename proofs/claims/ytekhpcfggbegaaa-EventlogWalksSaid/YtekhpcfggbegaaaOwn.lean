/- Words for slices that are read, and rows of the call's own: more. -/
import Derived.Test.YtekhpcfggbegaaaMem
import Derived.Deep.DeepCutAuto
import Derived.Deep.RegionHeld3
import Derived.Deep.RegionLaw
namespace Go.Proofs.Ytekhpcfggbegaaa.Mem
open Go.RowKit
set_option maxRecDepth 100000

theorem info5 : (Try.prog.info? 5).map (fun i => (i.zero, i.size, i.bytes)) = some (some (.int .u8 0), 1, 1) := by kernel_rfl
/-- In world w the slice value '.slice A n c' reads as the bytes l. -/
structure Sl (w : World) (A : Option Addr) (n c : Nat) (l : List UInt8) : Prop where
  len : n = l.length
  row : Row w.heap.size w A l
  cap : n ≤ c
  max : c ≤ maxLen
  nil : A = none → c = 0
section
variable {w w' : World} {A : Option Addr} {n c : Nat} {l : List UInt8}
theorem Sl.step (h : Sl w A n c l) (hb : Below w.heap.size w w') : Sl w' A n c l := ⟨h.len, (h.row.below hb).more hb.size, h.cap, h.max, h.nil⟩
theorem Sl.of_own {base : Nat} {v : Value} (h : Own base w v l) : ∃ A n c, v = .slice A n c ∧ Sl w A n c l := by
  obtain ⟨A, c, h1, h2, h3, h4, h5⟩ := h.form
  exact ⟨A, l.length, c, h1, rfl, h4, h2, h3, h5⟩
theorem lite (h : Sl w A n c l) : n ≤ maxLen := Nat.le_trans h.cap h.max
end
/-- What a call that makes a new slice of bytes leaves. -/
def Made (w : World) (l : List UInt8) (e : Ending) (w' : World) : Prop := ∃ A n c, e = .returned (.slice A n c) ∧ Own w.heap.size w' (.slice A n c) l ∧ Sl w' A n c l ∧ Below w.heap.size w w'
theorem Made.of {w : World} {l : List UInt8} {e : Ending} {w' : World} (h : ∃ v, e = .returned v ∧ Own w.heap.size w' v l ∧ Below w.heap.size w w') : Made w l e w' := by
  obtain ⟨v, rfl, ho, hb⟩ := h
  obtain ⟨A, n, c, rfl, hs⟩ := Sl.of_own ho
  exact ⟨A, n, c, rfl, ho, hs, hb⟩
theorem own_some {base n c : Nat} {A : Option Addr} {w : World} {l : List UInt8} (h : Own base w (.slice A n c) l) (hl : 0 < l.length) : ∃ g, A = some ⟨g, 0, none⟩ ∧ base ≤ g ∧ g < w.heap.size := by
  have hlt := World.ownsRow.lt h
  rcases h.2 with ⟨_, h0⟩ | ⟨g, cap, cur, hv, hb, _⟩
  · omega
  · injection hv with hv
    subst hv
    exact ⟨g, rfl, (hlt g rfl).1, (hlt g rfl).2⟩
/-- An owned slice that is read, behind a store of the call's own. -/
theorem sl_own {base n c : Nat} {A : Option Addr} {w : World} {l : List UInt8} (h : Own base w (.slice A n c) l) (hn : n = l.length) : Sl w A n c l := by
  obtain ⟨A', c', hv, h1, h2, h3, h4⟩ := h.form
  injection hv with e1 e2 e3
  subst e1 e3
  subst hn
  exact ⟨rfl, h3, h1, h2, h4⟩
section
variable {base g n c i : Nat} {w : World} {l : List UInt8} (h : Own base w (.slice (some ⟨g, 0, none⟩) n c) l) (hn : n = l.length)
include h hn
theorem own_cell (hi : i < l.length) : w.cell? ⟨g, i, none⟩ = some (.int .u8 (l[i].toNat : Int)) := by
  subst hn
  rw [World.ownsRow.cellAt h i (by omega)]
  simp [bvs, bv, List.getElem?_eq_getElem hi]
theorem own_frozen (i : Nat) : w.frozen? ⟨g, i, none⟩ = false := by
  subst hn
  exact World.ownsRow.frozenAt h i
theorem own_store (i : Nat) (x : UInt8) : Own base (w.setCell ⟨g, i, none⟩ (bv x)) (.slice (some ⟨g, 0, none⟩) n c) (l.set i x) ∧ w.grownBy (w.setCell ⟨g, i, none⟩ (bv x)) (some g) := by
  subst hn
  have hst := World.ownsRow.stored h i (bv x)
  refine ⟨own_of hst.1 (by simp) ?_, hst.2⟩
  unfold bvs
  rw [List.map_set]
end
theorem bv_xor (x : UInt8) (m : Nat) (hm : m < 256) : Value.int .u8 (bits .xor .u8 (x.toNat : Int) (m : Int)) = bv (x ^^^ UInt8.ofNat m) := by
  rw [u8_xor_nat _ _ x.toNat_lt hm]
  unfold bv
  rw [UInt8.toNat_xor, UInt8.toNat_ofNat', Nat.mod_eq_of_lt hm]
theorem own_far {base g g' n c : Nat} {w w' : World} {l : List UInt8} (h : Own base w (.slice (some ⟨g, 0, none⟩) n c) l) (hg : w.grownBy w' (some g')) (hne : g ≠ g') : Own base w' (.slice (some ⟨g, 0, none⟩) n c) l :=
  World.ownsRow.kept h hg (.inr (by simp [Value.ownBlock]; exact hne))
/-! A row of bools of the call's own. -/
def BOwn (base : Nat) (w : World) (v : Value) (l : List Bool) : Prop := w.ownsRow base 4 1 v l.length (l.map Value.bool)
section
variable {base g n c i : Nat} {w : World} {l : List Bool} (h : BOwn base w (.slice (some ⟨g, 0, none⟩) n c) l) (hn : n = l.length)
include h hn
theorem bown_cell (hi : i < l.length) : w.cell? ⟨g, i, none⟩ = some (.bool l[i]) := by
  subst hn
  rw [World.ownsRow.cellAt h i (by omega)]
  simp [List.getElem?_eq_getElem hi]
theorem bown_frozen (i : Nat) : w.frozen? ⟨g, i, none⟩ = false := by
  subst hn
  exact World.ownsRow.frozenAt h i
theorem bown_store (i : Nat) (x : Bool) : BOwn base (w.setCell ⟨g, i, none⟩ (.bool x)) (.slice (some ⟨g, 0, none⟩) n c) (l.set i x) ∧ w.grownBy (w.setCell ⟨g, i, none⟩ (.bool x)) (some g) := by
  subst hn
  have hst := World.ownsRow.stored h i (.bool x)
  refine ⟨?_, hst.2⟩
  have := hst.1
  unfold BOwn
  rwa [List.length_set, List.map_set]
end
theorem bown_far {base g g' n c : Nat} {w w' : World} {l : List Bool} (h : BOwn base w (.slice (some ⟨g, 0, none⟩) n c) l) (hg : w.grownBy w' (some g')) (hne : g ≠ g') : BOwn base w' (.slice (some ⟨g, 0, none⟩) n c) l :=
  World.ownsRow.kept h hg (.inr (by simp [Value.ownBlock]; exact hne))
theorem info_bool : (Try.prog.info? 4).map (fun i => (i.zero, i.size, i.bytes)) = some (some (.bool false), 1, 1) := by kernel_rfl
theorem bown_made {base n : Nat} {w' : World} {v : Value} (h : w'.ownsRow base 4 1 v n (madeCells (Value.bool false).cells (n * 1)).toList) : BOwn base w' v (List.replicate n false) := by
  unfold BOwn
  rw [List.length_replicate, List.map_replicate]
  have e : (madeCells (Value.bool false).cells (n * 1)).toList = List.replicate n (Value.bool false) := by
    rw [Nat.mul_one]; exact toList_madeCells_one _ _
  rwa [e] at h
section
variable {w w' : World}
theorem set_grown (w : World) (g i : Nat) (u : Value) : w.grownBy (w.setCell ⟨g, i, none⟩ u) (some g) :=
  ⟨rfl, rfl, rfl, by simp, fun k _ hk => heap_setCell_other w ⟨g, i, none⟩ k u (fun e => hk (by simp [e]))⟩
theorem grown_drewN {r : Option Nat} (h : w.grownBy w' r) (k : Nat) : w.grownBy (w'.drewN k) r := ⟨h.os, h.tape, h.output, h.size, h.block⟩
theorem grown_trans {w'' : World} {r : Option Nat} (h : w.grownBy w' r) (k : w'.grownBy w'' r) : w.grownBy w'' r :=
  ⟨k.os.trans h.os, k.tape.trans h.tape, k.output.trans h.output, Nat.le_trans h.size k.size, fun i hi hne => (k.block i (Nat.lt_of_lt_of_le hi h.size) hne).trans (h.block i hi hne)⟩
end
theorem grown_drew {w w' : World} {r : Option Nat} (h : w.grownBy w' r) : w.grownBy w'.drew r := ⟨h.os, h.tape, h.output, h.size, h.block⟩
theorem quiet_more {P : Program} {f : FuncId} {args : Array Value} {w : World} {b n : Nat} {v : Value}
    (h : Calls P f args (w.drewN (b + n)) fun e w' => e = .returned v ∧ w.drewN (b + n) = w') : Calls P f args (w.drewN (b + n)) fun e w'' => e = .returned v ∧ ∃ m, w'' = w.drewN (b + m) :=
  h.mono fun _ _ ⟨he, hm⟩ => ⟨he, n, hm.symm⟩
/-- The append of Mem.wpList_append_rd, as one step of a region that draws. -/
theorem step_append_rd {P : Program} (w : World) {ops : Array Oper} {o : Oper} {a : Act} {K : Act → World → Prop} {Q : Exit → Act → World → Prop} {E : Prop} (hgd : o.guard = none) (s x : Operand) (t : TypeId)
    (ho : o.op = .call { callee := .builtin .append, args := #[s, x], argTypes := #[t, t] })
    (base : Nat) (e : TypeId) (i : TypeInfo) (z : Value) (bytes : Nat) (ht : P.underlying t = some (.slice e)) (hi : P.info? e = some i) (hz : i.zero = some z)
    (hsize : i.size = 1) (hby : i.bytes = bytes) (hzs : z.cells.size = 1)
    (v : Value) (n : Nat) (xs : List Value) (hs : a.eval s = v) (hown : w.ownsRow base e 1 v n xs) (B : Nat) (A : Option Addr) (m c : Nat) (news : List Value) (hx : a.eval x = .slice A m c)
    (hm : news.length = m) (hr : Rd B w A news) (hA : A = none → c = 0)
    (h1 : ∀ u ∈ news, u.oneCell' = true) (h63 : n + m ≤ maxLen) (hbytes : (n + m) * bytes ≤ 140737488355328) (hbase : base ≤ w.heap.size)
    (h : ∀ v' w', w'.ownsRow base e 1 v' (n + m) (xs ++ news) → w.grownBy w' v.ownBlock → K (a.put o.dst v') w') :
    if Region.wanted o (yielded ops a.tmps) = true then Oper.wp P o a w K Q else E := by
  have hw : Region.wanted o (yielded ops a.tmps) = true := by simp [Region.wanted, hgd]
  rw [if_pos hw]
  obtain ⟨v', w', hrun, h2, h3, _⟩ := run_append_rd (P := P) w base t o.type e i z bytes ht hi hz hsize hby hzs v n xs hown B A m c news hm hr hA h1 h63 hbytes hbase
  unfold Oper.wp execOp
  simp only [ho, resolve, invoke, builtin, Sem.run_bind, Sem.run_pure, Result.andThen_ok, List.map_toArray, List.map_cons, List.map_nil, hs, hx, hrun]
  exact h v' w' h2 h3
end Go.Proofs.Ytekhpcfggbegaaa.Mem
