/- Lists of events: words, loads, appends. -/
import Derived.Test.YtekhpcfggbegaaaV7a
import Derived.Deep.MidRow
namespace Go.Proofs.Ytekhpcfggbegaaa.V9
open Go.RowKit Go.Proofs.Ytekhpcfggbegaaa.Mem Go.Proofs.Ytekhpcfggbegaaa.V7
set_option maxRecDepth 100000
set_option maxHeartbeats 1000000

theorem add_next (p : Addr) (k : Nat) : p.add (k + 1) = ⟨p.block, p.off + (k + 1), none⟩ := rfl
def evs : List Ev → List Value
  | [] => []
  | e :: l => e.cells.toList ++ evs l
theorem cells_len (e : Ev) : e.cells.toList.length = 10 := rfl
theorem evs_len (l : List Ev) : (evs l).length = l.length * 10 := by
  induction l with
  | nil => rfl
  | cons x l ih => simp only [evs, List.length_append, List.length_cons, ih, cells_len]; omega
theorem evs_app (a b : List Ev) : evs (a ++ b) = evs a ++ evs b := by
  induction a with
  | nil => rfl
  | cons x a ih => simp only [List.cons_append, evs, ih, List.append_assoc]
theorem evs_one (l : List Ev) : ∀ u ∈ evs l, u.oneCell' = true := by
  induction l with
  | nil => intro u hu; cases hu
  | cons x l ih =>
    intro u hu
    simp only [evs, List.mem_append] at hu
    rcases hu with hu | hu
    · have := one_cells x
      rw [Array.all_eq_true_iff_forall_mem] at this
      exact this u (by simpa using hu)
    · exact ih u hu
theorem evs_get : ∀ (l : List Ev) (k : Nat) (h : k < l.length) (j : Nat), j < 10 → (evs l)[k * 10 + j]? = l[k].cells.toList[j]?
  | x :: l, 0, _, j, hj => by
    simp only [evs, Nat.zero_mul, Nat.zero_add, List.getElem_cons_zero]
    rw [List.getElem?_append_left (by rw [cells_len]; exact hj)]
  | x :: l, k + 1, h, j, hj => by
    have := evs_get l k (by simpa using h) j hj
    simp only [evs, List.getElem_cons_succ]
    rw [List.getElem?_append_right (by rw [cells_len]; omega), cells_len, ← this]
    congr 1; omega
abbrev ERow (B : Nat) (w : World) (A : Option Addr) (l : List Ev) : Prop := Rd B w A (evs l)
/-- An event that lies at an address. -/
def EvAt (w : World) (p : Addr) (e : Ev) : Prop := ∀ j v, e.cells.toList[j]? = some v → w.cell? (p.add j) = some v
theorem erow_at {B : Nat} {w : World} {A : Option Addr} {l : List Ev} (h : ERow B w A l) {k : Nat} (hk : k < l.length) :
    ∃ a, A = some a ∧ a.block < B ∧ EvAt w (a.add (k * 10)) l[k] := by
  obtain ⟨a, e, hb, hc⟩ := h (by rw [evs_len]; omega)
  refine ⟨a, e, hb, fun j v hv => ?_⟩
  have hj : j < 10 := by have := (List.getElem?_eq_some_iff.1 hv).1; rw [cells_len] at this; exact this
  have h0 := hc (k * 10 + j) (by rw [evs_len]; omega)
  rw [add_add, h0, ← hv, ← evs_get l k hk j hj, List.getElem?_eq_getElem (by rw [evs_len]; omega)]
section
variable {w w' : World} {p : Addr} {e : Ev} (h : EvAt w p e)
include h
theorem EvAt.below {B : Nat} (hb : Below B w w') (hp : p.block < B) : EvAt w' p e := fun j v hv => (hb.cell (by rw [add_block]; exact hp)).trans (h j v hv)
theorem EvAt.c0 : w.cell? p = some (.int .u16 (e.id : Int)) := by have := h 0 _ rfl; rwa [show p.add 0 = p from rfl] at this
theorem EvAt.c1 : w.cell? ⟨p.block, p.off + 1, none⟩ = some (.int .u32 (e.time : Int)) := h 1 _ rfl
theorem EvAt.c2 : w.cell? ⟨p.block, p.off + 2, none⟩ = some (.int .u16 (e.gen : Int)) := h 2 _ rfl
theorem EvAt.c3 : w.cell? ⟨p.block, p.off + 3, none⟩ = some (.int .u8 (e.st : Int)) := h 3 _ rfl
theorem EvAt.c4 : w.cell? ⟨p.block, p.off + 4, none⟩ = some (.int .u8 (e.sn : Int)) := h 4 _ rfl
theorem EvAt.c5 : w.cell? ⟨p.block, p.off + 5, none⟩ = some (.int .u8 (e.ty : Int)) := h 5 _ rfl
theorem EvAt.c6 : w.cell? ⟨p.block, p.off + 6, none⟩ = some (.bool e.de) := h 6 _ rfl
theorem EvAt.c7 : w.cell? ⟨p.block, p.off + 7, none⟩ = some (.int .u8 (e.d0 : Int)) := h 7 _ rfl
theorem EvAt.c8 : w.cell? ⟨p.block, p.off + 8, none⟩ = some (.int .u8 (e.d1 : Int)) := h 8 _ rfl
theorem EvAt.c9 : w.cell? ⟨p.block, p.off + 9, none⟩ = some (.int .u8 (e.d2 : Int)) := h 9 _ rfl
end
theorem box_at {w : World} {r : Nat} {e : Ev} (h : Box w r e) : EvAt w ⟨r, 0, none⟩ e := fun j v hv => by
  rw [add_spot]
  exact (h.c j).trans (by rw [← Array.getElem?_toList]; exact hv)
/-- A struct is read out of a slice. -/
theorem run_loadVar_at (w : World) (p : Addr) (e : Ev) (hc : EvAt w p e) : (loadVar 89 p).run Try.prog w = .ok e.v w := by
  have hl : (loadCells p 10).run Try.prog w = .ok e.cells w :=
    run_loadCells_list (P := Try.prog) w p e.cells.toList hc
  have hi : (Try.prog.info? 89).map (·.size) = some 10 := by kernel_rfl
  cases hq : Try.prog.info? 89 with
  | none => simp [hq] at hi
  | some i =>
    have hs : i.size = 10 := by simpa [hq] using hi
    have hagg : (isAgg 89).run Try.prog w = .ok true w := by
      unfold isAgg
      rw [Sem.run_bind, run_underlying Try.underlying89 w]
      rfl
    simp [loadVar, Sem.run_bind, hagg, sizeOf, typeInfo, hq, hs, hl, Ev.v]
theorem wpList_load_ev {ops : Array Oper} {rest : List Oper} {op : Oper} {a : Act} {w : World} {Q : Exit → Act → World → Prop} (hgd : op.guard = none) (x : Operand) (ho : op.op = .load 89 x)
    (p : Addr) (e : Ev) (hx : a.eval x = .pointer (some p)) (hc : EvAt w p e)
    (h : wpList Try.prog ops Q rest (a.put op.dst e.v) w) : wpList Try.prog ops Q (op :: rest) a w :=
  wpList_plain hgd fun K hK => by
    unfold Oper.wp execOp
    simp only [ho, hx, Instr.loadAt, Instr.sureAddr, Sem.run_bind, Sem.run_pure, Result.andThen_ok, run_loadVar_at w p e hc]
    exact hK _ _ h
/-- A slice of events that is read. -/
structure ESl (w : World) (A : Option Addr) (n c : Nat) (l : List Ev) : Prop where
  len : n = l.length
  row : ERow w.heap.size w A l
  cap : n ≤ c
  max : c ≤ maxLen
  nil : A = none → c = 0
theorem ESl.step {w w' : World} {A : Option Addr} {n c : Nat} {l : List Ev} (h : ESl w A n c l) (hb : Below w.heap.size w w') : ESl w' A n c l := ⟨h.len, (h.row.below hb).more hb.size, h.cap, h.max, h.nil⟩
theorem ESl.none {w : World} : ESl w none 0 0 [] := ⟨rfl, Rd.nil, Nat.le_refl _, by unfold maxLen; omega, fun _ => rfl⟩
/-- A slice of events of the call's own. -/
def EOwn (base : Nat) (w : World) (v : Value) (l : List Ev) : Prop := w.ownsRow base 89 10 v l.length (evs l)
theorem EOwn.nil {base : Nat} {w : World} : EOwn base w (.slice .none 0 0) [] := ⟨by simp [evs], .inl ⟨rfl, by simp⟩⟩
theorem EOwn.sl {base : Nat} {w : World} {v : Value} {l : List Ev} (h : EOwn base w v l) : ∃ A n c, v = .slice A n c ∧ ESl w A n c l := by
  rcases h.2 with ⟨rfl, h0⟩ | ⟨g, cap, cur, rfl, hg, hh, h1, h2, _⟩
  · obtain rfl : l = [] := List.length_eq_zero_iff.1 h0
    exact ⟨_, _, _, rfl, ESl.none⟩
  · refine ⟨_, _, _, rfl, rfl, fun hl => ?_, h1, h2, fun e => by cases e⟩
    have hlt : g < w.heap.size := by
      rcases Nat.lt_or_ge g w.heap.size with h3 | h3
      · exact h3
      · rw [Array.getElem?_eq_none h3] at hh; cases hh
    exact ⟨_, rfl, hlt, fun k hk => World.ownsRow.cells h (g := g) rfl k _ (List.getElem?_eq_getElem hk)⟩
theorem infoE : (Try.prog.info? 89).map (fun i => (i.zero, i.size, i.bytes)) = some (some Ev.none.v, 10, 20) := by kernel_rfl
/-- Events that lie in a row at an address. -/
def EvsAt (w : World) (p : Addr) (l : List Ev) : Prop := ∀ j v, (evs l)[j]? = some v → w.cell? (p.add j) = some v
theorem EvAt.one {w : World} {p : Addr} {e : Ev} (h : EvAt w p e) : EvsAt w p [e] := fun j v hv => h j v (by simpa [evs] using hv)
theorem run_append_e (w : World) (base : Nat) (ty : TypeId) (v : Value) (l : List Ev) (hown : EOwn base w v l) (m : List Ev) (p : Addr) (n c : Nat) (hn : n = m.length) (hm : EvsAt w p m)
    (hl : l.length + m.length ≤ 1000) (hbase : base ≤ w.heap.size) :
    ∃ v' w', (Builtin.append_ #[81, 81] ty #[v, .slice (some p) n c]).run Try.prog w = .ok v' w' ∧ EOwn base w' v' (l ++ m) ∧ w.grownBy w' v.ownBlock := by
  obtain ⟨i, hi, hz0, hz1, hz2⟩ := info_parts infoE
  obtain ⟨v', w', hrun, h2, h3, _, _⟩ := run_append_own_at (P := Try.prog) w base 81 ty 89 i _ 10 20 Try.underlying81 hi hz0 hz1 hz2 rfl (by omega) v l.length (evs l) hown p n c (evs m) (by rw [evs_len, hn]) hm
    (evs_one m) (by unfold maxLen; omega) (by omega) hbase
  refine ⟨v', w', hrun, ?_, h3⟩
  unfold EOwn
  rw [evs_app, List.length_append, ← hn]
  exact h2
theorem wpList_append_e {ops : Array Oper} {rest : List Oper} {o : Oper} {a : Act} {Q : Exit → Act → World → Prop} (w : World) (hgd : o.guard = none) (s x : Operand)
    (ho : o.op = .call { callee := .builtin .append, args := #[s, x], argTypes := #[81, 81] })
    (base : Nat) (v : Value) (l : List Ev) (hs : a.eval s = v) (hown : EOwn base w v l) (m : List Ev) (p : Addr) (n c : Nat) (hx : a.eval x = .slice (some p) n c) (hn : n = m.length) (hm : EvsAt w p m)
    (hl : l.length + m.length ≤ 1000) (hbase : base ≤ w.heap.size)
    (h : ∀ v' w', EOwn base w' v' (l ++ m) → w.grownBy w' v.ownBlock → wpList Try.prog ops Q rest (a.put o.dst v') w') : wpList Try.prog ops Q (o :: rest) a w := by
  refine wpList_plain hgd fun K hK => ?_
  obtain ⟨v', w', hrun, h2, h3⟩ := run_append_e w base o.type v l hown m p n c hn hm hl hbase
  unfold Oper.wp execOp
  simp only [ho, resolve, invoke, builtin, Sem.run_bind, Sem.run_pure, Result.andThen_ok, List.map_toArray, List.map_cons, List.map_nil, hs, hx, hrun]
  exact hK _ _ (h v' w' h2 h3)
/-- A slice's events, at its address. -/
theorem ESl.at_ {w : World} {A : Option Addr} {n c : Nat} {l : List Ev} (h : ESl w A n c l) (hp : 0 < l.length) : ∃ a, A = some a ∧ a.block < w.heap.size ∧ EvsAt w a l := by
  obtain ⟨a, e, hb, hc⟩ := h.row (by rw [evs_len]; omega)
  exact ⟨a, e, hb, fun j v hv => by
    have hj := (List.getElem?_eq_some_iff.1 hv).1
    rw [hc j hj, ← hv, List.getElem?_eq_getElem hj]⟩
/-- An act: a time that is set, or ticks that pass. -/
structure Act1 where
  (s : Bool) (k : Int) (tm : Nat)
def Act1.cells (q : Act1) : List Value := [.bool q.s, .int .i64 q.k, .int .u32 (q.tm : Int)]
structure Act1.Fit (q : Act1) : Prop where
  k : -9223372036854775808 ≤ q.k ∧ q.k ≤ 9223372036854775807
  tm : q.tm < 4294967296
structure ASl (w : World) (A : Option Addr) (n c : Nat) (l : List Act1) : Prop where
  len : n = l.length
  row : Rd w.heap.size w A (l.flatMap Act1.cells)
  cap : n ≤ c
  max : c ≤ maxLen
  nil : A = none → c = 0
theorem ASl.step {w w' : World} {A : Option Addr} {n c : Nat} {l : List Act1} (h : ASl w A n c l) (hb : Below w.heap.size w w') : ASl w' A n c l := ⟨h.len, (h.row.below hb).more hb.size, h.cap, h.max, h.nil⟩
end Go.Proofs.Ytekhpcfggbegaaa.V9
