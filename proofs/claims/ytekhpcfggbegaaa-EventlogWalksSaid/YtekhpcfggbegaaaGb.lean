/- Lists of the log's records: words, loads, appends. -/
import Derived.Test.YtekhpcfggbegaaaGa
import Derived.Test.YtekhpcfggbegaaaV9e
namespace Go.Proofs.Ytekhpcfggbegaaa.G9
open Go.RowKit Go.Proofs.Ytekhpcfggbegaaa.Mem Go.Proofs.Ytekhpcfggbegaaa.V7 Go.Proofs.Ytekhpcfggbegaaa.V9
set_option maxRecDepth 100000
set_option maxHeartbeats 1000000

def Rc.cells (r : Rc) : Array Value := #[.int .i64 (r.q : Int), .int .u16 (r.e.id : Int), .int .u32 (r.e.time : Int), .int .u16 (r.e.gen : Int), .int .u8 (r.e.st : Int), .int .u8 (r.e.sn : Int), .int .u8 (r.e.ty : Int), .bool r.e.de, .int .u8 (r.e.d0 : Int), .int .u8 (r.e.d1 : Int), .int .u8 (r.e.d2 : Int)]
def Rc.v (r : Rc) : Value := .agg r.cells
def Rc.none : Rc := ⟨0, Ev.none⟩
theorem Rc.cells_ev (r : Rc) (j : Nat) : r.cells.toList[j + 1]? = r.e.cells.toList[j]? := rfl
def rcs : List Rc → List Value
  | [] => []
  | r :: l => r.cells.toList ++ rcs l
theorem rc_len (e : Rc) : e.cells.toList.length = 11 := rfl
theorem rcs_len (l : List Rc) : (rcs l).length = l.length * 11 := by
  induction l with
  | nil => rfl
  | cons x l ih => simp only [rcs, List.length_append, List.length_cons, ih, rc_len]; omega
theorem rcs_app (a b : List Rc) : rcs (a ++ b) = rcs a ++ rcs b := by
  induction a with
  | nil => rfl
  | cons x a ih => simp only [List.cons_append, rcs, ih, List.append_assoc]
theorem rc_one (e : Rc) : e.cells.all (·.oneCell') = true := by
  simp [Rc.cells, Value.oneCell']
theorem rcs_one (l : List Rc) : ∀ u ∈ rcs l, u.oneCell' = true := by
  induction l with
  | nil => intro u hu; cases hu
  | cons x l ih =>
    intro u hu
    simp only [rcs, List.mem_append] at hu
    rcases hu with hu | hu
    · have := rc_one x
      rw [Array.all_eq_true_iff_forall_mem] at this
      exact this u (by simpa using hu)
    · exact ih u hu
theorem rcs_get : ∀ (l : List Rc) (k : Nat) (h : k < l.length) (j : Nat), j < 11 → (rcs l)[k * 11 + j]? = l[k].cells.toList[j]?
  | x :: l, 0, _, j, hj => by
    simp only [rcs, Nat.zero_mul, Nat.zero_add, List.getElem_cons_zero]
    rw [List.getElem?_append_left (by rw [rc_len]; exact hj)]
  | x :: l, k + 1, h, j, hj => by
    have := rcs_get l k (by simpa using h) j hj
    simp only [rcs, List.getElem_cons_succ]
    rw [List.getElem?_append_right (by rw [rc_len]; omega), rc_len, ← this]
    congr 1; omega
abbrev RRow (B : Nat) (w : World) (A : Option Addr) (l : List Rc) : Prop := Rd B w A (rcs l)
/-- A record that lies at an address. -/
def RcAt (w : World) (p : Addr) (e : Rc) : Prop := ∀ j v, e.cells.toList[j]? = some v → w.cell? (p.add j) = some v
theorem rrow_at {B : Nat} {w : World} {A : Option Addr} {l : List Rc} (h : RRow B w A l) {k : Nat} (hk : k < l.length) :
    ∃ a, A = some a ∧ a.block < B ∧ RcAt w (a.add (k * 11)) l[k] := by
  obtain ⟨a, e, hb, hc⟩ := h (by rw [rcs_len]; omega)
  refine ⟨a, e, hb, fun j v hv => ?_⟩
  have hj : j < 11 := by have := (List.getElem?_eq_some_iff.1 hv).1; rw [rc_len] at this; exact this
  have h0 := hc (k * 11 + j) (by rw [rcs_len]; omega)
  rw [add_add, h0, ← hv, ← rcs_get l k hk j hj, List.getElem?_eq_getElem (by rw [rcs_len]; omega)]
/-- The event of a record that lies at an address. -/
theorem RcAt.ev {w : World} {p : Addr} {r : Rc} (h : RcAt w p r) : EvAt w (p.add 1) r.e := fun j v hv => by
  rw [add_add]
  exact h (1 + j) v (by rw [Nat.add_comm, r.cells_ev]; exact hv)
theorem RcAt.q {w : World} {p : Addr} {r : Rc} (h : RcAt w p r) : w.cell? p = some (.int .i64 (r.q : Int)) := by have := h 0 _ rfl; rwa [show p.add 0 = p from rfl] at this
theorem RcAt.below {w w' : World} {p : Addr} {e : Rc} (h : RcAt w p e) {B : Nat} (hb : Below B w w') (hp : p.block < B) : RcAt w' p e := fun j v hv => (hb.cell (by rw [add_block]; exact hp)).trans (h j v hv)
/-- A record is read out of a slice. -/
theorem run_loadVar_rc (w : World) (p : Addr) (e : Rc) (hc : RcAt w p e) : (loadVar 133 p).run Try.prog w = .ok e.v w := by
  have hl : (loadCells p 11).run Try.prog w = .ok e.cells w :=
    run_loadCells_list (P := Try.prog) w p e.cells.toList hc
  have hi : (Try.prog.info? 133).map (·.size) = some 11 := by kernel_rfl
  cases hq : Try.prog.info? 133 with
  | none => simp [hq] at hi
  | some i =>
    have hs : i.size = 11 := by simpa [hq] using hi
    have hagg : (isAgg 133).run Try.prog w = .ok true w := by
      unfold isAgg
      rw [Sem.run_bind, run_underlying Try.underlying133 w]
      rfl
    simp [loadVar, Sem.run_bind, hagg, sizeOf, typeInfo, hq, hs, hl, Rc.v]
theorem wpList_load_rc {ops : Array Oper} {rest : List Oper} {op : Oper} {a : Act} {w : World} {Q : Exit → Act → World → Prop} (hgd : op.guard = none) (x : Operand) (ho : op.op = .load 133 x)
    (p : Addr) (e : Rc) (hx : a.eval x = .pointer (some p)) (hc : RcAt w p e)
    (h : wpList Try.prog ops Q rest (a.put op.dst e.v) w) : wpList Try.prog ops Q (op :: rest) a w :=
  wpList_plain hgd fun K hK => by
    unfold Oper.wp execOp
    simp only [ho, hx, Instr.loadAt, Instr.sureAddr, Sem.run_bind, Sem.run_pure, Result.andThen_ok, run_loadVar_rc w p e hc]
    exact hK _ _ h
/-- A slice of records that is read. -/
structure RSl (w : World) (A : Option Addr) (n c : Nat) (l : List Rc) : Prop where
  len : n = l.length
  row : RRow w.heap.size w A l
  cap : n ≤ c
  max : c ≤ maxLen
  nil : A = none → c = 0
theorem RSl.step {w w' : World} {A : Option Addr} {n c : Nat} {l : List Rc} (h : RSl w A n c l) (hb : Below w.heap.size w w') : RSl w' A n c l := ⟨h.len, (h.row.below hb).more hb.size, h.cap, h.max, h.nil⟩
theorem RSl.none {w : World} : RSl w none 0 0 [] := ⟨rfl, Rd.nil, Nat.le_refl _, by unfold maxLen; omega, fun _ => rfl⟩
/-- A slice of records of the call's own. -/
def ROwn (base : Nat) (w : World) (v : Value) (l : List Rc) : Prop := w.ownsRow base 133 11 v l.length (rcs l)
theorem ROwn.nil {base : Nat} {w : World} : ROwn base w (.slice .none 0 0) [] := ⟨by simp [rcs], .inl ⟨rfl, by simp⟩⟩
theorem ROwn.sl {base : Nat} {w : World} {v : Value} {l : List Rc} (h : ROwn base w v l) : ∃ A n c, v = .slice A n c ∧ RSl w A n c l := by
  rcases h.2 with ⟨rfl, h0⟩ | ⟨g, cap, cur, rfl, hg, hh, h1, h2, _⟩
  · obtain rfl : l = [] := List.length_eq_zero_iff.1 h0
    exact ⟨_, _, _, rfl, RSl.none⟩
  · refine ⟨_, _, _, rfl, rfl, fun hl => ?_, h1, h2, fun e => by cases e⟩
    have hlt : g < w.heap.size := by
      rcases Nat.lt_or_ge g w.heap.size with h3 | h3
      · exact h3
      · rw [Array.getElem?_eq_none h3] at hh; cases hh
    exact ⟨_, rfl, hlt, fun k hk => World.ownsRow.cells h (g := g) rfl k _ (List.getElem?_eq_getElem hk)⟩
theorem infoR : (Try.prog.info? 133).map (fun i => (i.zero, i.size, i.bytes)) = some (some Rc.none.v, 11, 32) := by kernel_rfl
/-- Records that lie in a row at an address. -/
def RcsAt (w : World) (p : Addr) (l : List Rc) : Prop := ∀ j v, (rcs l)[j]? = some v → w.cell? (p.add j) = some v
theorem RcAt.one {w : World} {p : Addr} {e : Rc} (h : RcAt w p e) : RcsAt w p [e] := fun j v hv => h j v (by simpa [rcs] using hv)
theorem run_append_r (w : World) (base : Nat) (ty : TypeId) (v : Value) (l : List Rc) (hown : ROwn base w v l) (m : List Rc) (p : Addr) (n c : Nat) (hn : n = m.length) (hm : RcsAt w p m)
    (hl : l.length + m.length ≤ 1000) (hbase : base ≤ w.heap.size) :
    ∃ v' w', (Builtin.append_ #[128, 128] ty #[v, .slice (some p) n c]).run Try.prog w = .ok v' w' ∧ ROwn base w' v' (l ++ m) ∧ w.grownBy w' v.ownBlock ∧ (v'.ownBlock = v.ownBlock ∨ v'.ownBlock = some w.heap.size) := by
  obtain ⟨i, hi, hz0, hz1, hz2⟩ := info_parts infoR
  obtain ⟨v', w', hrun, h2, h3, _, h4⟩ := run_append_own_at (P := Try.prog) w base 128 ty 133 i _ 11 32 Try.underlying128 hi hz0 hz1 hz2 rfl (by omega) v l.length (rcs l) hown p n c (rcs m) (by rw [rcs_len, hn]) hm
    (rcs_one m) (by unfold maxLen; omega) (by omega) hbase
  refine ⟨v', w', hrun, ?_, h3, h4⟩
  unfold ROwn
  rw [rcs_app, List.length_append, ← hn]
  exact h2
theorem wpList_append_r {ops : Array Oper} {rest : List Oper} {o : Oper} {a : Act} {Q : Exit → Act → World → Prop} (w : World) (hgd : o.guard = none) (s x : Operand)
    (ho : o.op = .call { callee := .builtin .append, args := #[s, x], argTypes := #[128, 128] })
    (base : Nat) (v : Value) (l : List Rc) (hs : a.eval s = v) (hown : ROwn base w v l) (m : List Rc) (p : Addr) (n c : Nat) (hx : a.eval x = .slice (some p) n c) (hn : n = m.length) (hm : RcsAt w p m)
    (hl : l.length + m.length ≤ 1000) (hbase : base ≤ w.heap.size)
    (h : ∀ v' w', ROwn base w' v' (l ++ m) → w.grownBy w' v.ownBlock → (v'.ownBlock = v.ownBlock ∨ v'.ownBlock = some w.heap.size) → wpList Try.prog ops Q rest (a.put o.dst v') w') : wpList Try.prog ops Q (o :: rest) a w := by
  refine wpList_plain hgd fun K hK => ?_
  obtain ⟨v', w', hrun, h2, h3, h4⟩ := run_append_r w base o.type v l hown m p n c hn hm hl hbase
  unfold Oper.wp execOp
  simp only [ho, resolve, invoke, builtin, Sem.run_bind, Sem.run_pure, Result.andThen_ok, List.map_toArray, List.map_cons, List.map_nil, hs, hx, hrun]
  exact hK _ _ (h v' w' h2 h3 h4)
end Go.Proofs.Ytekhpcfggbegaaa.G9
