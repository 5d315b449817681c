/- Lists of samples in memory: words, loads, appends; what a filter is behind them. -/
import Derived.Test.YtekhpcfggbegaaaS10
import Derived.Test.YtekhpcfggbegaaaS34
import Derived.Test.YtekhpcfggbegaaaS01
namespace Go.Proofs.Ytekhpcfggbegaaa.Jk
open Go.RowKit Go.Proofs.Ytekhpcfggbegaaa.Mem Go.Proofs.Ytekhpcfggbegaaa.Ja
set_option maxRecDepth 100000
set_option maxHeartbeats 1000000

/-- A sample: a raw reading, or that it is missing. -/
structure Tk where
  (r : UInt8) (m : Bool)
def Tk.cells (r : Tk) : Array Value := #[.int .u8 (r.r.toNat : Int), .bool r.m]
def Tk.v (r : Tk) : Value := .agg r.cells
def tvs : List Tk → List Value
  | [] => []
  | r :: l => r.cells.toList ++ tvs l
theorem tv_len (e : Tk) : e.cells.toList.length = 2 := rfl
theorem tvs_len (l : List Tk) : (tvs l).length = l.length * 2 := by
  induction l with
  | nil => rfl
  | cons x l ih => simp only [tvs, List.length_append, List.length_cons, ih, tv_len]; omega
theorem tvs_app (a b : List Tk) : tvs (a ++ b) = tvs a ++ tvs b := by
  induction a with
  | nil => rfl
  | cons x a ih => simp only [List.cons_append, tvs, ih, List.append_assoc]
theorem tv_one (e : Tk) : e.cells.all (·.oneCell') = true := by
  simp [Tk.cells, Value.oneCell']
theorem tvs_one (l : List Tk) : ∀ u ∈ tvs l, u.oneCell' = true := by
  induction l with
  | nil => intro u hu; cases hu
  | cons x l ih =>
    intro u hu
    simp only [tvs, List.mem_append] at hu
    rcases hu with hu | hu
    · have := tv_one x
      rw [Array.all_eq_true_iff_forall_mem] at this
      exact this u (by simpa using hu)
    · exact ih u hu
theorem tvs_get : ∀ (l : List Tk) (k : Nat) (h : k < l.length) (j : Nat), j < 2 → (tvs l)[k * 2 + j]? = l[k].cells.toList[j]?
  | x :: l, 0, _, j, hj => by
    simp only [tvs, Nat.zero_mul, Nat.zero_add, List.getElem_cons_zero]
    rw [List.getElem?_append_left (by rw [tv_len]; exact hj)]
  | x :: l, k + 1, h, j, hj => by
    have := tvs_get l k (by simpa using h) j hj
    simp only [tvs, List.getElem_cons_succ]
    rw [List.getElem?_append_right (by rw [tv_len]; omega), tv_len, ← this]
    congr 1; omega
abbrev TRow (B : Nat) (w : World) (A : Option Addr) (l : List Tk) : Prop := Rd B w A (tvs l)
theorem trow_at {B : Nat} {w : World} {A : Option Addr} {l : List Tk} (h : TRow B w A l) {k : Nat} (hk : k < l.length) :
    ∃ a, A = some a ∧ a.block < B ∧ w.cell? (a.add (k * 2)) = some (.int .u8 (l[k].r.toNat : Int)) ∧ w.cell? (a.add (k * 2 + 1)) = some (.bool l[k].m) := by
  obtain ⟨a, e, hb, hc⟩ := h (by rw [tvs_len]; omega)
  have g0 := tvs_get l k hk 0 (by omega)
  have g1 := tvs_get l k hk 1 (by omega)
  have h0 := hc (k * 2) (by rw [tvs_len]; omega)
  have h1 := hc (k * 2 + 1) (by rw [tvs_len]; omega)
  refine ⟨a, e, hb, ?_, ?_⟩
  · rw [h0, ← List.getElem?_eq_getElem (by rw [tvs_len]; omega)]; exact g0
  · rw [h1, ← List.getElem?_eq_getElem (by rw [tvs_len]; omega)]; exact g1
/-- A record that lies at an address. -/
def TAt (w : World) (p : Addr) (e : Tk) : Prop := ∀ j v, e.cells.toList[j]? = some v → w.cell? (p.add j) = some v
theorem trow_k {B : Nat} {w : World} {A : Option Addr} {l : List Tk} (h : TRow B w A l) {k : Nat} (hk : k < l.length) :
    ∃ a, A = some a ∧ a.block < B ∧ TAt w (a.add (k * 2)) l[k] := by
  obtain ⟨a, e, hb, hc⟩ := h (by rw [tvs_len]; omega)
  refine ⟨a, e, hb, fun j v hv => ?_⟩
  have hj : j < 2 := by have := (List.getElem?_eq_some_iff.1 hv).1; rw [tv_len] at this; exact this
  have h0 := hc (k * 2 + j) (by rw [tvs_len]; omega)
  rw [add_add, h0, ← hv, ← tvs_get l k hk j hj, List.getElem?_eq_getElem (by rw [tvs_len]; omega)]
theorem TAt.ix {w : World} {p : Addr} {r : Tk} (h : TAt w p r) : w.cell? p = some (.int .u8 (r.r.toNat : Int)) := by have := h 0 _ rfl; rwa [show p.add 0 = p from rfl] at this
theorem TAt.on {w : World} {p : Addr} {r : Tk} (h : TAt w p r) : w.cell? (p.add 1) = some (.bool r.m) := h 1 _ rfl
theorem TAt.below {w w' : World} {p : Addr} {e : Tk} (h : TAt w p e) {B : Nat} (hb : Below B w w') (hp : p.block < B) : TAt w' p e := fun j v hv => (hb.cell (by rw [add_block]; exact hp)).trans (h j v hv)
/-- A record is read out of a slice. -/
theorem run_loadVar_t (w : World) (p : Addr) (e : Tk) (hc : TAt w p e) : (loadVar 59 p).run Try.prog w = .ok e.v w := by
  have hl : (loadCells p 2).run Try.prog w = .ok e.cells w :=
    run_loadCells_list (P := Try.prog) w p e.cells.toList hc
  have hi : (Try.prog.info? 59).map (·.size) = some 2 := by kernel_rfl
  cases hq : Try.prog.info? 59 with
  | none => simp [hq] at hi
  | some i =>
    have hs : i.size = 2 := by simpa [hq] using hi
    have hagg : (isAgg 59).run Try.prog w = .ok true w := by
      unfold isAgg
      rw [Sem.run_bind, run_underlying Try.underlying59 w]
      rfl
    simp [loadVar, Sem.run_bind, hagg, sizeOf, typeInfo, hq, hs, hl, Tk.v]
theorem wpList_load_t {ops : Array Oper} {rest : List Oper} {op : Oper} {a : Act} {w : World} {Q : Exit → Act → World → Prop} (hgd : op.guard = none) (x : Operand) (ho : op.op = .load 59 x)
    (p : Addr) (e : Tk) (hx : a.eval x = .pointer (some p)) (hc : TAt w p e)
    (h : wpList Try.prog ops Q rest (a.put op.dst e.v) w) : wpList Try.prog ops Q (op :: rest) a w :=
  wpList_plain hgd fun K hK => by
    unfold Oper.wp execOp
    simp only [ho, hx, Instr.loadAt, Instr.sureAddr, Sem.run_bind, Sem.run_pure, Result.andThen_ok, run_loadVar_t w p e hc]
    exact hK _ _ h
/-- A slice of records that is read. -/
structure TSl (w : World) (A : Option Addr) (n c : Nat) (l : List Tk) : Prop where
  len : n = l.length
  row : TRow w.heap.size w A l
  cap : n ≤ c
  max : c ≤ maxLen
  nil : A = none → c = 0
theorem TSl.step {w w' : World} {A : Option Addr} {n c : Nat} {l : List Tk} (h : TSl w A n c l) (hb : Below w.heap.size w w') : TSl w' A n c l := ⟨h.len, (h.row.below hb).more hb.size, h.cap, h.max, h.nil⟩
theorem TSl.none {w : World} : TSl w none 0 0 [] := ⟨rfl, Rd.nil, Nat.le_refl _, by unfold maxLen; omega, fun _ => rfl⟩
/-- A slice of records of the call's own. -/
def TOwn (base : Nat) (w : World) (v : Value) (l : List Tk) : Prop := w.ownsRow base 59 2 v l.length (tvs l)
theorem TOwn.nil {base : Nat} {w : World} : TOwn base w (.slice .none 0 0) [] := ⟨by simp [tvs], .inl ⟨rfl, by simp⟩⟩
theorem TOwn.sl {base : Nat} {w : World} {v : Value} {l : List Tk} (h : TOwn base w v l) : ∃ A n c, v = .slice A n c ∧ TSl w A n c l := by
  rcases h.2 with ⟨rfl, h0⟩ | ⟨g, cap, cur, rfl, hg, hh, h1, h2, _⟩
  · obtain rfl : l = [] := List.length_eq_zero_iff.1 h0
    exact ⟨_, _, _, rfl, TSl.none⟩
  · refine ⟨_, _, _, rfl, rfl, fun hl => ?_, h1, h2, fun e => by cases e⟩
    have hlt : g < w.heap.size := by
      rcases Nat.lt_or_ge g w.heap.size with h3 | h3
      · exact h3
      · rw [Array.getElem?_eq_none h3] at hh; cases hh
    exact ⟨_, rfl, hlt, fun k hk => World.ownsRow.cells h (g := g) rfl k _ (List.getElem?_eq_getElem hk)⟩
theorem TOwn.blk {base : Nat} {w : World} {v : Value} {l : List Tk} (h : TOwn base w v l) {i : Nat} (hi : v.ownBlock = some i) : base ≤ i ∧ ∃ c z, w.heap[i]? = some (.cells c 59 z) := by
  rcases h.2 with ⟨rfl, _⟩ | ⟨g, cap, cur, rfl, hg, hh, _⟩
  · cases hi
  · injection hi with hi
    subst hi
    exact ⟨hg, _, _, hh⟩
theorem TOwn.form {base : Nat} {w : World} {v : Value} {l : List Tk} (h : TOwn base w v l) (hl : 0 < l.length) : ∃ g c, v = .slice (some ⟨g, 0, none⟩) l.length c ∧ base ≤ g ∧ l.length ≤ c ∧ c ≤ maxLen := by
  rcases h.2 with ⟨_, h0⟩ | ⟨g, cap, cur, rfl, hg, _, h1, h2, _⟩
  · omega
  · exact ⟨g, cap, rfl, hg, h1, h2⟩
theorem infoT : (Try.prog.info? 59).map (fun i => (i.zero, i.size, i.bytes)) = some (some (.agg #[.int .u8 0, .bool false]), 2, 2) := by kernel_rfl
/-- Records that lie in a row at an address. -/
def TsAt (w : World) (p : Addr) (l : List Tk) : Prop := ∀ j v, (tvs l)[j]? = some v → w.cell? (p.add j) = some v
theorem TsAt.one {w : World} {p : Addr} {r : Tk} (h0 : w.cell? p = some (.int .u8 (r.r.toNat : Int))) (h1 : w.cell? (p.add 1) = some (.bool r.m)) : TsAt w p [r] := fun j v hv => by
  match j with
  | 0 => simp [tvs, Tk.cells] at hv; subst hv; simpa [Addr.add] using h0
  | 1 => simp [tvs, Tk.cells] at hv; subst hv; exact h1
  | j + 2 => simp [tvs, Tk.cells] at hv
theorem run_append_t (w : World) (base : Nat) (ty : TypeId) (v : Value) (l : List Tk) (hown : TOwn base w v l) (m : List Tk) (p : Addr) (n c : Nat) (hn : n = m.length) (hm : TsAt w p m)
    (hl : l.length + m.length ≤ 1000) (hbase : base ≤ w.heap.size) :
    ∃ v' w', (Builtin.append_ #[55, 55] ty #[v, .slice (some p) n c]).run Try.prog w = .ok v' w' ∧ TOwn base w' v' (l ++ m) ∧ w.grownBy w' v.ownBlock ∧ (v'.ownBlock = v.ownBlock ∨ v'.ownBlock = some w.heap.size) := by
  obtain ⟨i, hi, hz0, hz1, hz2⟩ := info_parts infoT
  obtain ⟨v', w', hrun, h2, h3, _, h4⟩ := run_append_own_at (P := Try.prog) w base 55 ty 59 i _ 2 2 Try.underlying55 hi hz0 hz1 hz2 rfl (by omega) v l.length (tvs l) hown p n c (tvs m) (by rw [tvs_len, hn]) hm
    (tvs_one m) (by unfold maxLen; omega) (by omega) hbase
  refine ⟨v', w', hrun, ?_, h3, h4⟩
  unfold TOwn
  rw [tvs_app, List.length_append, ← hn]
  exact h2
theorem wpList_append_t {ops : Array Oper} {rest : List Oper} {o : Oper} {a : Act} {Q : Exit → Act → World → Prop} (w : World) (hgd : o.guard = none) (s x : Operand)
    (ho : o.op = .call { callee := .builtin .append, args := #[s, x], argTypes := #[55, 55] })
    (base : Nat) (v : Value) (l : List Tk) (hs : a.eval s = v) (hown : TOwn base w v l) (m : List Tk) (p : Addr) (n c : Nat) (hx : a.eval x = .slice (some p) n c) (hn : n = m.length) (hm : TsAt w p m)
    (hl : l.length + m.length ≤ 1000) (hbase : base ≤ w.heap.size)
    (h : ∀ v' w', TOwn base w' v' (l ++ m) → w.grownBy w' v.ownBlock → (v'.ownBlock = v.ownBlock ∨ v'.ownBlock = some w.heap.size) → wpList Try.prog ops Q rest (a.put o.dst v') w') : wpList Try.prog ops Q (o :: rest) a w := by
  refine wpList_plain hgd fun K hK => ?_
  obtain ⟨v', w', hrun, h2, h3, h4⟩ := run_append_t w base o.type v l hown m p n c hn hm hl hbase
  unfold Oper.wp execOp
  simp only [ho, resolve, invoke, builtin, Sem.run_bind, Sem.run_pure, Result.andThen_ok, List.map_toArray, List.map_cons, List.map_nil, hs, hx, hrun]
  exact hK _ _ (h v' w' h2 h3 h4)

/-- The filter behind one more sample. -/
def nxF (k : Nat) (f : List UInt8 × Int) (t : Tk) : List UInt8 × Int := if t.m = false then (push f.1 t.r k, 0) else if f.2 + 1 < 3 then (f.1, f.2 + 1) else ([], 3)
def runF (k : Nat) (l : List Tk) : List UInt8 × Int := l.foldl (nxF k) ([], 0)
theorem runF_snoc (k : Nat) (l : List Tk) (t : Tk) : runF k (l ++ [t]) = nxF k (runF k l) t := by unfold runF; rw [List.foldl_append]; rfl
theorem runF_take {k : Nat} {l : List Tk} {i : Nat} (h : i < l.length) : runF k (l.take (i + 1)) = nxF k (runF k (l.take i)) l[i] := by
  rw [List.take_succ_eq_append_getElem h, runF_snoc]
/-- A filter of a sensor with k samples. -/
def okF (k : Nat) (f : List UInt8 × Int) : Prop := f.1.length ≤ k ∧ 0 ≤ f.2 ∧ f.2 ≤ 3 ∧ (f.2 < 3 ∨ f.1.length = 0)
theorem okF_vf {k : Nat} {f : List UInt8 × Int} (h : okF k f) : vf true (k : Int) f.1 f.2 = true := by
  obtain ⟨h1, h2, h3, h4⟩ := h
  unfold vf
  rw [show decide ((f.1.length : Int) ≤ (k : Int)) = true from decide_eq_true (by omega), show decide (0 ≤ f.2) = true from decide_eq_true h2, show decide (f.2 ≤ 3) = true from decide_eq_true h3]
  rcases h4 with h4 | h4
  · rw [decide_eq_true h4]; rfl
  · rw [show decide (f.1.length = 0) = true from decide_eq_true h4, Bool.or_true]; rfl
theorem okF_next {k : Nat} {f : List UInt8 × Int} (h : okF k f) (t : Tk) : okF k (nxF k f t) := by
  obtain ⟨h1, h2, h3, h4⟩ := h
  unfold nxF
  split
  · refine ⟨?_, by simp, by simp, .inl (by simp)⟩
    show (push f.1 t.r k).length ≤ k
    rw [push_len]; split <;> omega
  · split
    · exact ⟨h1, by show 0 ≤ f.2 + 1; omega, by show f.2 + 1 ≤ 3; omega, .inl (by assumption)⟩
    · exact ⟨Nat.zero_le _, by decide, by decide, .inr rfl⟩
theorem okF_run (k : Nat) (l : List Tk) : okF k (runF k l) := by
  unfold runF
  suffices ∀ (m : List Tk) (f : List UInt8 × Int), okF k f → okF k (m.foldl (nxF k) f) from this l _ ⟨Nat.zero_le _, by decide, by decide, .inl (by decide)⟩
  intro m
  induction m with
  | nil => intro f h; exact h
  | cons t m ih => intro f h; exact ih _ (okF_next h t)
theorem st_next {k : Nat} {f : List UInt8 × Int} (h : okF k f) (t : Tk) : Jd.stW true (k : Int) f.1 f.2 t.r (!t.m) = (nxF k f t).1 ∧ Jd.stM true (k : Int) f.1 f.2 (!t.m) = (nxF k f t).2 ∧ Jd.stE true (k : Int) f.1 f.2 = 0 := by
  have hv := okF_vf h
  unfold Jd.stW Jd.stM Jd.stE nxF
  rw [hv]
  obtain ⟨r, m⟩ := t
  cases m
  · simp
  · simp
    split <;> simp
end Go.Proofs.Ytekhpcfggbegaaa.Jk
