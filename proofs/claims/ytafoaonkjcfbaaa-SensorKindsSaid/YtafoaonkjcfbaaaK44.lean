/- Lists of changes in memory: words, loads, appends. -/
import Derived.Test.YtafoaonkjcfbaaaK43
import Derived.Test.YtafoaonkjcfbaaaK01
namespace Go.Proofs.Ytafoaonkjcfbaaa.Ya
open Go.RowKit Go.Proofs.Ytafoaonkjcfbaaa.Mem
set_option maxRecDepth 100000
set_option maxHeartbeats 1000000

def Ch.cells (r : Ch) : Array Value := #[.int .i64 (r.i : Int), .bool r.on]
def Ch.v (r : Ch) : Value := .agg r.cells
def kvs : List Ch → List Value
  | [] => []
  | r :: l => r.cells.toList ++ kvs l
theorem kv_len (e : Ch) : e.cells.toList.length = 2 := rfl
theorem kvs_len (l : List Ch) : (kvs l).length = l.length * 2 := by
  induction l with
  | nil => rfl
  | cons x l ih => simp only [kvs, List.length_append, List.length_cons, ih, kv_len]; omega
theorem kvs_app (a b : List Ch) : kvs (a ++ b) = kvs a ++ kvs b := by
  induction a with
  | nil => rfl
  | cons x a ih => simp only [List.cons_append, kvs, ih, List.append_assoc]
theorem kv_one (e : Ch) : e.cells.all (·.oneCell') = true := by
  simp [Ch.cells, Value.oneCell']
theorem kvs_one (l : List Ch) : ∀ u ∈ kvs l, u.oneCell' = true := by
  induction l with
  | nil => intro u hu; cases hu
  | cons x l ih =>
    intro u hu
    simp only [kvs, List.mem_append] at hu
    rcases hu with hu | hu
    · have := kv_one x
      rw [Array.all_eq_true_iff_forall_mem] at this
      exact this u (by simpa using hu)
    · exact ih u hu
theorem kvs_get : ∀ (l : List Ch) (k : Nat) (h : k < l.length) (j : Nat), j < 2 → (kvs l)[k * 2 + j]? = l[k].cells.toList[j]?
  | x :: l, 0, _, j, hj => by
    simp only [kvs, Nat.zero_mul, Nat.zero_add, List.getElem_cons_zero]
    rw [List.getElem?_append_left (by rw [kv_len]; exact hj)]
  | x :: l, k + 1, h, j, hj => by
    have := kvs_get l k (by simpa using h) j hj
    simp only [kvs, List.getElem_cons_succ]
    rw [List.getElem?_append_right (by rw [kv_len]; omega), kv_len, ← this]
    congr 1; omega
abbrev KRow (B : Nat) (w : World) (A : Option Addr) (l : List Ch) : Prop := Rd B w A (kvs l)
theorem krow_at {B : Nat} {w : World} {A : Option Addr} {l : List Ch} (h : KRow B w A l) {k : Nat} (hk : k < l.length) :
    ∃ a, A = some a ∧ a.block < B ∧ w.cell? (a.add (k * 2)) = some (.int .i64 (l[k].i : Int)) ∧ w.cell? (a.add (k * 2 + 1)) = some (.bool l[k].on) := by
  obtain ⟨a, e, hb, hc⟩ := h (by rw [kvs_len]; omega)
  have g0 := kvs_get l k hk 0 (by omega)
  have g1 := kvs_get l k hk 1 (by omega)
  have h0 := hc (k * 2) (by rw [kvs_len]; omega)
  have h1 := hc (k * 2 + 1) (by rw [kvs_len]; omega)
  refine ⟨a, e, hb, ?_, ?_⟩
  · rw [h0, ← List.getElem?_eq_getElem (by rw [kvs_len]; omega)]; exact g0
  · rw [h1, ← List.getElem?_eq_getElem (by rw [kvs_len]; omega)]; exact g1
/-- A record that lies at an address. -/
def KAt (w : World) (p : Addr) (e : Ch) : Prop := ∀ j v, e.cells.toList[j]? = some v → w.cell? (p.add j) = some v
theorem krow_k {B : Nat} {w : World} {A : Option Addr} {l : List Ch} (h : KRow B w A l) {k : Nat} (hk : k < l.length) :
    ∃ a, A = some a ∧ a.block < B ∧ KAt w (a.add (k * 2)) l[k] := by
  obtain ⟨a, e, hb, hc⟩ := h (by rw [kvs_len]; omega)
  refine ⟨a, e, hb, fun j v hv => ?_⟩
  have hj : j < 2 := by have := (List.getElem?_eq_some_iff.1 hv).1; rw [kv_len] at this; exact this
  have h0 := hc (k * 2 + j) (by rw [kvs_len]; omega)
  rw [add_add, h0, ← hv, ← kvs_get l k hk j hj, List.getElem?_eq_getElem (by rw [kvs_len]; omega)]
theorem KAt.ix {w : World} {p : Addr} {r : Ch} (h : KAt w p r) : w.cell? p = some (.int .i64 (r.i : Int)) := by have := h 0 _ rfl; rwa [show p.add 0 = p from rfl] at this
theorem KAt.on {w : World} {p : Addr} {r : Ch} (h : KAt w p r) : w.cell? (p.add 1) = some (.bool r.on) := h 1 _ rfl
theorem KAt.below {w w' : World} {p : Addr} {e : Ch} (h : KAt w p e) {B : Nat} (hb : Below B w w') (hp : p.block < B) : KAt w' p e := fun j v hv => (hb.cell (by rw [add_block]; exact hp)).trans (h j v hv)
/-- A record is read out of a slice. -/
theorem run_loadVar_k (w : World) (p : Addr) (e : Ch) (hc : KAt w p e) : (loadVar 88 p).run Try.prog w = .ok e.v w := by
  have hl : (loadCells p 2).run Try.prog w = .ok e.cells w :=
    run_loadCells_list (P := Try.prog) w p e.cells.toList hc
  have hi : (Try.prog.info? 88).map (·.size) = some 2 := by kernel_rfl
  cases hq : Try.prog.info? 88 with
  | none => simp [hq] at hi
  | some i =>
    have hs : i.size = 2 := by simpa [hq] using hi
    have hagg : (isAgg 88).run Try.prog w = .ok true w := by
      unfold isAgg
      rw [Sem.run_bind, run_underlying Try.underlying88 w]
      rfl
    simp [loadVar, Sem.run_bind, hagg, sizeOf, typeInfo, hq, hs, hl, Ch.v]
theorem wpList_load_k {ops : Array Oper} {rest : List Oper} {op : Oper} {a : Act} {w : World} {Q : Exit → Act → World → Prop} (hgd : op.guard = none) (x : Operand) (ho : op.op = .load 88 x)
    (p : Addr) (e : Ch) (hx : a.eval x = .pointer (some p)) (hc : KAt w p e)
    (h : wpList Try.prog ops Q rest (a.put op.dst e.v) w) : wpList Try.prog ops Q (op :: rest) a w :=
  wpList_plain hgd fun K hK => by
    unfold Oper.wp execOp
    simp only [ho, hx, Instr.loadAt, Instr.sureAddr, Sem.run_bind, Sem.run_pure, Result.andThen_ok, run_loadVar_k w p e hc]
    exact hK _ _ h
/-- A slice of records that is read. -/
structure KSl (w : World) (A : Option Addr) (n c : Nat) (l : List Ch) : Prop where
  len : n = l.length
  row : KRow w.heap.size w A l
  cap : n ≤ c
  max : c ≤ maxLen
  nil : A = none → c = 0
theorem KSl.step {w w' : World} {A : Option Addr} {n c : Nat} {l : List Ch} (h : KSl w A n c l) (hb : Below w.heap.size w w') : KSl w' A n c l := ⟨h.len, (h.row.below hb).more hb.size, h.cap, h.max, h.nil⟩
theorem KSl.none {w : World} : KSl w none 0 0 [] := ⟨rfl, Rd.nil, Nat.le_refl _, by unfold maxLen; omega, fun _ => rfl⟩
/-- A slice of records of the call's own. -/
def KOwn (base : Nat) (w : World) (v : Value) (l : List Ch) : Prop := w.ownsRow base 88 2 v l.length (kvs l)
theorem KOwn.nil {base : Nat} {w : World} : KOwn base w (.slice .none 0 0) [] := ⟨by simp [kvs], .inl ⟨rfl, by simp⟩⟩
theorem KOwn.sl {base : Nat} {w : World} {v : Value} {l : List Ch} (h : KOwn base w v l) : ∃ A n c, v = .slice A n c ∧ KSl w A n c l := by
  rcases h.2 with ⟨rfl, h0⟩ | ⟨g, cap, cur, rfl, hg, hh, h1, h2, _⟩
  · obtain rfl : l = [] := List.length_eq_zero_iff.1 h0
    exact ⟨_, _, _, rfl, KSl.none⟩
  · refine ⟨_, _, _, rfl, rfl, fun hl => ?_, h1, h2, fun e => by cases e⟩
    have hlt : g < w.heap.size := by
      rcases Nat.lt_or_ge g w.heap.size with h3 | h3
      · exact h3
      · rw [Array.getElem?_eq_none h3] at hh; cases hh
    exact ⟨_, rfl, hlt, fun k hk => World.ownsRow.cells h (g := g) rfl k _ (List.getElem?_eq_getElem hk)⟩
theorem KOwn.blk {base : Nat} {w : World} {v : Value} {l : List Ch} (h : KOwn base w v l) {i : Nat} (hi : v.ownBlock = some i) : base ≤ i ∧ ∃ c z, w.heap[i]? = some (.cells c 88 z) := by
  rcases h.2 with ⟨rfl, _⟩ | ⟨g, cap, cur, rfl, hg, hh, _⟩
  · cases hi
  · injection hi with hi
    subst hi
    exact ⟨hg, _, _, hh⟩
theorem KOwn.form {base : Nat} {w : World} {v : Value} {l : List Ch} (h : KOwn base w v l) (hl : 0 < l.length) : ∃ g c, v = .slice (some ⟨g, 0, none⟩) l.length c ∧ base ≤ g ∧ l.length ≤ c ∧ c ≤ maxLen := by
  rcases h.2 with ⟨_, h0⟩ | ⟨g, cap, cur, rfl, hg, _, h1, h2, _⟩
  · omega
  · exact ⟨g, cap, rfl, hg, h1, h2⟩
theorem infoK : (Try.prog.info? 88).map (fun i => (i.zero, i.size, i.bytes)) = some (some (.agg #[.int .i64 0, .bool false]), 2, 16) := by kernel_rfl
/-- Records that lie in a row at an address. -/
def KsAt (w : World) (p : Addr) (l : List Ch) : Prop := ∀ j v, (kvs l)[j]? = some v → w.cell? (p.add j) = some v
theorem KsAt.one {w : World} {p : Addr} {r : Ch} (h0 : w.cell? p = some (.int .i64 (r.i : Int))) (h1 : w.cell? (p.add 1) = some (.bool r.on)) : KsAt w p [r] := fun j v hv => by
  match j with
  | 0 => simp [kvs, Ch.cells] at hv; subst hv; simpa [Addr.add] using h0
  | 1 => simp [kvs, Ch.cells] at hv; subst hv; exact h1
  | j + 2 => simp [kvs, Ch.cells] at hv
theorem run_append_k (w : World) (base : Nat) (ty : TypeId) (v : Value) (l : List Ch) (hown : KOwn base w v l) (m : List Ch) (p : Addr) (n c : Nat) (hn : n = m.length) (hm : KsAt w p m)
    (hl : l.length + m.length ≤ 1000) (hbase : base ≤ w.heap.size) :
    ∃ v' w', (Builtin.append_ #[82, 82] ty #[v, .slice (some p) n c]).run Try.prog w = .ok v' w' ∧ KOwn base w' v' (l ++ m) ∧ w.grownBy w' v.ownBlock ∧ (v'.ownBlock = v.ownBlock ∨ v'.ownBlock = some w.heap.size) := by
  obtain ⟨i, hi, hz0, hz1, hz2⟩ := info_parts infoK
  obtain ⟨v', w', hrun, h2, h3, _, h4⟩ := run_append_own_at (P := Try.prog) w base 82 ty 88 i _ 2 16 Try.underlying82 hi hz0 hz1 hz2 rfl (by omega) v l.length (kvs l) hown p n c (kvs m) (by rw [kvs_len, hn]) hm
    (kvs_one m) (by unfold maxLen; omega) (by omega) hbase
  refine ⟨v', w', hrun, ?_, h3, h4⟩
  unfold KOwn
  rw [kvs_app, List.length_append, ← hn]
  exact h2
theorem wpList_append_k {ops : Array Oper} {rest : List Oper} {o : Oper} {a : Act} {Q : Exit → Act → World → Prop} (w : World) (hgd : o.guard = none) (s x : Operand)
    (ho : o.op = .call { callee := .builtin .append, args := #[s, x], argTypes := #[82, 82] })
    (base : Nat) (v : Value) (l : List Ch) (hs : a.eval s = v) (hown : KOwn base w v l) (m : List Ch) (p : Addr) (n c : Nat) (hx : a.eval x = .slice (some p) n c) (hn : n = m.length) (hm : KsAt w p m)
    (hl : l.length + m.length ≤ 1000) (hbase : base ≤ w.heap.size)
    (h : ∀ v' w', KOwn base w' v' (l ++ m) → w.grownBy w' v.ownBlock → (v'.ownBlock = v.ownBlock ∨ v'.ownBlock = some w.heap.size) → wpList Try.prog ops Q rest (a.put o.dst v') w') : wpList Try.prog ops Q (o :: rest) a w := by
  refine wpList_plain hgd fun K hK => ?_
  obtain ⟨v', w', hrun, h2, h3, h4⟩ := run_append_k w base o.type v l hown m p n c hn hm hl hbase
  unfold Oper.wp execOp
  simp only [ho, resolve, invoke, builtin, Sem.run_bind, Sem.run_pure, Result.andThen_ok, List.map_toArray, List.map_cons, List.map_nil, hs, hx, hrun]
  exact hK _ _ (h v' w' h2 h3 h4)
theorem and_u8 (a b : Nat) (ha : a < 256) (hb : b < 256) : bits .and .u8 (a : Int) (b : Int) = ((a &&& b : Nat) : Int) := by
  show IntKind.u8.wrap ((BitVec.ofInt 8 (a : Int) &&& BitVec.ofInt 8 (b : Int)).toNat : Int) = _
  rw [BitVec.ofInt_natCast, BitVec.ofInt_natCast, BitVec.toNat_and, BitVec.toNat_ofNat, BitVec.toNat_ofNat, Nat.mod_eq_of_lt (show a < 2 ^ 8 by omega), Nat.mod_eq_of_lt (show b < 2 ^ 8 by omega)]
  exact IntWalk.u8_in _ ⟨by omega, by have : a &&& b < 2 ^ 8 := Nat.and_lt_two_pow (n := 8) _ (by omega); omega⟩
theorem or_u8 (a b : Nat) (ha : a < 256) (hb : b < 256) : bits .or .u8 (a : Int) (b : Int) = ((a ||| b : Nat) : Int) := by
  show IntKind.u8.wrap ((BitVec.ofInt 8 (a : Int) ||| BitVec.ofInt 8 (b : Int)).toNat : Int) = _
  rw [BitVec.ofInt_natCast, BitVec.ofInt_natCast, BitVec.toNat_or, BitVec.toNat_ofNat, BitVec.toNat_ofNat, Nat.mod_eq_of_lt (show a < 2 ^ 8 by omega), Nat.mod_eq_of_lt (show b < 2 ^ 8 by omega)]
  exact IntWalk.u8_in _ ⟨by omega, by have : a ||| b < 2 ^ 8 := Nat.or_lt_two_pow (n := 8) (by omega) (by omega); omega⟩
theorem xor_u8 (a b : Nat) (ha : a < 256) (hb : b < 256) : bits .xor .u8 (a : Int) (b : Int) = ((a ^^^ b : Nat) : Int) := by
  show IntKind.u8.wrap ((BitVec.ofInt 8 (a : Int) ^^^ BitVec.ofInt 8 (b : Int)).toNat : Int) = _
  rw [BitVec.ofInt_natCast, BitVec.ofInt_natCast, BitVec.toNat_xor, BitVec.toNat_ofNat, BitVec.toNat_ofNat, Nat.mod_eq_of_lt (show a < 2 ^ 8 by omega), Nat.mod_eq_of_lt (show b < 2 ^ 8 by omega)]
  exact IntWalk.u8_in _ ⟨by omega, by have : a ^^^ b < 2 ^ 8 := Nat.xor_lt_two_pow (n := 8) (by omega) (by omega); omega⟩
theorem andn_u8 (a m : Nat) : bits .andNot .u8 (a : Int) (m : Int) = ((andn8 a m : Nat) : Int) := by
  show IntKind.u8.wrap ((BitVec.ofInt 8 (a : Int) &&& ~~~BitVec.ofInt 8 (m : Int)).toNat : Int) = _
  rw [BitVec.ofInt_natCast, BitVec.ofInt_natCast]
  have hl : andn8 a m < 2 ^ 8 := BitVec.isLt _
  exact IntWalk.u8_in _ ⟨by omega, by unfold andn8 at hl; omega⟩
end Go.Proofs.Ytafoaonkjcfbaaa.Ya
