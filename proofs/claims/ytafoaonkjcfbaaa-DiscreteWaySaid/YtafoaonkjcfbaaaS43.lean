/- Lists of changes with any index in memory: words, loads, appends; the changes of Ya among them. -/
import Derived.Test.YtafoaonkjcfbaaaS11
namespace Go.Proofs.Ytafoaonkjcfbaaa.Zb
open Go.RowKit Go.Proofs.Ytafoaonkjcfbaaa.Mem
set_option maxRecDepth 100000
set_option maxHeartbeats 1000000

/-- A change: any index, whether it is asserted. -/
structure Ch where
  (i : Int) (on : Bool)
def Ch.cells (r : Ch) : Array Value := #[.int .i64 r.i, .bool r.on]
def Ch.v (r : Ch) : Value := .agg r.cells
def kvs : List Ch → List Value
  | [] => []
  | r :: l => r.cells.toList ++ kvs l
theorem kv_len (e : Ch) : e.cells.toList.length = 2 := rfl
theorem kvs_len (l : List Ch) : (kvs l).length = l.length * 2 := by
  induction l with
  | nil => rfl
  | cons x l ih => simp only [kvs, List.length_append, List.length_cons, ih, kv_len]; omega
theorem kvs_app (a b : List Ch) : kvs (a ++ b) = kvs a ++ kvs b := by
  induction a with
  | nil => rfl
  | cons x a ih => simp only [List.cons_append, kvs, ih, List.append_assoc]
theorem kv_one (e : Ch) : e.cells.all (·.oneCell') = true := by
  simp [Ch.cells, Value.oneCell']
theorem kvs_one (l : List Ch) : ∀ u ∈ kvs l, u.oneCell' = true := by
  induction l with
  | nil => intro u hu; cases hu
  | cons x l ih =>
    intro u hu
    simp only [kvs, List.mem_append] at hu
    rcases hu with hu | hu
    · have := kv_one x
      rw [Array.all_eq_true_iff_forall_mem] at this
      exact this u (by simpa using hu)
    · exact ih u hu
theorem kvs_get : ∀ (l : List Ch) (k : Nat) (h : k < l.length) (j : Nat), j < 2 → (kvs l)[k * 2 + j]? = l[k].cells.toList[j]?
  | x :: l, 0, _, j, hj => by
    simp only [kvs, Nat.zero_mul, Nat.zero_add, List.getElem_cons_zero]
    rw [List.getElem?_append_left (by rw [kv_len]; exact hj)]
  | x :: l, k + 1, h, j, hj => by
    have := kvs_get l k (by simpa using h) j hj
    simp only [kvs, List.getElem_cons_succ]
    rw [List.getElem?_append_right (by rw [kv_len]; omega), kv_len, ← this]
    congr 1; omega
abbrev KRow (B : Nat) (w : World) (A : Option Addr) (l : List Ch) : Prop := Rd B w A (kvs l)
theorem krow_at {B : Nat} {w : World} {A : Option Addr} {l : List Ch} (h : KRow B w A l) {k : Nat} (hk : k < l.length) :
    ∃ a, A = some a ∧ a.block < B ∧ w.cell? (a.add (k * 2)) = some (.int .i64 l[k].i) ∧ w.cell? (a.add (k * 2 + 1)) = some (.bool l[k].on) := by
  obtain ⟨a, e, hb, hc⟩ := h (by rw [kvs_len]; omega)
  have g0 := kvs_get l k hk 0 (by omega)
  have g1 := kvs_get l k hk 1 (by omega)
  have h0 := hc (k * 2) (by rw [kvs_len]; omega)
  have h1 := hc (k * 2 + 1) (by rw [kvs_len]; omega)
  refine ⟨a, e, hb, ?_, ?_⟩
  · rw [h0, ← List.getElem?_eq_getElem (by rw [kvs_len]; omega)]; exact g0
  · rw [h1, ← List.getElem?_eq_getElem (by rw [kvs_len]; omega)]; exact g1
/-- A record that lies at an address. -/
def KAt (w : World) (p : Addr) (e : Ch) : Prop := ∀ j v, e.cells.toList[j]? = some v → w.cell? (p.add j) = some v
theorem krow_k {B : Nat} {w : World} {A : Option Addr} {l : List Ch} (h : KRow B w A l) {k : Nat} (hk : k < l.length) :
    ∃ a, A = some a ∧ a.block < B ∧ KAt w (a.add (k * 2)) l[k] := by
  obtain ⟨a, e, hb, hc⟩ := h (by rw [kvs_len]; omega)
  refine ⟨a, e, hb, fun j v hv => ?_⟩
  have hj : j < 2 := by have := (List.getElem?_eq_some_iff.1 hv).1; rw [kv_len] at this; exact this
  have h0 := hc (k * 2 + j) (by rw [kvs_len]; omega)
  rw [add_add, h0, ← hv, ← kvs_get l k hk j hj, List.getElem?_eq_getElem (by rw [kvs_len]; omega)]
theorem KAt.ix {w : World} {p : Addr} {r : Ch} (h : KAt w p r) : w.cell? p = some (.int .i64 r.i) := by have := h 0 _ rfl; rwa [show p.add 0 = p from rfl] at this
theorem KAt.on {w : World} {p : Addr} {r : Ch} (h : KAt w p r) : w.cell? (p.add 1) = some (.bool r.on) := h 1 _ rfl
theorem KAt.below {w w' : World} {p : Addr} {e : Ch} (h : KAt w p e) {B : Nat} (hb : Below B w w') (hp : p.block < B) : KAt w' p e := fun j v hv => (hb.cell (by rw [add_block]; exact hp)).trans (h j v hv)
/-- A record is read out of a slice. -/
theorem run_loadVar_k (w : World) (p : Addr) (e : Ch) (hc : KAt w p e) : (loadVar 88 p).run Try.prog w = .ok e.v w := by
  have hl : (loadCells p 2).run Try.prog w = .ok e.cells w :=
    run_loadCells_list (P := Try.prog) w p e.cells.toList hc
  have hi : (Try.prog.info? 88).map (·.size) = some 2 := by kernel_rfl
  cases hq : Try.prog.info? 88 with
  | none => simp [hq] at hi
  | some i =>
    have hs : i.size = 2 := by simpa [hq] using hi
    have hagg : (isAgg 88).run Try.prog w = .ok true w := by
      unfold isAgg
      rw [Sem.run_bind, run_underlying Try.underlying88 w]
      rfl
    simp [loadVar, Sem.run_bind, hagg, sizeOf, typeInfo, hq, hs, hl, Ch.v]
theorem wpList_load_k {ops : Array Oper} {rest : List Oper} {op : Oper} {a : Act} {w : World} {Q : Exit → Act → World → Prop} (hgd : op.guard = none) (x : Operand) (ho : op.op = .load 88 x)
    (p : Addr) (e : Ch) (hx : a.eval x = .pointer (some p)) (hc : KAt w p e)
    (h : wpList Try.prog ops Q rest (a.put op.dst e.v) w) : wpList Try.prog ops Q (op :: rest) a w :=
  wpList_plain hgd fun K hK => by
    unfold Oper.wp execOp
    simp only [ho, hx, Instr.loadAt, Instr.sureAddr, Sem.run_bind, Sem.run_pure, Result.andThen_ok, run_loadVar_k w p e hc]
    exact hK _ _ h
/-- A slice of records that is read. -/
structure KSl (w : World) (A : Option Addr) (n c : Nat) (l : List Ch) : Prop where
  len : n = l.length
  row : KRow w.heap.size w A l
  cap : n ≤ c
  max : c ≤ maxLen
  nil : A = none → c = 0
theorem KSl.step {w w' : World} {A : Option Addr} {n c : Nat} {l : List Ch} (h : KSl w A n c l) (hb : Below w.heap.size w w') : KSl w' A n c l := ⟨h.len, (h.row.below hb).more hb.size, h.cap, h.max, h.nil⟩
theorem KSl.none {w : World} : KSl w none 0 0 [] := ⟨rfl, Rd.nil, Nat.le_refl _, by unfold maxLen; omega, fun _ => rfl⟩
/-- A slice of records of the call's own. -/
def KOwn (base : Nat) (w : World) (v : Value) (l : List Ch) : Prop := w.ownsRow base 88 2 v l.length (kvs l)
theorem KOwn.nil {base : Nat} {w : World} : KOwn base w (.slice .none 0 0) [] := ⟨by simp [kvs], .inl ⟨rfl, by simp⟩⟩
theorem KOwn.sl {base : Nat} {w : World} {v : Value} {l : List Ch} (h : KOwn base w v l) : ∃ A n c, v = .slice A n c ∧ KSl w A n c l := by
  rcases h.2 with ⟨rfl, h0⟩ | ⟨g, cap, cur, rfl, hg, hh, h1, h2, _⟩
  · obtain rfl : l = [] := List.length_eq_zero_iff.1 h0
    exact ⟨_, _, _, rfl, KSl.none⟩
  · refine ⟨_, _, _, rfl, rfl, fun hl => ?_, h1, h2, fun e => by cases e⟩
    have hlt : g < w.heap.size := by
      rcases Nat.lt_or_ge g w.heap.size with h3 | h3
      · exact h3
      · rw [Array.getElem?_eq_none h3] at hh; cases hh
    exact ⟨_, rfl, hlt, fun k hk => World.ownsRow.cells h (g := g) rfl k _ (List.getElem?_eq_getElem hk)⟩
theorem KOwn.blk {base : Nat} {w : World} {v : Value} {l : List Ch} (h : KOwn base w v l) {i : Nat} (hi : v.ownBlock = some i) : base ≤ i ∧ ∃ c z, w.heap[i]? = some (.cells c 88 z) := by
  rcases h.2 with ⟨rfl, _⟩ | ⟨g, cap, cur, rfl, hg, hh, _⟩
  · cases hi
  · injection hi with hi
    subst hi
    exact ⟨hg, _, _, hh⟩
theorem KOwn.form {base : Nat} {w : World} {v : Value} {l : List Ch} (h : KOwn base w v l) (hl : 0 < l.length) : ∃ g c, v = .slice (some ⟨g, 0, none⟩) l.length c ∧ base ≤ g ∧ l.length ≤ c ∧ c ≤ maxLen := by
  rcases h.2 with ⟨_, h0⟩ | ⟨g, cap, cur, rfl, hg, _, h1, h2, _⟩
  · omega
  · exact ⟨g, cap, rfl, hg, h1, h2⟩
theorem infoK : (Try.prog.info? 88).map (fun i => (i.zero, i.size, i.bytes)) = some (some (.agg #[.int .i64 0, .bool false]), 2, 16) := by kernel_rfl
/-- Records that lie in a row at an address. -/
def KsAt (w : World) (p : Addr) (l : List Ch) : Prop := ∀ j v, (kvs l)[j]? = some v → w.cell? (p.add j) = some v
theorem KsAt.one {w : World} {p : Addr} {r : Ch} (h0 : w.cell? p = some (.int .i64 r.i)) (h1 : w.cell? (p.add 1) = some (.bool r.on)) : KsAt w p [r] := fun j v hv => by
  match j with
  | 0 => simp [kvs, Ch.cells] at hv; subst hv; simpa [Addr.add] using h0
  | 1 => simp [kvs, Ch.cells] at hv; subst hv; exact h1
  | j + 2 => simp [kvs, Ch.cells] at hv
theorem run_append_k (w : World) (base : Nat) (ty : TypeId) (v : Value) (l : List Ch) (hown : KOwn base w v l) (m : List Ch) (p : Addr) (n c : Nat) (hn : n = m.length) (hm : KsAt w p m)
    (hl : l.length + m.length ≤ 1000) (hbase : base ≤ w.heap.size) :
    ∃ v' w', (Builtin.append_ #[82, 82] ty #[v, .slice (some p) n c]).run Try.prog w = .ok v' w' ∧ KOwn base w' v' (l ++ m) ∧ w.grownBy w' v.ownBlock ∧ (v'.ownBlock = v.ownBlock ∨ v'.ownBlock = some w.heap.size) := by
  obtain ⟨i, hi, hz0, hz1, hz2⟩ := info_parts infoK
  obtain ⟨v', w', hrun, h2, h3, _, h4⟩ := run_append_own_at (P := Try.prog) w base 82 ty 88 i _ 2 16 Try.underlying82 hi hz0 hz1 hz2 rfl (by omega) v l.length (kvs l) hown p n c (kvs m) (by rw [kvs_len, hn]) hm
    (kvs_one m) (by unfold maxLen; omega) (by omega) hbase
  refine ⟨v', w', hrun, ?_, h3, h4⟩
  unfold KOwn
  rw [kvs_app, List.length_append, ← hn]
  exact h2
theorem wpList_append_k {ops : Array Oper} {rest : List Oper} {o : Oper} {a : Act} {Q : Exit → Act → World → Prop} (w : World) (hgd : o.guard = none) (s x : Operand)
    (ho : o.op = .call { callee := .builtin .append, args := #[s, x], argTypes := #[82, 82] })
    (base : Nat) (v : Value) (l : List Ch) (hs : a.eval s = v) (hown : KOwn base w v l) (m : List Ch) (p : Addr) (n c : Nat) (hx : a.eval x = .slice (some p) n c) (hn : n = m.length) (hm : KsAt w p m)
    (hl : l.length + m.length ≤ 1000) (hbase : base ≤ w.heap.size)
    (h : ∀ v' w', KOwn base w' v' (l ++ m) → w.grownBy w' v.ownBlock → (v'.ownBlock = v.ownBlock ∨ v'.ownBlock = some w.heap.size) → wpList Try.prog ops Q rest (a.put o.dst v') w') : wpList Try.prog ops Q (o :: rest) a w := by
  refine wpList_plain hgd fun K hK => ?_
  obtain ⟨v', w', hrun, h2, h3, h4⟩ := run_append_k w base o.type v l hown m p n c hn hm hl hbase
  unfold Oper.wp execOp
  simp only [ho, resolve, invoke, builtin, Sem.run_bind, Sem.run_pure, Result.andThen_ok, List.map_toArray, List.map_cons, List.map_nil, hs, hx, hrun]
  exact hK _ _ (h v' w' h2 h3 h4)
/-- The changes of Ya as changes with any index. -/
def up (l : List Ya.Ch) : List Ch := l.map fun c => ⟨(c.i : Int), c.on⟩
theorem up_len (l : List Ya.Ch) : (up l).length = l.length := by unfold up; rw [List.length_map]
theorem up_kvs (l : List Ya.Ch) : Ya.kvs l = kvs (up l) := by
  induction l with
  | nil => rfl
  | cons x l ih => show x.cells.toList ++ Ya.kvs l = _; rw [ih]; rfl
theorem up_sl {w : World} {A : Option Addr} {n c : Nat} {l : List Ya.Ch} (h : Ya.KSl w A n c l) : KSl w A n c (up l) :=
  ⟨by rw [up_len]; exact h.len, by show Rd _ _ _ _; rw [← up_kvs]; exact h.row, h.cap, h.max, h.nil⟩
/-- What Apply answers. -/
def apl (st : Nat) : List Ch → Nat × Nat
  | [] => (st, 0)
  | c :: l => if c.i < 0 ∨ 14 < c.i then (0, 2) else if st.testBit c.i.toNat = c.on then (0, 1) else apl (st ^^^ 2 ^ c.i.toNat) l
theorem apl_cons (st : Nat) (c : Ch) (l : List Ch) : apl st (c :: l) = if c.i < 0 ∨ 14 < c.i then (0, 2) else if st.testBit c.i.toNat = c.on then (0, 1) else apl (st ^^^ 2 ^ c.i.toNat) l := rfl
theorem apl_app (st : Nat) (l m : List Ch) (h : (apl st l).2 = 0) : apl st (l ++ m) = apl (apl st l).1 m := by
  induction l generalizing st with
  | nil => rfl
  | cons c l ih =>
    rw [apl_cons] at h
    by_cases h1 : c.i < 0 ∨ 14 < c.i
    · rw [if_pos h1] at h; cases h
    rw [if_neg h1] at h
    by_cases h2 : st.testBit c.i.toNat = c.on
    · rw [if_pos h2] at h; cases h
    rw [if_neg h2] at h
    rw [List.cons_append, apl_cons, apl_cons, if_neg h1, if_neg h2, if_neg h1, if_neg h2]
    exact ih _ h
theorem apl_lt {st : Nat} (hst : st < 65536) (l : List Ch) : (apl st l).1 < 65536 := by
  induction l generalizing st with
  | nil => exact hst
  | cons c l ih =>
    unfold apl
    split
    · exact Nat.zero_lt_succ _
    · rename_i h1
      split
      · exact Nat.zero_lt_succ _
      · refine ih (Nat.xor_lt_two_pow (n := 16) hst ?_)
        exact Nat.pow_lt_pow_right (by omega) (by omega)
/-- a with its first j bits those of b. -/
def mx (a b : Nat) : Nat → Nat
  | 0 => a
  | j + 1 => if a.testBit j = b.testBit j then mx a b j else mx a b j ^^^ 2 ^ j
theorem mx_bit (a b j i : Nat) : (mx a b j).testBit i = if i < j then b.testBit i else a.testBit i := by
  induction j with
  | zero => rw [if_neg (by omega)]; rfl
  | succ j ih =>
    unfold mx
    by_cases h : a.testBit j = b.testBit j
    · rw [if_pos h, ih]
      by_cases h1 : i < j
      · rw [if_pos h1, if_pos (by omega)]
      · rw [if_neg h1]
        by_cases h2 : i = j
        · subst h2; rw [if_pos (by omega), h]
        · rw [if_neg (by omega)]
    · rw [if_neg h, Nat.testBit_xor, Nat.testBit_two_pow, ih]
      by_cases h1 : i < j
      · rw [if_pos h1, if_pos (by omega), decide_eq_false (by omega), Bool.xor_false]
      · rw [if_neg h1]
        by_cases h2 : i = j
        · subst h2; rw [if_pos (by omega), decide_eq_true rfl]
          cases ha : a.testBit i <;> cases hb : b.testBit i <;> rw [ha, hb] at h <;> first | rfl | exact absurd rfl h
        · rw [if_neg (by omega), decide_eq_false (by omega), Bool.xor_false]
theorem mx_end (a b n : Nat) (ha : a < 2 ^ n) (hb : b < 2 ^ n) : mx a b n = b := by
  apply Nat.eq_of_testBit_eq
  intro i
  rw [mx_bit]
  split
  · rfl
  · rename_i h
    have hp : 2 ^ n ≤ 2 ^ i := Nat.pow_le_pow_right (by omega) (by omega)
    rw [Nat.testBit_lt_two_pow (by omega : a < 2 ^ i), Nat.testBit_lt_two_pow (by omega : b < 2 ^ i)]
theorem apl_chs (a b j : Nat) (hj : j ≤ 15) : apl a (up (Ya.chs a b j)) = (mx a b j, 0) := by
  induction j with
  | zero => rfl
  | succ j ih =>
    have ih := ih (by omega)
    unfold mx
    by_cases h : a.testBit j = b.testBit j
    · rw [if_pos h, Ya.chs_same h, ih]
    · rw [if_neg h, Ya.chs_diff h]
      have hu : up (Ya.chs a b j ++ [⟨j, b.testBit j⟩]) = up (Ya.chs a b j) ++ [⟨(j : Int), b.testBit j⟩] := by unfold up; rw [List.map_append]; rfl
      rw [hu, apl_app _ _ _ (by rw [ih]), ih]
      dsimp only
      have h1 : (mx a b j).testBit j = a.testBit j := by rw [mx_bit, if_neg (by omega)]
      unfold apl
      rw [if_neg (by dsimp only; omega)]
      dsimp only
      rw [Int.toNat_natCast, h1, if_neg h]
      rfl
/-- The changes of a step lead from the state before to the state behind. -/
theorem apl_step (a b n : Nat) (hn : n ≤ 15) (ha : a < 2 ^ n) (hb : b < 2 ^ n) : apl a (up (Ya.chs a b n)) = (b, 0) := by rw [apl_chs a b n hn, mx_end a b n ha hb]
end Go.Proofs.Ytafoaonkjcfbaaa.Zb
