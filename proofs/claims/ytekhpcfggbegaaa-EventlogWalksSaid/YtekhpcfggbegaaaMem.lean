/- Slices: words for what a slice holds, and who may write it; appends onto a row of the call's own. -/
import Derived.Test.YtekhpcfggbegaaaRows
import Derived.WalkKit
import Derived.Handy
import Derived.Lib.Hide
import Derived.Deep.Draws
import Derived.Deep.AppendLies
import Derived.Maps.AppendAt
import Derived.BigQuiet
import Derived.Deep.QuietTactic
import Derived.WalkSpells
namespace Go.Proofs.Ytekhpcfggbegaaa.Mem
open Go.RowKit

theorem add_block (a : Addr) (n : Nat) : (a.add n).block = a.block := by unfold Addr.add; split <;> rfl
theorem add_add (a : Addr) (i j : Nat) : (a.add i).add j = a.add (i + j) := by
  unfold Addr.add
  by_cases hi : i = 0 <;> by_cases hj : j = 0 <;> simp [hi, hj, Nat.add_assoc]
theorem add_spot (g k : Nat) : (⟨g, 0, none⟩ : Addr).add k = ⟨g, k, none⟩ := by
  unfold Addr.add; split
  · subst_vars; rfl
  · simp

/-- The slice at A holds the one-cell values xs; its cells lie below block number B. -/
def Rd (B : Nat) (w : World) (A : Option Addr) (xs : List Value) : Prop :=
  0 < xs.length → ∃ a, A = some a ∧ a.block < B ∧ ∀ k (h : k < xs.length), w.cell? (a.add k) = some xs[k]

section
variable {B B' : Nat} {w w' : World} {A : Option Addr} {xs : List Value}
theorem Rd.nil : Rd B w A [] := fun h => absurd h (by simp)
theorem Rd.at_ (h : Rd B w A xs) {k : Nat} (hk : k < xs.length) : ∃ a, A = some a ∧ a.block < B ∧ w.cell? (a.add k) = some xs[k] := by
  obtain ⟨a, e, hb, hc⟩ := h (by omega)
  exact ⟨a, e, hb, hc k hk⟩
theorem Rd.keep (h : Rd B w A xs) (hk : ∀ p : Addr, p.block < B → w'.cell? p = w.cell? p) : Rd B w' A xs := fun hl => by
  obtain ⟨a, e, hb, hc⟩ := h hl
  exact ⟨a, e, hb, fun k hk' => (hk _ (by rw [add_block]; exact hb)).trans (hc k hk')⟩
theorem Rd.more (h : Rd B w A xs) (hB : B ≤ B') : Rd B' w A xs := fun hl => by
  obtain ⟨a, e, hb, hc⟩ := h hl
  exact ⟨a, e, by omega, hc⟩
theorem Rd.below (h : Rd B w A xs) (hb : Below B w w') : Rd B w' A xs := h.keep fun _ hp => hb.cell hp
theorem Rd.drewN (h : Rd B w A xs) (n : Nat) : Rd B (w.drewN n) A xs := h
theorem Rd.drew (h : Rd B w A xs) : Rd B w.drew A xs := h
theorem Rd.alloc (h : Rd B w A xs) (hB : B ≤ w.heap.size) (o : Obj) : Rd B (w.alloc o) A xs := h.keep fun p hp => World.cell?_alloc_lt w o p (by omega)
theorem Rd.setCell (h : Rd B w A xs) {p : Addr} (hp : B ≤ p.block) (u : Value) : Rd B (w.setCell p u) A xs :=
  h.keep fun q hq => World.cell?_setCell_other w p q u (fun e => by subst e; omega)
/-- The first n. -/
theorem Rd.take (h : Rd B w A xs) (n : Nat) : Rd B w A (xs.take n) := fun hl => by
  obtain ⟨a, e, hb, hc⟩ := h (by simp at hl; omega)
  exact ⟨a, e, hb, fun k hk => by rw [List.getElem_take]; exact hc k (by simp at hk; omega)⟩
/-- From n on. -/
theorem Rd.cut (h : Rd B w A xs) {n cap : Nat} (hn : n ≤ xs.length) (hc : xs.length ≤ cap) : Rd B w (if cap = n then A else A.map (·.add n)) (xs.drop n) := fun hl => by
  simp at hl
  obtain ⟨a, rfl, hb, hcell⟩ := h (by omega)
  rw [if_neg (by omega)]
  refine ⟨a.add n, rfl, by rw [add_block]; exact hb, fun k hk => ?_⟩
  rw [add_add, List.getElem_drop]
  exact hcell (n + k) (by simp at hk; omega)
/-- A block just made. -/
theorem Rd.new (w : World) (cs : Array Value) (t : TypeId) (fr : Nat × Nat := (0, 0)) : Rd (w.heap.size + 1) (w.alloc (.cells cs t fr)) (some ⟨w.heap.size, 0, none⟩) cs.toList := fun _ =>
  ⟨_, rfl, Nat.lt_succ_self _, fun k hk => by
    rw [add_spot]
    have := cell_of_row (w.alloc (.cells cs t fr)) w.heap.size k cs t fr (heap_alloc_new w _)
    rw [this]; simp⟩
theorem own_rd {base e n : Nat} {c : Nat} (h : w.ownsRow base e 1 (.slice A n c) n xs) : Rd w.heap.size w A xs := fun hl => by
  rcases h.2 with ⟨hv, hn⟩ | ⟨g, cap, cur, hv, hg, hh, _⟩
  · have := h.1; omega
  · injection hv with hA
    subst hA
    have hlt : g < w.heap.size := by
      rcases Nat.lt_or_ge g w.heap.size with h1 | h1
      · exact h1
      · rw [Array.getElem?_eq_none h1] at hh; cases hh
    exact ⟨_, rfl, hlt, fun k hk => h.cells (g := g) rfl k _ (List.getElem?_eq_getElem hk)⟩
theorem own_form {base e n : Nat} {v : Value} (h : w.ownsRow base e 1 v n xs) : ∃ A c, v = .slice A n c ∧ n ≤ c ∧ c ≤ maxLen := by
  rcases h.2 with ⟨rfl, rfl⟩ | ⟨g, cap, cur, rfl, _, _, h1, h2, _⟩
  · exact ⟨_, _, rfl, by omega, by unfold maxLen; omega⟩
  · exact ⟨_, _, rfl, h1, h2⟩
theorem own_below {base e n B : Nat} {v : Value} (h : w.ownsRow base e 1 v n xs) (hb : Below B w w') (hB : w.heap.size ≤ B) : w'.ownsRow base e 1 v n xs :=
  h.kept (row := none) ⟨hb.os, hb.tape, hb.output, hb.size, fun i hi _ => hb.block i (by omega)⟩ (by cases v.ownBlock <;> simp)
theorem own_base {base base' e n : Nat} {v : Value} (h : w.ownsRow base e 1 v n xs) (hb : base' ≤ base) : w.ownsRow base' e 1 v n xs := by
  refine ⟨h.1, ?_⟩
  rcases h.2 with h2 | ⟨g, cap, cur, h1, h2, h3⟩
  · exact .inl h2
  · exact .inr ⟨g, cap, cur, h1, by omega, h3⟩
theorem below_of_drawn {B k : Nat} : Below B w (w.drewN k) := ⟨rfl, rfl, rfl, Nat.le_refl _, fun _ _ => rfl⟩
theorem below_drewN {B k : Nat} {a : World} (h : Below B a w) : Below B a (w.drewN k) := ⟨h.os, h.tape, h.output, h.size, h.block⟩
/-- An append, or a store, to a row of the call's own. -/
theorem below_grown {base e n : Nat} {v : Value} {a : World} (h : Below base a w) (ho : w.ownsRow base e 1 v n xs) (hg : w.grownBy w' v.ownBlock) (hB : base ≤ w.heap.size) : Below base a w' :=
  h.grown hg hB fun k hk => (ho.lt k hk).1
end

section
variable {P : Program} (w : World)
theorem run_append_rd (base : Nat) (t ty e : TypeId) (i : TypeInfo) (z : Value) (bytes : Nat) (ht : P.underlying t = some (.slice e)) (hi : P.info? e = some i) (hz : i.zero = some z)
    (hsize : i.size = 1) (hby : i.bytes = bytes) (hzs : z.cells.size = 1)
    (v : Value) (n : Nat) (xs : List Value) (hown : w.ownsRow base e 1 v n xs) (B : Nat) (A : Option Addr) (m c : Nat) (news : List Value) (hm : news.length = m) (hr : Rd B w A news) (hA : A = none → c = 0)
    (h1 : ∀ u ∈ news, u.oneCell' = true) (h63 : n + m ≤ maxLen) (hbytes : (n + m) * bytes ≤ 140737488355328) (hbase : base ≤ w.heap.size) :
    ∃ v' w', (Builtin.append_ #[t, t] ty #[v, .slice A m c]).run P w = .ok v' w' ∧ w'.ownsRow base e 1 v' (n + m) (xs ++ news) ∧ w.grownBy w' v.ownBlock ∧
      (v'.ownBlock = v.ownBlock ∨ v'.ownBlock = some w.heap.size) := by
  subst hm
  rcases A with _ | a
  · have hn : news = [] := by
      rcases news with _ | ⟨x, news⟩
      · rfl
      · obtain ⟨a, h, _⟩ := hr (by simp)
        cases h
    subst hn
    obtain rfl := hA rfl
    exact ⟨v, w, run_append_owned_none (P := P) w base t ty e i 1 ht hi v n xs hown, by simpa using hown, World.grownBy.refl w _, .inl rfl⟩
  · have hc : ∀ j u, news[j]? = some u → w.cell? (a.add j) = some u := fun j u hu => by
      obtain ⟨hj, rfl⟩ := List.getElem?_eq_some_iff.1 hu
      obtain ⟨a', h, _, hc⟩ := hr (by omega)
      injection h with h
      subst h
      exact hc j hj
    obtain ⟨v', w', hrun, h2, h3, _, h5⟩ := run_append_own_at (P := P) w base t ty e i z 1 bytes ht hi hz hsize hby hzs (by omega) v n xs hown a news.length c news (by omega) hc h1 h63 hbytes hbase
    exact ⟨v', w', hrun, h2, h3, h5⟩
theorem wpList_append_rd {ops : Array Oper} {rest : List Oper} {o : Oper} {a : Act} {Q : Exit → Act → World → Prop} (hgd : o.guard = none) (s x : Operand) (t : TypeId)
    (ho : o.op = .call { callee := .builtin .append, args := #[s, x], argTypes := #[t, t] })
    (base : Nat) (e : TypeId) (i : TypeInfo) (z : Value) (bytes : Nat) (ht : P.underlying t = some (.slice e)) (hi : P.info? e = some i) (hz : i.zero = some z)
    (hsize : i.size = 1) (hby : i.bytes = bytes) (hzs : z.cells.size = 1)
    (v : Value) (n : Nat) (xs : List Value) (hs : a.eval s = v) (hown : w.ownsRow base e 1 v n xs) (B : Nat) (A : Option Addr) (m c : Nat) (news : List Value) (hx : a.eval x = .slice A m c)
    (hm : news.length = m) (hr : Rd B w A news) (hA : A = none → c = 0)
    (h1 : ∀ u ∈ news, u.oneCell' = true) (h63 : n + m ≤ maxLen) (hbytes : (n + m) * bytes ≤ 140737488355328) (hbase : base ≤ w.heap.size)
    (h : ∀ v' w', w'.ownsRow base e 1 v' (n + m) (xs ++ news) → w.grownBy w' v.ownBlock → wpList P ops Q rest (a.put o.dst v') w') : wpList P ops Q (o :: rest) a w := by
  refine wpList_plain hgd fun K hK => ?_
  obtain ⟨v', w', hrun, h2, h3, _⟩ := run_append_rd (P := P) w base t o.type e i z bytes ht hi hz hsize hby hzs v n xs hown B A m c news hm hr hA h1 h63 hbytes hbase
  unfold Oper.wp execOp
  simp only [ho, resolve, invoke, builtin, Sem.run_bind, Sem.run_pure, Result.andThen_ok, List.map_toArray, List.map_cons, List.map_nil, hs, hx, hrun]
  exact hK _ _ (h v' w' h2 h3)
end

/-! Integers. -/
def ivs (l : List Int) : List Value := l.map (Value.int .i64)
theorem len_ivs (l : List Int) : (ivs l).length = l.length := List.length_map _
abbrev IRow (B : Nat) (w : World) (A : Option Addr) (l : List Int) : Prop := Rd B w A (ivs l)
theorem irow_at {B : Nat} {w : World} {A : Option Addr} {l : List Int} (h : IRow B w A l) {k : Nat} (hk : k < l.length) : ∃ a, A = some a ∧ a.block < B ∧ w.cell? (a.add k) = some (.int .i64 l[k]) := by
  obtain ⟨a, e, hb, hc⟩ := Rd.at_ h (k := k) (by rw [len_ivs]; exact hk)
  exact ⟨a, e, hb, by rw [hc]; simp [ivs]⟩
/-! Bytes. -/
def bv (x : UInt8) : Value := .int .u8 (x.toNat : Int)
def bvs (l : List UInt8) : List Value := l.map bv
theorem len_bvs (l : List UInt8) : (bvs l).length = l.length := List.length_map _
theorem bvs_app (a b : List UInt8) : bvs (a ++ b) = bvs a ++ bvs b := List.map_append
theorem bvs_one (l : List UInt8) : ∀ u ∈ bvs l, u.oneCell' = true := by
  intro u hu
  obtain ⟨x, _, rfl⟩ := List.mem_map.1 hu
  rfl
abbrev Row (B : Nat) (w : World) (A : Option Addr) (l : List UInt8) : Prop := Rd B w A (bvs l)
section
variable {B : Nat} {w w' : World} {A : Option Addr} {l : List UInt8}
theorem row_at (h : Row B w A l) {k : Nat} (hk : k < l.length) : ∃ a, A = some a ∧ a.block < B ∧ w.cell? (a.add k) = some (.int .u8 (l[k].toNat : Int)) := by
  obtain ⟨a, e, hb, hc⟩ := Rd.at_ h (k := k) (by rw [len_bvs]; exact hk)
  exact ⟨a, e, hb, by rw [hc]; simp [bvs, bv]⟩
theorem row_take (h : Row B w A l) (n : Nat) : Row B w A (l.take n) := by
  have := Rd.take h n
  unfold Row bvs at *
  rwa [List.map_take]
theorem row_cut (h : Row B w A l) {n cap : Nat} (hn : n ≤ l.length) (hc : l.length ≤ cap) : Row B w (if cap = n then A else A.map (·.add n)) (l.drop n) := by
  have := Rd.cut h (n := n) (cap := cap) (by rw [len_bvs]; exact hn) (by rw [len_bvs]; exact hc)
  unfold Row bvs at *
  rwa [List.map_drop]
end
/-- The slice value v is a row of the call's own (from block number 'base' on) that holds the bytes l. -/
def Own (base : Nat) (w : World) (v : Value) (l : List UInt8) : Prop := w.ownsRow base 5 1 v l.length (bvs l)
section
variable {base : Nat} {w w' : World} {v : Value} {l : List UInt8}
theorem Own.form (h : Own base w v l) : ∃ A c, v = .slice A l.length c ∧ l.length ≤ c ∧ c ≤ maxLen ∧ Row w.heap.size w A l ∧ (A = none → c = 0) := by
  obtain ⟨A, c, rfl, h1, h2⟩ := own_form h
  refine ⟨A, c, rfl, h1, h2, own_rd h, fun e => ?_⟩
  rcases h.2 with ⟨hv, _⟩ | ⟨g, cap, cur, hv, _⟩
  · injection hv
  · subst e; cases hv
theorem Own.below {B : Nat} (h : Own base w v l) (hb : Below B w w') (hB : w.heap.size ≤ B) : Own base w' v l := own_below h hb hB
theorem Own.base_ {base' : Nat} (h : Own base w v l) (hb : base' ≤ base) : Own base' w v l := own_base h hb
end

theorem own_of {base n : Nat} {w : World} {v : Value} {xs : List Value} {l : List UInt8} (h : w.ownsRow base 5 1 v n xs) (hn : n = l.length) (hx : xs = bvs l) : Own base w v l := by
  subst hn hx; exact h
theorem own_app {base : Nat} {w : World} {v : Value} {a b : List UInt8} (h : w.ownsRow base 5 1 v (a.length + b.length) (bvs a ++ bvs b)) : Own base w v (a ++ b) :=
  own_of h (by simp) (bvs_app a b).symm
theorem take_snoc {l : List UInt8} {k : Nat} (h : k < l.length) : l.take (k + 1) = l.take k ++ [l[k]] := List.take_succ_eq_append_getElem h
theorem Own.nil {base : Nat} {w : World} : Own base w (.slice none 0 0) [] := ⟨by simp [bvs], .inl ⟨rfl, by simp⟩⟩
theorem Row.empty {B : Nat} {w : World} {l : List UInt8} (h : Row B w none l) : l = [] := by
  rcases l with _ | ⟨x, l⟩
  · rfl
  · obtain ⟨a, e, _⟩ := row_at h (k := 0) (by simp)
    cases e
theorem bv_mod (y : Nat) : Value.int .u8 ((y : Int) % 256) = bv (UInt8.ofNat (y % 256)) := by
  have : (UInt8.ofNat (y % 256)).toNat = y % 256 := by rw [UInt8.toNat_ofNat']; omega
  unfold bv; rw [this]; rfl
theorem bv_nat {y : Nat} (h : y < 256) : Value.int .u8 (y : Int) = bv (UInt8.ofNat y) := by
  have : (UInt8.ofNat y).toNat = y := by rw [UInt8.toNat_ofNat']; omega
  unfold bv; rw [this]
theorem row_new (w : World) (cs : Array Value) (t : TypeId) (l : List UInt8) (h : cs.toList = bvs l) {B : Nat} (hB : w.heap.size < B) (fr : Nat × Nat := (0, 0)) : Row B (w.alloc (.cells cs t fr)) (some ⟨w.heap.size, 0, none⟩) l := by
  have := (Rd.new w cs t fr).more hB
  rwa [h] at this
theorem row_at_new (w : World) (g : Nat) (cs : Array Value) (t : TypeId) (l : List UInt8) (hg : g = w.heap.size) (h : cs.toList = bvs l) {B : Nat} (hB : g < B) (fr : Nat × Nat := (0, 0)) : Row B (w.alloc (.cells cs t fr)) (some ⟨g, 0, none⟩) l := by
  subst hg
  exact row_new w cs t l h hB fr
theorem quiet_same {P : Program} {f : FuncId} {args : Array Value} {w : World} {n : Nat} {v : Value}
    (h : Calls P f args (w.drewN n) fun e w' => e = .returned v ∧ w.drewN n = w') : Calls P f args (w.drewN n) fun e w'' => e = .returned v ∧ ∃ m, w'' = w.drewN m :=
  h.mono fun _ _ ⟨he, hm⟩ => ⟨he, n, hm.symm⟩
theorem one_int {k : IntKind} {n : Int} : ∀ u ∈ [Value.int k n], u.oneCell' = true := by
  intro u hu
  rw [List.mem_singleton] at hu
  subst hu
  rfl
theorem vi {k : IntKind} {a b : Int} (h : a = b) : Value.int k a = .int k b := by rw [h]
theorem i64_of (a : Nat) (ha : a < 9223372036854775808) : (BitVec.ofInt 64 (a : Int)).toNat = a := by
  rw [BitVec.ofInt_natCast, BitVec.toNat_ofNat]; exact Nat.mod_eq_of_lt (by omega)
theorem i64_xor (a b : Nat) (ha : a < 9223372036854775808) (hb : b < 9223372036854775808) : bits .xor .i64 (a : Int) (b : Int) = ((a ^^^ b : Nat) : Int) := by
  have hx : a ^^^ b < 2 ^ 63 := Nat.xor_lt_two_pow (by omega) (by omega)
  show IntKind.i64.wrap ((BitVec.ofInt 64 (a : Int) ^^^ BitVec.ofInt 64 (b : Int)).toNat : Int) = _
  rw [BitVec.toNat_xor, i64_of a ha, i64_of b hb, IntKind.wrap_i64]
  omega
theorem ret_int {k : IntKind} {a b : Int} (h : a = b) : Ending.returned (.int k a) = .returned (.int k b) := by rw [h]
theorem ret_bool {a b : Bool} (h : a = b) : Ending.returned (.bool a) = .returned (.bool b) := by rw [h]
end Go.Proofs.Ytekhpcfggbegaaa.Mem
