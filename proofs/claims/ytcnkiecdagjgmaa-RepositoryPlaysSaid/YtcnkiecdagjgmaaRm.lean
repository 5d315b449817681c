/- Walks: words for the statements of chapter 11. -/
import Derived.Test.YtcnkiecdagjgmaaRl
import Derived.Test.YtcnkiecdagjgmaaSame
namespace Go.Proofs.Ytcnkiecdagjgmaa.R11
open Go.RowKit Go.Proofs.Ytcnkiecdagjgmaa.Mem Go.Proofs.Ytcnkiecdagjgmaa.Made
set_option maxRecDepth 100000
set_option maxHeartbeats 1000000

section
variable {B : Nat} {W w w' : World} {g gd n c : Nat} {rv rv' v : Value} {S S' : Rp} {L : List Bk} {A : Option Addr} {l : List Nat}
/-- Rows that are not the repository's stay. -/
theorem row_kp {base e sz n : Nat} {xs : List Value} (h : w.ownsRow base e sz v n xs) (he : e ≠ 134) (he2 : e ≠ 129) (hra : RA B W w g rv S) (k : Kp g rv rv' w w') : w'.ownsRow base e sz v n xs := row_any h fun i hi => by
  rcases h.2 with ⟨rfl, _⟩ | ⟨g', cap, cur, rfl, hg, hh, _⟩
  · cases hi
  · injection hi with hi
    subst hi
    exact (k.block _ (lt_of_some hh) (ne_of_types hh hra.head he2) (fun e => by
      obtain ⟨_, c', z', hk⟩ := hra.own.blk e
      exact ne_of_types hh hk he rfl)).1
theorem row_step {base e sz n : Nat} {xs : List Value} (h : w.ownsRow base e sz v n xs) (hb : Below w.heap.size w w') : w'.ownsRow base e sz v n xs := row_any h fun i hi => hb.block i (World.ownsRow.lt h _ hi).2
theorem HOwn.kp {base : Nat} (h : HOwn base w v l) (hra : RA B W w g rv S) (k : Kp g rv rv' w w') : HOwn base w' v l := row_kp h (by decide) (by decide) hra k
theorem HOwn.step {base : Nat} (h : HOwn base w v l) (hb : Below w.heap.size w w') : HOwn base w' v l := row_step h hb
theorem HOwn.form {base : Nat} (h : HOwn base w v l) : ∃ A n c, v = .slice A n c ∧ n = l.length ∧ n ≤ c ∧ c ≤ maxLen := by
  obtain ⟨A, c, rfl, h1, h2⟩ := own_form h
  exact ⟨A, l.length, c, rfl, rfl, h1, h2⟩
theorem HOwn.at_ {base : Nat} (h : HOwn base w (.slice A n c) l) {k : Nat} (hk : k < l.length) : ∃ a, A = some a ∧ a.block < w.heap.size ∧ w.cell? (a.add k) = some (.int .u16 (l[k] : Int)) := by
  obtain ⟨A', c', hv, -, -⟩ := own_form h
  injection hv with e1 e2 e3
  subst e1 e2 e3
  have h' : w.ownsRow base 30 1 (.slice A l.length c) l.length (hvs l) := h
  obtain ⟨a, e, hb, hc⟩ := Rd.at_ (own_rd h') (k := k) (by unfold hvs; rw [List.length_map]; exact hk)
  exact ⟨a, e, hb, by rw [hc]; simp [hvs]⟩
theorem HOwn.cell {base : Nat} {a : Addr} (h : HOwn base w (.slice (some a) n c) l) {k x : Nat} (hk : k < l.length) (hx : l[k] = x) : w.cell? (a.add k) = some (.int .u16 (x : Int)) := by
  obtain ⟨a', e, -, hc⟩ := h.at_ hk
  injection e with e
  subst e
  rw [← hx]
  exact hc
theorem HOwn.some_ {base : Nat} (h : HOwn base w (.slice A n c) l) (hl : 0 < l.length) : ∃ a, A = some a := by
  obtain ⟨a, e, -, -⟩ := h.at_ hl
  exact ⟨a, e⟩
/-- The address of a row of byte slices. -/
theorem AL.some_ {Av : Option Addr} {nv cv : Nat} (h : AL B w (.slice Av nv cv) L) (hl : 0 < L.length) : ∃ a, Av = some a := by
  obtain ⟨a, e, -, -⟩ := h.at_ rfl hl
  exact ⟨a, e⟩
theorem AL.cell {a : Addr} {nv cv : Nat} (h : AL B w (.slice (some a) nv cv) L) {k : Nat} (hk : k < L.length) : w.cell? (a.add k) = some L[k].v := by
  obtain ⟨a', e, -, hc⟩ := h.at_ rfl hk
  injection e with e
  subst e
  exact hc
/-- Rows of other types stay where a row of bytes grows or turns. -/
theorem row_u8 {base e sz n : Nat} {xs : List Value} (h : w.ownsRow base e sz v n xs) {v2 : Value} {base2 : Nat} {b : List UInt8} (h2 : Own base2 w v2 b) (he : e ≠ 5) (hg : w.grownBy w' v2.ownBlock) : w'.ownsRow base e sz v n xs := row_any h fun i hi => by
  rcases h.2 with ⟨rfl, _⟩ | ⟨g', cap, cur, rfl, _, hh, _⟩
  · cases hi
  · injection hi with hi
    subst hi
    refine hg.block _ (lt_of_some hh) (fun e' => ?_)
    rcases h2.2 with ⟨rfl, _⟩ | ⟨g2, cap2, cur2, rfl, _, hh2, _⟩
    · cases e'
    · injection e' with e'
      subst e'
      exact ne_of_types hh hh2 he rfl
end
section
variable {B : Nat} {W w w0 w' : World} {g : Nat} {rv v : Value} {S : Rp} {L : List Bk} {r : Option Nat}
/-- What lay already in w0 stays where a row that was made since grows or turns. -/
theorem row_new {base e sz n : Nat} {xs : List Value} (h : w.ownsRow base e sz v n xs) (h0 : w0.ownsRow base e sz v n xs) (hg : w.grownBy w' r) (hr : ∀ b, r = some b → w0.heap.size ≤ b) : w'.ownsRow base e sz v n xs :=
  row_any h fun i hi => hg.block i (World.ownsRow.lt h i hi).2 fun e => by have h1 := hr i e.symm; have h2 := (World.ownsRow.lt h0 i hi).2; omega
theorem RA.grown_new (h : RA B W w g rv S) (h0 : RA B W w0 g rv S) (hg : w.grownBy w' r) (hr : ∀ b, r = some b → w0.heap.size ≤ b) : RA B W w' g rv S :=
  h.same ⟨hg.os, hg.tape, hg.output, hg.size, fun i hi => hg.block i (by have := h.base; omega) (fun e => by have h1 := hr i e.symm; have h2 := h0.base; omega)⟩ fun i hi hc => hg.block i hi fun e => by
    have h1 := hr i e.symm
    rcases hc with hc | hc | ⟨q, hq, hc⟩
    · have := h0.lg; omega
    · have := (h0.r1 hc).2.1; omega
    · have := (h0.rb hq).2.2.1; omega
theorem AL.grown_new (h : AL B w v L) (h0 : AL B w0 v L) (hg : w.grownBy w' r) (hr : ∀ b, r = some b → w0.heap.size ≤ b) : AL B w' v L :=
  ⟨row_new h.own h0.own hg hr, fun x hx => row_new (h.rows x hx) (h0.rows x hx) hg hr⟩
end
/-- The append of Mem.wpList_append_rd, and where the row lies then. -/
theorem wpList_append_rd3 {P : Program} (w : World) {ops : Array Oper} {rest : List Oper} {o : Oper} {a : Act} {Q : Exit → Act → World → Prop} (hgd : o.guard = none) (s x : Operand) (t : TypeId)
    (ho : o.op = .call { callee := .builtin .append, args := #[s, x], argTypes := #[t, t] })
    (base : Nat) (e : TypeId) (i : TypeInfo) (z : Value) (bytes : Nat) (ht : P.underlying t = some (.slice e)) (hi : P.info? e = some i) (hz : i.zero = some z)
    (hsize : i.size = 1) (hby : i.bytes = bytes) (hzs : z.cells.size = 1)
    (v : Value) (n : Nat) (xs : List Value) (hs : a.eval s = v) (hown : w.ownsRow base e 1 v n xs) (B : Nat) (A : Option Addr) (m c : Nat) (news : List Value) (hx : a.eval x = .slice A m c)
    (hm : news.length = m) (hr : Rd B w A news) (hA : A = none → c = 0)
    (h1 : ∀ u ∈ news, u.oneCell' = true) (h63 : n + m ≤ maxLen) (hbytes : (n + m) * bytes ≤ 140737488355328) (hbase : base ≤ w.heap.size)
    (h : ∀ v' w', w'.ownsRow base e 1 v' (n + m) (xs ++ news) → w.grownBy w' v.ownBlock → (v'.ownBlock = v.ownBlock ∨ v'.ownBlock = some w.heap.size) → wpList P ops Q rest (a.put o.dst v') w') : wpList P ops Q (o :: rest) a w := by
  refine wpList_plain hgd fun K hK => ?_
  obtain ⟨v', w', hrun, h2, h3, h4⟩ := run_append_rd (P := P) w base t o.type e i z bytes ht hi hz hsize hby hzs v n xs hown B A m c news hm hr hA h1 h63 hbytes hbase
  unfold Oper.wp execOp
  simp only [ho, resolve, invoke, builtin, Sem.run_bind, Sem.run_pure, Result.andThen_ok, List.map_toArray, List.map_cons, List.map_nil, hs, hx, hrun]
  exact hK _ _ (h v' w' h2 h3 h4)
end Go.Proofs.Ytcnkiecdagjgmaa.R11
