/- Appends to a row of Go's int64; rows that a store elsewhere leaves. -/
import Derived.Test.YtncpbgmbneobiaaV9t
import Derived.Test.YtncpbgmbneobiaaV9g
namespace Go.Proofs.Ytncpbgmbneobiaa.V9
open Go.RowKit Go.Proofs.Ytncpbgmbneobiaa.Mem Go.Proofs.Ytncpbgmbneobiaa.F2p Go.Proofs.Ytncpbgmbneobiaa.V7
set_option maxRecDepth 100000
set_option maxHeartbeats 1000000

theorem ivs1 (l : List Int) : ∀ u ∈ ivs l, u.oneCell' = true := by
  intro u hu
  simp only [ivs, List.mem_map] at hu
  obtain ⟨x, -, rfl⟩ := hu
  rfl
theorem wpList_append_l {ops : Array Oper} {rest : List Oper} {o : Oper} {a : Act} {Q : Exit → Act → World → Prop} (w : World) (hgd : o.guard = none) (s x : Operand)
    (ho : o.op = .call { callee := .builtin .append, args := #[s, x], argTypes := #[42, 42] })
    (base : Nat) (v : Value) (l : List Int) (hs : a.eval s = v) (hown : LOwn base w v l) (m : List Int) (p : Addr) (n c B : Nat) (hx : a.eval x = .slice (some p) n c) (hn : n = m.length) (hm : Rd B w (some p) (ivs m))
    (hl : l.length + m.length ≤ 1000) (hbase : base ≤ w.heap.size)
    (h : ∀ v' w', LOwn base w' v' (l ++ m) → w.grownBy w' v.ownBlock → wpList Try.prog ops Q rest (a.put o.dst v') w') : wpList Try.prog ops Q (o :: rest) a w := by
  obtain ⟨i0, hi, hz0, hz1, hz2⟩ := info_parts infoL
  refine wpList_append_rd w hgd s x 42 ho base 2 i0 _ 8 Try.underlying42 hi hz0 hz1 hz2 rfl v l.length (ivs l) hs hown B (some p) n c (ivs m) hx ((len_ivs m).trans hn.symm) hm (fun hh => by cases hh) (ivs1 m) (by unfold maxLen; omega) (by omega) hbase (fun v' w' h1 h2 => h v' w' ?_ h2)
  unfold LOwn
  rw [List.length_append, ← hn]
  unfold ivs at h1 ⊢
  rw [List.map_append]
  exact h1
theorem eown_off {base r : Nat} {w w' : World} {v : Value} {l : List Ev} (h : EOwn base w v l) (hg : w.grownBy w' (some r)) (hr : r < base) : EOwn base w' v l :=
  World.ownsRow.kept h hg (.inr (by
    intro e
    have := (World.ownsRow.lt h r e).1
    omega))
theorem lown_off {base r : Nat} {w w' : World} {v : Value} {l : List Int} (h : LOwn base w v l) (hg : w.grownBy w' (some r)) (hr : r < base) : LOwn base w' v l :=
  World.ownsRow.kept h hg (.inr (by
    intro e
    have := (World.ownsRow.lt h r e).1
    omega))
/-- What grows is a row of the call's own, or new. -/
theorem below_own {base B : Nat} {w0 w w' : World} {v : Value} {l : List Ev} (h : EOwn base w v l) (hb : Below B w0 w) (hg : w.grownBy w' v.ownBlock) (hB : B ≤ base) (hz : B ≤ w.heap.size) : Below B w0 w' :=
  hb.grown hg hz (fun k hk => Nat.le_trans hB (World.ownsRow.lt h k hk).1)
theorem below_lown {base B : Nat} {w0 w w' : World} {v : Value} {l : List Int} (h : LOwn base w v l) (hb : Below B w0 w) (hg : w.grownBy w' v.ownBlock) (hB : B ≤ base) (hz : B ≤ w.heap.size) : Below B w0 w' :=
  hb.grown hg hz (fun k hk => Nat.le_trans hB (World.ownsRow.lt h k hk).1)
theorem box_own {base r : Nat} {w w' : World} {v : Value} {l : List Ev} {c : Ck} (hc : CBox w r c) (h : EOwn base w v l) (hg : w.grownBy w' v.ownBlock) (hr : r < base) : CBox w' r c :=
  hc.grown hg (fun e => by have := (World.ownsRow.lt h r e.symm).1; omega)
theorem box_lown {base r : Nat} {w w' : World} {v : Value} {l : List Int} {c : Ck} (hc : CBox w r c) (h : LOwn base w v l) (hg : w.grownBy w' v.ownBlock) (hr : r < base) : CBox w' r c :=
  hc.grown hg (fun e => by have := (World.ownsRow.lt h r e.symm).1; omega)
theorem eown_base {base base' : Nat} {w : World} {v : Value} {l : List Ev} (h : EOwn base w v l) (hb : base' ≤ base) : EOwn base' w v l := by
  refine ⟨h.1, ?_⟩
  rcases h.2 with ⟨h1, h2⟩ | ⟨g, cap, cur, h1, h2, h3⟩
  · exact .inl ⟨h1, h2⟩
  · exact .inr ⟨g, cap, cur, h1, Nat.le_trans hb h2, h3⟩
theorem evs_of_own {base n c : Nat} {p : Addr} {w : World} {l : List Ev} (h : EOwn base w (.slice (some p) n c) l) (hl : 0 < l.length) : EvsAt w p l := by
  obtain ⟨A, n', c', hv, hs⟩ := h.sl
  injection hv with e1 e2 e3
  subst e1
  obtain ⟨a, ha, -, hev⟩ := hs.at_ hl
  obtain rfl := Option.some.inj ha
  exact hev
theorem lown_sl {base : Nat} {w : World} {v : Value} {l : List Int} (h : LOwn base w v l) : ∃ A n c, v = .slice A n c ∧ n = l.length ∧ IRow w.heap.size w A l ∧ n ≤ c ∧ c ≤ maxLen := by
  have hr := h
  obtain ⟨A, c, rfl, h1, h2⟩ := own_form h
  exact ⟨A, _, c, rfl, rfl, own_rd hr, h1, h2⟩
end Go.Proofs.Ytncpbgmbneobiaa.V9
