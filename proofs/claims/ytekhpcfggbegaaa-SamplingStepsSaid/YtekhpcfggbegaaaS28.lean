/- Walks: the dice's conversions without a table. -/
import Derived.Test.YtekhpcfggbegaaaS24
import Derived.Test.YtekhpcfggbegaaaS14
import Derived.Test.YtekhpcfggbegaaaS27
import Derived.Deep.RegionHeld3
import Derived.Deep.RegionLaw
namespace Go.Proofs.Ytekhpcfggbegaaa.D5
open Go.RowKit Go.Proofs.Ytekhpcfggbegaaa.Mem Go.Proofs.Ytekhpcfggbegaaa.F2p Go.Proofs.Ytekhpcfggbegaaa.Made Go.Proofs.Ytekhpcfggbegaaa.M3p Go.Proofs.Ytekhpcfggbegaaa.C4p Go.Proofs.Ytekhpcfggbegaaa.C4l Go.Proofs.Ytekhpcfggbegaaa.C4v
set_option maxRecDepth 100000
set_option maxHeartbeats 1000000

theorem lt_of_some {w : World} {b : Nat} {o : Obj} (h : w.heap[b]? = some o) : b < w.heap.size := by
  rcases Nat.lt_or_ge b w.heap.size with h1 | h1
  · exact h1
  · rw [Array.getElem?_eq_none h1] at h; cases h
theorem dz_drew {w : World} {g n c : Nat} {A : Option Addr} {l : List Int} (h : Dz w g A n c l) : Dz w.drew g A n c l := by
  obtain ⟨a, ha, hd⟩ := h.at_
  exact ⟨h.len, h.bnd, h.few, Rd.drew h.row, a, ha, hd⟩
/-- A conversion in a block of its own, among dice: where a walk of the dice's Conversion stands. r: the block of the result. -/
structure St (w0 w : World) (g n c : Nat) (A : Option Addr) (l : List Int) (r F : Nat) (rs cs : Array Value) : Prop where
  dz : Dz w g A n c l
  res : w.heap[r]? = some (.cells rs 26 (0, 0))
  cv : w.heap[F]? = some (.cells cs 26 (0, 0))
  gr : w0.grownBy w (some g)
  lo : w0.heap.size ≤ r ∧ r < F ∧ g < w0.heap.size
section
variable {w0 w w' : World} {g n c r F : Nat} {A : Option Addr} {l : List Int} {rs cs : Array Value}
theorem St.step (h : St w0 w g n c A l r F rs cs) (hd : Dz w' g A n c l) (hg : w.grownBy w' (some g)) : St w0 w' g n c A l r F rs cs :=
  ⟨hd, (hg.block r (lt_of_some h.res) (fun e => by injection e; have := h.lo; omega)).trans h.res, (hg.block F (lt_of_some h.cv) (fun e => by injection e; have := h.lo; omega)).trans h.cv, grown_trans h.gr hg, h.lo⟩
theorem St.next (h : St w0 w g n c A l r F rs cs) (k : Nat) (hk : 1 ≤ k) (hk2 : k ≤ 1000000000) :
    Calls Try.prog 16 #[.pointer (some ⟨g, 0, none⟩), .int .i64 (k : Int)] w fun e w' => ∃ q : Nat, q < k ∧ e = .returned (.int .i64 (q : Int)) ∧ St w0 w' g n c A l r F rs cs ∧ w.grownBy w' (some g) :=
  (h.dz.next k hk hk2).mono fun _ _ ⟨q, hq, he, hd, hg⟩ => ⟨q, hq, he, h.step hd hg, hg⟩
theorem St.bool (h : St w0 w g n c A l r F rs cs) (k : Nat) (hk : 1 ≤ k) (hk2 : k ≤ 1000000000) :
    Calls Try.prog 17 #[.pointer (some ⟨g, 0, none⟩), .int .i64 (k : Int)] w fun e w' => ∃ b : Bool, e = .returned (.bool b) ∧ St w0 w' g n c A l r F rs cs ∧ w.grownBy w' (some g) :=
  (h.dz.bool k hk hk2).mono fun _ _ ⟨b, he, hd, hg⟩ => ⟨b, he, h.step hd hg, hg⟩
theorem St.cell (h : St w0 w g n c A l r F rs cs) (i : Nat) : w.cell? ⟨F, i, none⟩ = cs[i]? := cell_of_row w F i _ _ _ h.cv
theorem St.fz (h : St w0 w g n c A l r F rs cs) (i : Nat) : w.frozen? ⟨F, i, none⟩ = false := frozen_of_row w F i _ _ h.cv
theorem St.rfz (h : St w0 w g n c A l r F rs cs) (i : Nat) : w.frozen? ⟨r, i, none⟩ = false := frozen_of_row w r i _ _ h.res
theorem St.rcell (h : St w0 w g n c A l r F rs cs) (i : Nat) : w.cell? ⟨r, i, none⟩ = rs[i]? := cell_of_row w r i _ _ _ h.res
theorem St.set (h : St w0 w g n c A l r F rs cs) (i : Nat) (v : Value) : St w0 (w.setCell ⟨F, i, none⟩ v) g n c A l r F rs (cs.setIfInBounds i v) :=
  ⟨h.dz.grown (set_grown w F i v) (fun e => by injection e; have := h.lo; omega) (fun k hk => by injection hk; have := h.lo; omega),
    (heap_setCell_other w ⟨F, i, none⟩ r v (fun e => by have := h.lo; simp at e; omega)).trans h.res, heap_setCell_same w F i _ _ v h.cv,
    grown_new h.gr (set_grown w F i v) (fun b hb => by injection hb; have := h.lo; omega), h.lo⟩
theorem St.rset (h : St w0 w g n c A l r F rs cs) (i : Nat) (v : Value) : St w0 (w.setCell ⟨r, i, none⟩ v) g n c A l r F (rs.setIfInBounds i v) cs :=
  ⟨h.dz.grown (set_grown w r i v) (fun e => by injection e; have := h.lo; omega) (fun k hk => by injection hk; have := h.lo; omega),
    heap_setCell_same w r i _ _ v h.res, (heap_setCell_other w ⟨r, i, none⟩ F v (fun e => by have := h.lo; simp at e; omega)).trans h.cv,
    grown_new h.gr (set_grown w r i v) (fun b hb => by injection hb; have := h.lo; omega), h.lo⟩
end
/-- A point more behind an ascending list. -/
theorem okp_snoc_some {s : Bool} {k : Int} {p : List Pt} {r : UInt8} {v : Int} (h : okp s (some k) p = true) (hk : k < num s r) (hl : ∀ q ∈ p, num s q.1 < num s r) (hv : -lim ≤ v ∧ v ≤ lim) : okp s (some k) (p ++ [(r, v)]) = true := by
  induction p generalizing k with
  | nil =>
    rw [List.nil_append, okp, Bool.and_eq_true, Bool.and_eq_true, decide_eq_true_eq, decide_eq_true_eq]
    exact ⟨⟨hv, hk⟩, rfl⟩
  | cons a p ih =>
    obtain ⟨r0, v0⟩ := a
    rw [okp, Bool.and_eq_true] at h
    rw [List.cons_append, okp, Bool.and_eq_true]
    exact ⟨h.1, ih h.2 (hl (r0, v0) (by simp)) (fun q hq => hl q (by simp [hq]))⟩
theorem okp_snoc {s : Bool} {p : List Pt} {r : UInt8} {v : Int} (h : okp s none p = true) (hl : ∀ q ∈ p, num s q.1 < num s r) (hv : -lim ≤ v ∧ v ≤ lim) : okp s none (p ++ [(r, v)]) = true := by
  rcases p with _ | ⟨⟨r0, v0⟩, p⟩
  · rw [List.nil_append, okp, Bool.and_eq_true, decide_eq_true_eq]
    exact ⟨hv, rfl⟩
  · rw [okp, Bool.and_eq_true] at h
    rw [List.cons_append, okp, Bool.and_eq_true]
    exact ⟨h.1, okp_snoc_some h.2 (hl (r0, v0) (by simp)) (fun q hq => hl q (by simp [hq])) hv⟩
theorem pown_kept {base g : Nat} {w w' : World} {v : Value} {p : List Pt} (h : POwn base w v p) (hg : w.grownBy w' (some g)) (hlo : g < base) : POwn base w' v p :=
  World.ownsRow.kept h hg (.inr (fun e => by have := (World.ownsRow.lt h _ e).1; omega))
theorem pown_base {base base' : Nat} {w : World} {v : Value} {p : List Pt} (h : POwn base w v p) (hb : base' ≤ base) : POwn base' w v p := by
  refine ⟨h.1, ?_⟩
  rcases h.2 with h1 | ⟨g, cap, cur, h1, h2, h3⟩
  · exact .inl h1
  · exact .inr ⟨g, cap, cur, h1, Nat.le_trans hb h2, h3⟩
theorem pown_out {base : Nat} {w : World} {v : Value} {p : List Pt} (h : POwn (base + 1) w v p) : POwn base w v p := pown_base h (Nat.le_succ _)
theorem pown_out7 {base r : Nat} {w : World} {v : Value} {p : List Pt} (h : POwn base w v p) (hr : r < base) (v0 v1 v2 v3 v4 v5 v6 : Value) :
    POwn base (((((((w.setCell ⟨r, 0, none⟩ v0).setCell ⟨r, 1, none⟩ v1).setCell ⟨r, 2, none⟩ v2).setCell ⟨r, 3, none⟩ v3).setCell ⟨r, 4, none⟩ v4).setCell ⟨r, 5, none⟩ v5).setCell ⟨r, 6, none⟩ v6) v p :=
  pown_kept (pown_kept (pown_kept (pown_kept (pown_kept (pown_kept (pown_kept h (set_grown _ r 0 _) hr) (set_grown _ r 1 _) hr) (set_grown _ r 2 _) hr) (set_grown _ r 3 _) hr) (set_grown _ r 4 _) hr) (set_grown _ r 5 _) hr) (set_grown _ r 6 _) hr
/-- The append of a point, as one step of a region that draws. -/
theorem step_append_p {ops : Array Oper} {o : Oper} {a : Act} {K : Act → World → Prop} {Q : Exit → Act → World → Prop} {E : Prop} (w : World) (hgd : o.guard = none) (s x : Operand)
    (ho : o.op = .call { callee := .builtin .append, args := #[s, x], argTypes := #[24, 24] })
    (base : Nat) (v : Value) (l : List Pt) (hs : a.eval s = v) (hown : POwn base w v l) (k : UInt8) (t : Int) (p : Addr) (c : Nat) (hx : a.eval x = .slice (some p) 1 c)
    (h0 : w.cell? p = some (.int .u8 (k.toNat : Int))) (h1 : w.cell? (p.add 1) = some (.int .i64 t)) (hl : l.length ≤ 1000) (hbase : base ≤ w.heap.size)
    (h : ∀ v' w', POwn base w' v' (l ++ [(k, t)]) → w.grownBy w' v.ownBlock → K (a.put o.dst v') w') : if Region.wanted o (yielded ops a.tmps) = true then Oper.wp Try.prog o a w K Q else E := by
  have hw : Region.wanted o (yielded ops a.tmps) = true := by simp [Region.wanted, hgd]
  rw [if_pos hw]
  obtain ⟨v', w', hrun, h2, h3⟩ := run_append_p w base o.type v l hown k t p c h0 h1 hl hbase
  unfold Oper.wp execOp
  simp only [ho, resolve, invoke, builtin, Sem.run_bind, Sem.run_pure, Result.andThen_ok, List.map_toArray, List.map_cons, List.map_nil, hs, hx, hrun]
  exact h v' w' h2 h3
theorem St.far {w0 w w' : World} {g n c r F : Nat} {A : Option Addr} {l : List Int} {rs cs : Array Value} {b : Option Nat} (h : St w0 w g n c A l r F rs cs) (hg : w.grownBy w' b) (hb : ∀ k, b = some k → F < k) : St w0 w' g n c A l r F rs cs :=
  ⟨h.dz.grown hg (fun e => by have := hb _ e; have := h.lo; omega) (fun k hk => by have := hb _ hk; have := h.lo; omega), (hg.block r (lt_of_some h.res) (fun e => by have := hb _ e.symm; have := h.lo; omega)).trans h.res,
    (hg.block F (lt_of_some h.cv) (fun e => by have := hb _ e.symm; omega)).trans h.cv, grown_new h.gr hg (fun k hk => by have := hb _ hk; have := h.lo; omega), h.lo⟩
theorem St.drew {w0 w : World} {g n c r F : Nat} {A : Option Addr} {l : List Int} {rs cs : Array Value} (h : St w0 w g n c A l r F rs cs) : St w0 w.drew g n c A l r F rs cs := ⟨dz_drew h.dz, h.res, h.cv, grown_drew h.gr, h.lo⟩
abbrev zs : Array Value := #[.int .i64 0, .bool false, .int .i64 0, .int .i64 0, .int .i64 0, .int .i64 0, .slice none 0 0]
theorem seven (v0 v1 v2 v3 v4 v5 v6 : Value) : ((((((zs.setIfInBounds 0 v0).setIfInBounds 1 v1).setIfInBounds 2 v2).setIfInBounds 3 v3).setIfInBounds 4 v4).setIfInBounds 5 v5).setIfInBounds 6 v6 = #[v0, v1, v2, v3, v4, v5, v6] := rfl
theorem St.out7 {w0 w : World} {g n c r F : Nat} {A : Option Addr} {l : List Int} {cs : Array Value} (h : St w0 w g n c A l r F zs cs) (v0 v1 v2 v3 v4 v5 v6 : Value) :
    St w0 (((((((w.setCell ⟨r, 0, none⟩ v0).setCell ⟨r, 1, none⟩ v1).setCell ⟨r, 2, none⟩ v2).setCell ⟨r, 3, none⟩ v3).setCell ⟨r, 4, none⟩ v4).setCell ⟨r, 5, none⟩ v5).setCell ⟨r, 6, none⟩ v6) g n c A l r F #[v0, v1, v2, v3, v4, v5, v6] cs := by
  have := ((((((h.rset 0 v0).rset 1 v1).rset 2 v2).rset 3 v3).rset 4 v4).rset 5 v5).rset 6 v6
  rw [seven] at this
  exact this
/-- What the dice's Conversion leaves. -/
def Cd (w : World) (g n c : Nat) (A : Option Addr) (l : List Int) (e : Ending) (w' : World) : Prop :=
  ∃ (f m b k1 k2 : Int) (s : Bool) (v : Value) (p : List Pt), e = .returned (.agg #[.int .i64 f, .bool s, .int .i64 m, .int .i64 b, .int .i64 k1, .int .i64 k2, v]) ∧ vld ⟨f, s, m, b, k1, k2, p⟩ = true ∧ POwn w.heap.size w' v p ∧ Dz w' g A n c l ∧ w.grownBy w' (some g)
theorem vld_l4 {f m b k1 k2 : Int} (s : Bool) (f1 : 1 ≤ f) (f4 : f ≤ 4) (m1 : -512 ≤ m) (m2 : m ≤ 511) (b1 : -512 ≤ b) (b2 : b ≤ 511) (g1 : -3 ≤ k1) (g2 : k1 ≤ 3) (g3 : -3 ≤ k2) (g4 : k2 ≤ 3) : C4p.vld ⟨f, s, m, b, k1, k2, []⟩ = true := by
  unfold C4p.vld
  rw [if_pos ⟨f1, f4⟩, decide_eq_true ⟨m1, m2, b1, b2, g1, g2, g3, g4⟩]
  rfl
theorem set0 (a b c d e f g v : Value) : #[a, b, c, d, e, f, g].setIfInBounds 0 v = #[v, b, c, d, e, f, g] := rfl
theorem set1 (a b c d e f g v : Value) : #[a, b, c, d, e, f, g].setIfInBounds 1 v = #[a, v, c, d, e, f, g] := rfl
theorem set2 (a b c d e f g v : Value) : #[a, b, c, d, e, f, g].setIfInBounds 2 v = #[a, b, v, d, e, f, g] := rfl
theorem set3 (a b c d e f g v : Value) : #[a, b, c, d, e, f, g].setIfInBounds 3 v = #[a, b, c, v, e, f, g] := rfl
theorem set4 (a b c d e f g v : Value) : #[a, b, c, d, e, f, g].setIfInBounds 4 v = #[a, b, c, d, v, f, g] := rfl
theorem set5 (a b c d e f g v : Value) : #[a, b, c, d, e, f, g].setIfInBounds 5 v = #[a, b, c, d, e, v, g] := rfl
theorem set6 (a b c d e f g v : Value) : #[a, b, c, d, e, f, g].setIfInBounds 6 v = #[a, b, c, d, e, f, v] := rfl
/-- The end: the conversion stands in the result's block. -/
theorem out {w0 w : World} {g n c r F : Nat} {A : Option Addr} {l : List Int} {cs : Array Value} {f m b k1 k2 : Int} {s : Bool} {v : Value} {p : List Pt} {a : Act}
    (h : St w0 w g n c A l r F #[.int .i64 f, .bool s, .int .i64 m, .int .i64 b, .int .i64 k1, .int .i64 k2, v] cs) (hv : vld ⟨f, s, m, b, k1, k2, p⟩ = true) (ho : POwn w0.heap.size w v p) (ht : a.tmps[2]? = some (.pointer (some ⟨r, 0, none⟩))) (hd : a.defers = []) :
    bodyPost Try.prog Try.f52 (Cd w0 g n c A l) .ret a w := by
  have e0 : w.cell? ⟨r, 0, none⟩ = some (.int .i64 f) := h.rcell 0
  have e1 : w.cell? ⟨r, 1, none⟩ = some (.bool s) := h.rcell 1
  have e2 : w.cell? ⟨r, 2, none⟩ = some (.int .i64 m) := h.rcell 2
  have e3 : w.cell? ⟨r, 3, none⟩ = some (.int .i64 b) := h.rcell 3
  have e4 : w.cell? ⟨r, 4, none⟩ = some (.int .i64 k1) := h.rcell 4
  have e5 : w.cell? ⟨r, 5, none⟩ = some (.int .i64 k2) := h.rcell 5
  have e6 : w.cell? ⟨r, 6, none⟩ = some v := h.rcell 6
  refine bodyPost_ret (v := .agg #[.int .i64 f, .bool s, .int .i64 m, .int .i64 b, .int .i64 k1, .int .i64 k2, v]) ?_ hd ⟨f, m, b, k1, k2, s, v, p, rfl, hv, ho, h.dz, h.gr⟩
  simp [results, Try.results52, go_sem, ht, e0, e1, e2, e3, e4, e5, e6]
theorem conv_any {w : World} {g n c : Nat} {A : Option Addr} {l : List Int} (h : Dz w g A n c l) :
    Calls Try.prog 52 #[.pointer (some ⟨g, 0, none⟩)] w (Cd w g n c A l) := by
  have hlt := h.lt
  have hal0 := World.grownBy_alloc w (.cells zs 26) (some g)
  have hd0 := h.grown (World.grownBy_alloc w (.cells zs 26) none) (by simp) (fun k hk => by cases hk)
  have hst0 : (w.alloc (.cells zs 26)).heap[w.heap.size]? = some (.cells zs 26 (0, 0)) := heap_alloc_new w _
  clear h
  go_enter Try.func52, Try.ntmps52
  go_wp2_with fail
  refine (hd0.next 5 (by omega) (by omega)).mono ?_
  rintro e w2 ⟨q, hq, rfl, hd2, hg2⟩
  have hst2 := (hg2.block w.heap.size (lt_of_some hst0) (fun e => by injection e; omega)).trans hst0
  have hgw2 := grown_trans hal0 hg2
  go_wp2_with fail
  refine (hd2.bool 2 (by omega) (by omega)).mono ?_
  rintro e w3 ⟨s, rfl, hd3, hg3⟩
  have hst3 := (hg3.block w.heap.size (lt_of_some hst2) (fun e => by injection e; omega)).trans hst2
  have hgw3 := grown_trans hgw2 hg3
  clear hd0 hal0 hst0 hg2 hd2 hst2 hgw2 hg3
  have hS : St w (w3.alloc (.cells #[.int .i64 (1 + (q : Int)), .bool s, .int .i64 0, .int .i64 0, .int .i64 0, .int .i64 0, .slice none 0 0] 26)) g n c A l w.heap.size w3.heap.size zs #[.int .i64 (1 + (q : Int)), .bool s, .int .i64 0, .int .i64 0, .int .i64 0, .int .i64 0, .slice none 0 0] :=
    ⟨hd3.grown (World.grownBy_alloc w3 _ none) (by simp) (fun k hk => by cases hk), (Below.heap_alloc w3 _ _ (lt_of_some hst3)).trans hst3, heap_alloc_new w3 _, grown_trans hgw3 (World.grownBy_alloc w3 _ (some g)), Nat.le_refl _, lt_of_some hst3, hlt⟩
  have hF := lt_of_some hst3
  clear hd3 hst3 hgw3
  by_cases h4 : q = 4
  · subst h4
    have e5 : (1 + ((4 : Nat) : Int)) = 5 := rfl
    rw [e5] at hS
    go_wp2_with fail
    clear e5
    generalize w3.heap.size = F at *
    generalize w3.alloc (.cells #[.int .i64 5, .bool s, .int .i64 0, .int .i64 0, .int .i64 0, .int .i64 0, .slice none 0 0] 26) = w4 at *
    refine (hS.next 11 (by omega) (by omega)).mono ?_
    rintro e w5 ⟨q1, hq1, rfl, hS5, -⟩
    have c5 : w5.cell? ⟨F, 1, none⟩ = some (.bool s) := hS5.cell 1
    clear hS
    go_wp2_with fail
    refine (least_r s _).mono ?_
    rintro e w' ⟨rfl, rfl⟩
    have hL1 := num_in s 0
    obtain ⟨L, hL⟩ : ∃ L, L = least s := ⟨_, rfl⟩
    have hL2 : L = -128 ∨ L = 0 := by rw [hL]; unfold least; split <;> simp
    rw [← hL]
    clear hL1
    go_wp2_with fail
    refine (hS5.next 40 (by omega) (by omega)).mono ?_
    rintro e w6 ⟨q2, hq2, rfl, hS6, -⟩
    clear hS5 c5
    have HL := Lib.hid hL
    clear hL
    have HRA := Lib.hid (fun z u h1 h2 => raw_r z u h1 h2)
    go_wp2_with fail
    go_loopw [5, 6] (fun v5 v6 wr => ∃ (i : Nat) (x : Int) (v : Value) (p : List Pt), i ≤ 2 + q1 ∧ v6 = .int .i64 (i : Int) ∧ v5 = .int .i64 x ∧ p.length = i ∧ L ≤ x ∧ x ≤ L + 39 + 18 * (i : Int) ∧ St w wr g n c A l w.heap.size F zs #[.int .i64 5, .bool s, .int .i64 0, .int .i64 0, .int .i64 0, .int .i64 0, v] ∧ POwn (F + 1) wr v p ∧ okp s none p = true ∧ ∀ q ∈ p, num s q.1 < x) (fun _ v6 _ => (2 + q1) - (intOf v6).toNat)
    case atStart => exact ⟨0, L + (q2 : Int), .slice none 0 0, [], by omega, rfl, vi (by rw [← HL.out]; show wrap64 _ = _; unfold wrap64; omega), rfl, by omega, by omega, hS6, POwn.nil, rfl, fun q hq => by cases hq⟩
    case round =>
      obtain ⟨i, x, v, p, hi, rfl, rfl, hpl, hx1, hx2, hSr, hown, hok, hlow⟩ := hrel
      have HOK := Lib.hid hok
      have HLOW := Lib.hid hlow
      clear hok hlow hS6
      by_cases hlt : i < 2 + q1
      · have hSd := hSr.drew
        have hownd : POwn (F + 1) wr.drew v p := World.ownsRow.drew hown
        have k0 : wr.cell? ⟨F, 6, none⟩ = some v := hSr.cell 6
        have k0d : wr.drew.cell? ⟨F, 6, none⟩ = some v := hSd.cell 6
        have HMI := Lib.hid hSd.dz.micro
        have HSD := Lib.hid hSd
        have HOWND := Lib.hid hownd
        have hFg := hSr.lo
        clear hSr hown hSd hownd
        go_wp2_with fail
        go_region_law (first
            | (go_simp; go_at_call 86; refine (HRA.out _ _ (by omega) (by omega)).mono ?_; rintro e w' ⟨rfl, rfl⟩)
            | (go_simp; go_at_call 87; refine (HMI.out).mono ?_; rintro e w7 ⟨m, rfl, hm, hd7, hg7⟩; have hS7 := HSD.out.step hd7 hg7; have hown7 := pown_kept HOWND.out hg7 (by omega); have k7 : w7.cell? ⟨F, 6, none⟩ = some v := hS7.cell 6; have hsz7 := lt_of_some hS7.cv)
            | (go_loud (refine step_append_p (w7.alloc (.cells #[.int .u8 ((rawOf x).toNat : Int), .int .i64 m] 139)) rfl (.tmp 58) (.tmp 64) rfl (F + 1) v p rfl (World.ownsRow.alloc hown7 _) (rawOf x) m ⟨w7.heap.size, 0, none⟩ 1 rfl (cell_of_row _ w7.heap.size 0 _ _ _ (heap_alloc_new w7 _)) (cell_of_row _ w7.heap.size 1 _ _ _ (heap_alloc_new w7 _)) (by omega) (by rw [World.size_alloc]; omega) ?_); intro v9 w9 hown9 hg9; obtain ⟨A9, n9, c9, rfl, -⟩ := hown9.sl; have hS9 := (hS7.far (World.grownBy_alloc w7 _ none) (fun k hk => (by cases hk))).far hg9 (fun k hk => (by have := (World.ownsRow.lt hown7 _ hk).1; omega)); have k9 : w9.cell? ⟨F, 6, none⟩ = some v := hS9.cell 6; have f9 := hS9.fz 6))
        all_goals
          have hS10 := hS9.set 6 (.slice A9 n9 c9)
          rw [set6] at hS10
          have hown10 : POwn (F + 1) (w9.setCell ⟨F, 6, none⟩ (.slice A9 n9 c9)) (.slice A9 n9 c9) (p ++ [(rawOf x, m)]) := pown_kept hown9 (set_grown w9 F 6 _) (by omega)
          have hnum : num s (rawOf x) = x := num_raw (by rw [← HL.out]; exact hx1) (by rw [← HL.out]; omega)
          have HNUM := Lib.hid hnum
          have HM := Lib.hid hm
          generalize w9.setCell ⟨F, 6, none⟩ (.slice A9 n9 c9) = wa at *
          clear hS9 hown9 hg9 hS7 hown7 hd7 hg7 k9 f9 k7 k0 k0d hsz7 hnum hm
          go_wp2_with fail
          refine (hS10.next 18 (by omega) (by omega)).mono ?_
          rintro e wb ⟨q3, hq3, rfl, hSb, hgb⟩
          have hownb := pown_kept hown10 hgb (by omega)
          clear hS10 hown10 hgb
          go_wp2_with fail
          refine ⟨⟨i + 1, x + (1 + (q3 : Int)), .slice A9 n9 c9, p ++ [(rawOf x, m)], by omega, by go_num, rfl, by simp [hpl], by omega, by push_cast; omega, hSb, hownb, okp_snoc HOK.out (fun q hq => by rw [HNUM.out]; exact HLOW.out q hq) HM.out, ?_⟩, by simp [intOf]; omega⟩
          intro q hq
          rcases List.mem_append.1 hq with h | h
          · have := HLOW.out q h
            omega
          · simp at h
            subst h
            show num s (rawOf x) < _
            rw [HNUM.out]
            omega
      · obtain rfl : i = 2 + q1 := by omega
        obtain ⟨A0, n0, c0, rfl, -⟩ := hown.sl
        have a0 : wr.cell? ⟨F, 0, none⟩ = some (.int .i64 5) := hSr.cell 0
        have a1 : wr.cell? ⟨F, 1, none⟩ = some (.bool s) := hSr.cell 1
        have a2 : wr.cell? ⟨F, 2, none⟩ = some (.int .i64 0) := hSr.cell 2
        have a3 : wr.cell? ⟨F, 3, none⟩ = some (.int .i64 0) := hSr.cell 3
        have a4 : wr.cell? ⟨F, 4, none⟩ = some (.int .i64 0) := hSr.cell 4
        have a5 : wr.cell? ⟨F, 5, none⟩ = some (.int .i64 0) := hSr.cell 5
        have a6 : wr.cell? ⟨F, 6, none⟩ = some (.slice A0 n0 c0) := hSr.cell 6
        have k0 : wr.cell? ⟨w.heap.size, 0, none⟩ = some (.int .i64 0) := hSr.rcell 0
        have k1 : wr.cell? ⟨w.heap.size, 1, none⟩ = some (.bool false) := hSr.rcell 1
        have k2 : wr.cell? ⟨w.heap.size, 2, none⟩ = some (.int .i64 0) := hSr.rcell 2
        have k3 : wr.cell? ⟨w.heap.size, 3, none⟩ = some (.int .i64 0) := hSr.rcell 3
        have k4 : wr.cell? ⟨w.heap.size, 4, none⟩ = some (.int .i64 0) := hSr.rcell 4
        have k5 : wr.cell? ⟨w.heap.size, 5, none⟩ = some (.int .i64 0) := hSr.rcell 5
        have k6 : wr.cell? ⟨w.heap.size, 6, none⟩ = some (.slice none 0 0) := hSr.rcell 6
        have r0 := hSr.rfz 0
        have r1 := hSr.rfz 1
        have r2 := hSr.rfz 2
        have r3 := hSr.rfz 3
        have r4 := hSr.rfz 4
        have r5 := hSr.rfz 5
        have r6 := hSr.rfz 6
        have hfin := Lib.hid (hSr.out7 (.int .i64 5) (.bool s) (.int .i64 0) (.int .i64 0) (.int .i64 0) (.int .i64 0) (.slice A0 n0 c0))
        have HSR := Lib.hid hSr
        have HOWN := Lib.hid hown
        clear hSr hown
        go_wp2_with fail
        refine out (f := 5) (m := 0) (b := 0) (k1 := 0) (k2 := 0) (s := s) (v := .slice A0 n0 c0) (p := p) hfin.out ?_ ?_ ?_ ?_
        · rw [vld_five s p (by omega) (by omega)]
          exact HOK.out
        · have h7 := pown_out7 (r := w.heap.size) HOWN.out (by have := HSR.out.lo; omega) (.int .i64 5) (.bool s) (.int .i64 0) (.int .i64 0) (.int .i64 0) (.int .i64 0) (.slice A0 n0 c0)
          exact pown_base h7 (by have := HSR.out.lo; omega)
        · rfl
        · rfl
  · have hne : ((1 + (q : Int)) != 5) = true := by rw [bne_iff_ne]; omega
    go_wp2_with fail
    generalize w3.heap.size = F at *
    generalize w3.alloc (.cells #[.int .i64 (1 + (q : Int)), .bool s, .int .i64 0, .int .i64 0, .int .i64 0, .int .i64 0, .slice none 0 0] 26) = w4 at *
    refine (hS.next 1024 (by omega) (by omega)).mono ?_
    rintro e w5 ⟨q1, hq1, rfl, hS5, -⟩
    have c5 : w5.cell? ⟨F, 2, none⟩ = some (.int .i64 0) := hS5.cell 2
    have f5 := hS5.fz 2
    clear hS
    go_wp2_with fail
    have hS6 := hS5.set 2 (.int .i64 ((q1 : Int) - 512))
    rw [set2] at hS6
    refine (hS6.next 1024 (by omega) (by omega)).mono ?_
    rintro e w6 ⟨q2, hq2, rfl, hS6', -⟩
    have c6 : w6.cell? ⟨F, 3, none⟩ = some (.int .i64 0) := hS6'.cell 3
    have f6 := hS6'.fz 3
    clear hS5 c5 f5 hS6
    go_wp2_with fail
    have hS7 := hS6'.set 3 (.int .i64 ((q2 : Int) - 512))
    rw [set3] at hS7
    refine (hS7.bool 2 (by omega) (by omega)).mono ?_
    rintro e w7 ⟨bb, rfl, hS7', -⟩
    clear hS6' c6 f6 hS7
    rcases bb with _ | _
    · go_wp2_with fail
      refine (hS7'.next 7 (by omega) (by omega)).mono ?_
      rintro e w8 ⟨q5, hq5, rfl, hS8, -⟩
      have c8 : w8.cell? ⟨F, 4, none⟩ = some (.int .i64 0) := hS8.cell 4
      have f8 := hS8.fz 4
      clear hS7'
      go_wp2_with fail
      have hS8' := hS8.set 4 (.int .i64 ((q5 : Int) - 3))
      rw [set4] at hS8'
      refine (hS8'.next 7 (by omega) (by omega)).mono ?_
      rintro e w9 ⟨q6, hq6, rfl, hS9, -⟩
      clear hS8 hS8' c8 f8
      have hS10 := hS9.set 5 (.int .i64 ((q6 : Int) - 3))
      rw [set5] at hS10
      have a0 : (w9.setCell ⟨F, 5, none⟩ (.int .i64 ((q6 : Int) - 3))).cell? ⟨F, 0, none⟩ = some (.int .i64 (1 + (q : Int))) := hS10.cell 0
      have a1 : (w9.setCell ⟨F, 5, none⟩ (.int .i64 ((q6 : Int) - 3))).cell? ⟨F, 1, none⟩ = some (.bool s) := hS10.cell 1
      have a2 : (w9.setCell ⟨F, 5, none⟩ (.int .i64 ((q6 : Int) - 3))).cell? ⟨F, 2, none⟩ = some (.int .i64 ((q1 : Int) - 512)) := hS10.cell 2
      have a3 : (w9.setCell ⟨F, 5, none⟩ (.int .i64 ((q6 : Int) - 3))).cell? ⟨F, 3, none⟩ = some (.int .i64 ((q2 : Int) - 512)) := hS10.cell 3
      have a4 : (w9.setCell ⟨F, 5, none⟩ (.int .i64 ((q6 : Int) - 3))).cell? ⟨F, 4, none⟩ = some (.int .i64 ((q5 : Int) - 3)) := hS10.cell 4
      have a5 : (w9.setCell ⟨F, 5, none⟩ (.int .i64 ((q6 : Int) - 3))).cell? ⟨F, 5, none⟩ = some (.int .i64 ((q6 : Int) - 3)) := hS10.cell 5
      have a6 : (w9.setCell ⟨F, 5, none⟩ (.int .i64 ((q6 : Int) - 3))).cell? ⟨F, 6, none⟩ = some (.slice none 0 0) := hS10.cell 6
      have k0 : (w9.setCell ⟨F, 5, none⟩ (.int .i64 ((q6 : Int) - 3))).cell? ⟨w.heap.size, 0, none⟩ = some (.int .i64 0) := hS10.rcell 0
      have k1 : (w9.setCell ⟨F, 5, none⟩ (.int .i64 ((q6 : Int) - 3))).cell? ⟨w.heap.size, 1, none⟩ = some (.bool false) := hS10.rcell 1
      have k2 : (w9.setCell ⟨F, 5, none⟩ (.int .i64 ((q6 : Int) - 3))).cell? ⟨w.heap.size, 2, none⟩ = some (.int .i64 0) := hS10.rcell 2
      have k3 : (w9.setCell ⟨F, 5, none⟩ (.int .i64 ((q6 : Int) - 3))).cell? ⟨w.heap.size, 3, none⟩ = some (.int .i64 0) := hS10.rcell 3
      have k4 : (w9.setCell ⟨F, 5, none⟩ (.int .i64 ((q6 : Int) - 3))).cell? ⟨w.heap.size, 4, none⟩ = some (.int .i64 0) := hS10.rcell 4
      have k5 : (w9.setCell ⟨F, 5, none⟩ (.int .i64 ((q6 : Int) - 3))).cell? ⟨w.heap.size, 5, none⟩ = some (.int .i64 0) := hS10.rcell 5
      have k6 : (w9.setCell ⟨F, 5, none⟩ (.int .i64 ((q6 : Int) - 3))).cell? ⟨w.heap.size, 6, none⟩ = some (.slice none 0 0) := hS10.rcell 6
      have f9 := hS9.fz 5
      have r0 := hS10.rfz 0
      have r1 := hS10.rfz 1
      have r2 := hS10.rfz 2
      have r3 := hS10.rfz 3
      have r4 := hS10.rfz 4
      have r5 := hS10.rfz 5
      have r6 := hS10.rfz 6
      have c9 : w9.cell? ⟨F, 5, none⟩ = some (.int .i64 0) := hS9.cell 5
      have hfin := Lib.hid (hS10.out7 (.int .i64 (1 + (q : Int))) (.bool s) (.int .i64 ((q1 : Int) - 512)) (.int .i64 ((q2 : Int) - 512)) (.int .i64 ((q5 : Int) - 3)) (.int .i64 ((q6 : Int) - 3)) (.slice none 0 0))
      clear hS10
      go_wp2_with fail
      refine out (f := 1 + (q : Int)) (m := (q1 : Int) - 512) (b := (q2 : Int) - 512) (k1 := (q5 : Int) - 3) (k2 := (q6 : Int) - 3) (s := s) (v := .slice none 0 0) (p := []) hfin.out ?_ POwn.nil ?_ ?_
      · exact vld_l4 s (by omega) (by omega) (by omega) (by omega) (by omega) (by omega) (by omega) (by omega) (by omega) (by omega)
      · rfl
      · rfl

    · go_wp2_with fail
      refine (hS7'.next 21 (by omega) (by omega)).mono ?_
      rintro e w10 ⟨q3, hq3, rfl, hSa, -⟩
      have ca : w10.cell? ⟨F, 2, none⟩ = some (.int .i64 ((q1 : Int) - 512)) := hSa.cell 2
      have fa := hSa.fz 2
      clear hS7'
      go_wp2_with fail
      have hSb := hSa.set 2 (.int .i64 ((q3 : Int) - 10))
      rw [set2] at hSb
      refine (hSb.next 41 (by omega) (by omega)).mono ?_
      rintro e w11 ⟨q4, hq4, rfl, hSc, -⟩
      have cb : w11.cell? ⟨F, 3, none⟩ = some (.int .i64 ((q2 : Int) - 512)) := hSc.cell 3
      have fb := hSc.fz 3
      clear hSa hSb ca fa
      go_wp2_with fail
      have hSd := hSc.set 3 (.int .i64 ((q4 : Int) - 20))
      rw [set3] at hSd
      refine (hSd.next 7 (by omega) (by omega)).mono ?_
      rintro e w8 ⟨q5, hq5, rfl, hS8, -⟩
      have c8 : w8.cell? ⟨F, 4, none⟩ = some (.int .i64 0) := hS8.cell 4
      have f8 := hS8.fz 4
      clear hSc hSd cb fb
      go_wp2_with fail
      have hS8' := hS8.set 4 (.int .i64 ((q5 : Int) - 3))
      rw [set4] at hS8'
      refine (hS8'.next 7 (by omega) (by omega)).mono ?_
      rintro e w9 ⟨q6, hq6, rfl, hS9, -⟩
      clear hS8 hS8' c8 f8
      have hS10 := hS9.set 5 (.int .i64 ((q6 : Int) - 3))
      rw [set5] at hS10
      have a0 : (w9.setCell ⟨F, 5, none⟩ (.int .i64 ((q6 : Int) - 3))).cell? ⟨F, 0, none⟩ = some (.int .i64 (1 + (q : Int))) := hS10.cell 0
      have a1 : (w9.setCell ⟨F, 5, none⟩ (.int .i64 ((q6 : Int) - 3))).cell? ⟨F, 1, none⟩ = some (.bool s) := hS10.cell 1
      have a2 : (w9.setCell ⟨F, 5, none⟩ (.int .i64 ((q6 : Int) - 3))).cell? ⟨F, 2, none⟩ = some (.int .i64 ((q3 : Int) - 10)) := hS10.cell 2
      have a3 : (w9.setCell ⟨F, 5, none⟩ (.int .i64 ((q6 : Int) - 3))).cell? ⟨F, 3, none⟩ = some (.int .i64 ((q4 : Int) - 20)) := hS10.cell 3
      have a4 : (w9.setCell ⟨F, 5, none⟩ (.int .i64 ((q6 : Int) - 3))).cell? ⟨F, 4, none⟩ = some (.int .i64 ((q5 : Int) - 3)) := hS10.cell 4
      have a5 : (w9.setCell ⟨F, 5, none⟩ (.int .i64 ((q6 : Int) - 3))).cell? ⟨F, 5, none⟩ = some (.int .i64 ((q6 : Int) - 3)) := hS10.cell 5
      have a6 : (w9.setCell ⟨F, 5, none⟩ (.int .i64 ((q6 : Int) - 3))).cell? ⟨F, 6, none⟩ = some (.slice none 0 0) := hS10.cell 6
      have k0 : (w9.setCell ⟨F, 5, none⟩ (.int .i64 ((q6 : Int) - 3))).cell? ⟨w.heap.size, 0, none⟩ = some (.int .i64 0) := hS10.rcell 0
      have k1 : (w9.setCell ⟨F, 5, none⟩ (.int .i64 ((q6 : Int) - 3))).cell? ⟨w.heap.size, 1, none⟩ = some (.bool false) := hS10.rcell 1
      have k2 : (w9.setCell ⟨F, 5, none⟩ (.int .i64 ((q6 : Int) - 3))).cell? ⟨w.heap.size, 2, none⟩ = some (.int .i64 0) := hS10.rcell 2
      have k3 : (w9.setCell ⟨F, 5, none⟩ (.int .i64 ((q6 : Int) - 3))).cell? ⟨w.heap.size, 3, none⟩ = some (.int .i64 0) := hS10.rcell 3
      have k4 : (w9.setCell ⟨F, 5, none⟩ (.int .i64 ((q6 : Int) - 3))).cell? ⟨w.heap.size, 4, none⟩ = some (.int .i64 0) := hS10.rcell 4
      have k5 : (w9.setCell ⟨F, 5, none⟩ (.int .i64 ((q6 : Int) - 3))).cell? ⟨w.heap.size, 5, none⟩ = some (.int .i64 0) := hS10.rcell 5
      have k6 : (w9.setCell ⟨F, 5, none⟩ (.int .i64 ((q6 : Int) - 3))).cell? ⟨w.heap.size, 6, none⟩ = some (.slice none 0 0) := hS10.rcell 6
      have f9 := hS9.fz 5
      have r0 := hS10.rfz 0
      have r1 := hS10.rfz 1
      have r2 := hS10.rfz 2
      have r3 := hS10.rfz 3
      have r4 := hS10.rfz 4
      have r5 := hS10.rfz 5
      have r6 := hS10.rfz 6
      have c9 : w9.cell? ⟨F, 5, none⟩ = some (.int .i64 0) := hS9.cell 5
      have hfin := Lib.hid (hS10.out7 (.int .i64 (1 + (q : Int))) (.bool s) (.int .i64 ((q3 : Int) - 10)) (.int .i64 ((q4 : Int) - 20)) (.int .i64 ((q5 : Int) - 3)) (.int .i64 ((q6 : Int) - 3)) (.slice none 0 0))
      clear hS10
      go_wp2_with fail
      refine out (f := 1 + (q : Int)) (m := (q3 : Int) - 10) (b := (q4 : Int) - 20) (k1 := (q5 : Int) - 3) (k2 := (q6 : Int) - 3) (s := s) (v := .slice none 0 0) (p := []) hfin.out ?_ POwn.nil ?_ ?_
      · exact vld_l4 s (by omega) (by omega) (by omega) (by omega) (by omega) (by omega) (by omega) (by omega) (by omega) (by omega)
      · rfl
      · rfl

end Go.Proofs.Ytekhpcfggbegaaa.D5
