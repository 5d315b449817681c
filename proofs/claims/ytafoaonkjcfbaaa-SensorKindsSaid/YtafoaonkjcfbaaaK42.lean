/- Walks: the dice's conversions that are often not valid. -/
import Derived.Test.YtafoaonkjcfbaaaK21
namespace Go.Proofs.Ytafoaonkjcfbaaa.D5
open Go.RowKit Go.Proofs.Ytafoaonkjcfbaaa.Mem Go.Proofs.Ytafoaonkjcfbaaa.F2p Go.Proofs.Ytafoaonkjcfbaaa.Made Go.Proofs.Ytafoaonkjcfbaaa.M3p Go.Proofs.Ytafoaonkjcfbaaa.C4p Go.Proofs.Ytafoaonkjcfbaaa.C4l Go.Proofs.Ytafoaonkjcfbaaa.C4v
set_option maxRecDepth 100000
set_option maxHeartbeats 8000000

/-- What the dice's OddConversion leaves. -/
def Ov (w : World) (g n c : Nat) (A : Option Addr) (l : List Int) (e : Ending) (w' : World) : Prop :=
  ∃ (f m b k1 k2 : Int) (s : Bool) (v : Value) (p : List Pt), e = .returned (.agg #[.int .i64 f, .bool s, .int .i64 m, .int .i64 b, .int .i64 k1, .int .i64 k2, v]) ∧ p.length ≤ 20 ∧ POwn w.heap.size w' v p ∧ Dz w' g A n c l ∧ w.grownBy w' (some g)
theorem vld_few {c : Cv} (h : C4p.vld c = true) : c.p.length ≤ 12 := by
  by_cases h5 : c.f = 5
  · exact (vld_tab h h5).2.1.2
  · rw [(vld_lin h h5).2.2]
    exact Nat.zero_le _
/-- The points' own row is not the conversion's block. -/
theorem pown_ne {base F : Nat} {w : World} {v : Value} {p : List Pt} {cs : Array Value} (h : POwn base w v p) (hc : w.heap[F]? = some (.cells cs 54 (0, 0))) : v.ownBlock ≠ some F := by
  intro e
  rcases h.2 with ⟨rfl, h0⟩ | ⟨k, cap, cur, rfl, hk, hh, -⟩
  · cases e
  · have : k = F := by simpa [Value.ownBlock] using e
    subst this
    rw [hc] at hh
    injection hh with hh
    injection hh with _ ht
    exact absurd ht (by decide)
theorem pown_far {base : Nat} {w w' : World} {v : Value} {p : List Pt} {b : Option Nat} (h : POwn base w v p) (hg : w.grownBy w' b) (hne : v.ownBlock ≠ b) : POwn base w' v p := World.ownsRow.kept h hg (.inr hne)
theorem pvs_set : ∀ (p : List Pt) (z : Nat) (hz : z < p.length) (x : Int), pvs (p.set z (p[z].1, x)) = (pvs p).set (z * 2 + 1) (.int .i64 x)
  | q :: p, 0, _, x => rfl
  | q :: p, z + 1, hz, x => by
    have ih := pvs_set p z (by simpa using hz) x
    rw [show (z + 1) * 2 + 1 = (z * 2 + 1) + 1 + 1 by omega]
    simp only [List.set_cons_succ, pvs, List.getElem_cons_succ, ih]
/-- The own row grows: the conversion's block stays, if the row is another one. -/
theorem St.own {w0 w w' : World} {g n c r F : Nat} {A : Option Addr} {l : List Int} {rs cs : Array Value} {b : Option Nat} (h : St w0 w g n c A l r F rs cs) (hg : w.grownBy w' b) (hb : ∀ k, b = some k → r + 1 ≤ k) (hne : b ≠ some F) : St w0 w' g n c A l r F rs cs :=
  ⟨h.dz.grown hg (fun e => by have := hb _ e; have := h.lo; omega) (fun k hk => by have := hb _ hk; have := h.lo; omega), (hg.block r (lt_of_some h.res) (fun e => by have := hb _ e.symm; omega)).trans h.res,
    (hg.block F (lt_of_some h.cv) (fun e => hne e.symm)).trans h.cv, grown_new h.gr hg (fun k hk => by have := hb _ hk; have := h.lo; omega), h.lo⟩
theorem pown_cell {base g1 n1 c1 z : Nat} {w : World} {p : List Pt} (h : POwn base w (.slice (some ⟨g1, 0, none⟩) n1 c1) p) (hn : n1 = p.length) (hz : z < p.length) : w.cell? ⟨g1, z * 2 + 1, none⟩ = some (.int .i64 p[z].2) ∧ w.frozen? ⟨g1, z * 2 + 1, none⟩ = false := by
  subst hn
  obtain ⟨-, e1⟩ := pvs_get p z hz
  have := World.ownsRow.cells h (g := g1) rfl (z * 2 + 1) _ e1
  rw [add_spot] at this
  exact ⟨this, World.ownsRow.frozenAt h _⟩
theorem pown_store {base g1 n1 c1 z : Nat} {w : World} {p : List Pt} (h : POwn base w (.slice (some ⟨g1, 0, none⟩) n1 c1) p) (hn : n1 = p.length) (hz : z < p.length) (x : Int) : ∃ p7, p7.length = p.length ∧ POwn base (w.setCell ⟨g1, z * 2 + 1, none⟩ (.int .i64 x)) (.slice (some ⟨g1, 0, none⟩) n1 c1) p7 := by
  subst hn
  have hst := (World.ownsRow.stored h (z * 2 + 1) (.int .i64 x)).1
  refine ⟨p.set z (p[z].1, x), List.length_set .., ?_⟩
  unfold POwn
  rw [List.length_set]
  have e : pvs (p.set z (p[z].1, x)) = (pvs p).set (z * 2 + 1) (.int .i64 x) := pvs_set p z hz x
  rw [e]
  exact hst
theorem oout {w0 w : World} {g n c r F : Nat} {A : Option Addr} {l : List Int} {cs : Array Value} {f m b k1 k2 : Int} {s : Bool} {v : Value} {p : List Pt} {a : Act}
    (h : St w0 w g n c A l r F #[.int .i64 f, .bool s, .int .i64 m, .int .i64 b, .int .i64 k1, .int .i64 k2, v] cs) (hv : p.length ≤ 20) (ho : POwn w0.heap.size w v p) (ht : a.tmps[2]? = some (.pointer (some ⟨r, 0, none⟩))) (hd : a.defers = []) :
    bodyPost Try.prog Try.f61 (Ov w0 g n c A l) .ret a w := by
  have e0 : w.cell? ⟨r, 0, none⟩ = some (.int .i64 f) := h.rcell 0
  have e1 : w.cell? ⟨r, 1, none⟩ = some (.bool s) := h.rcell 1
  have e2 : w.cell? ⟨r, 2, none⟩ = some (.int .i64 m) := h.rcell 2
  have e3 : w.cell? ⟨r, 3, none⟩ = some (.int .i64 b) := h.rcell 3
  have e4 : w.cell? ⟨r, 4, none⟩ = some (.int .i64 k1) := h.rcell 4
  have e5 : w.cell? ⟨r, 5, none⟩ = some (.int .i64 k2) := h.rcell 5
  have e6 : w.cell? ⟨r, 6, none⟩ = some v := h.rcell 6
  refine bodyPost_ret (v := .agg #[.int .i64 f, .bool s, .int .i64 m, .int .i64 b, .int .i64 k1, .int .i64 k2, v]) ?_ hd ⟨f, m, b, k1, k2, s, v, p, rfl, hv, ho, h.dz, h.gr⟩
  simp [results, Try.results61, go_sem, ht, e0, e1, e2, e3, e4, e5, e6]
theorem odd_any {w : World} {g n c : Nat} {A : Option Addr} {l : List Int} (h : Dz w g A n c l) :
    Calls Try.prog 61 #[.pointer (some ⟨g, 0, none⟩)] w (Ov w g n c A l) := by
  have hlt := h.lt
  have hal0 := World.grownBy_alloc w (.cells zs 54) (some g)
  have hd0 := h.grown (World.grownBy_alloc w (.cells zs 54) none) (by simp) (fun k hk => by cases hk)
  have hst0 : (w.alloc (.cells zs 54)).heap[w.heap.size]? = some (.cells zs 54 (0, 0)) := heap_alloc_new w _
  clear h
  go_enter Try.func61, Try.ntmps61
  go_wp2_with fail
  refine (conv_any hd0).mono ?_
  rintro e w2 ⟨f, m, b, k1, k2, s, v, p, rfl, hv, ho, hd2, hg2⟩
  have hp := vld_few hv
  dsimp only at hp
  obtain ⟨A1, n1, c1, rfl, hpsl⟩ := ho.sl
  have HN1 := Lib.hid hpsl.len
  have hn12 : n1 ≤ 12 := by rw [hpsl.len]; exact hp
  rw [World.size_alloc] at ho
  have hst2 := (hg2.block w.heap.size (lt_of_some hst0) (fun e => by injection e; omega)).trans hst0
  have hgw2 := grown_trans hal0 hg2
  have hF := lt_of_some hst2
  have hS : St w (w2.alloc (.cells #[.int .i64 f, .bool s, .int .i64 m, .int .i64 b, .int .i64 k1, .int .i64 k2, .slice A1 n1 c1] 54)) g n c A l w.heap.size w2.heap.size zs #[.int .i64 f, .bool s, .int .i64 m, .int .i64 b, .int .i64 k1, .int .i64 k2, .slice A1 n1 c1] :=
    ⟨hd2.grown (World.grownBy_alloc w2 _ none) (by simp) (fun k hk => by cases hk), (Below.heap_alloc w2 _ _ hF).trans hst2, heap_alloc_new w2 _, grown_trans hgw2 (World.grownBy_alloc w2 _ (some g)), Nat.le_refl _, hF, hlt⟩
  have ho1 : POwn (w.heap.size + 1) (w2.alloc (.cells #[.int .i64 f, .bool s, .int .i64 m, .int .i64 b, .int .i64 k1, .int .i64 k2, .slice A1 n1 c1] 54)) (.slice A1 n1 c1) p := World.ownsRow.alloc ho _
  clear hd0 hal0 hst0 hd2 hst2 hgw2 hg2 ho hpsl hv
  go_wp2_with fail
  generalize w2.heap.size = F at *
  generalize w2.alloc (.cells #[.int .i64 f, .bool s, .int .i64 m, .int .i64 b, .int .i64 k1, .int .i64 k2, .slice A1 n1 c1] 54) = w4 at *
  refine (hS.next 8 (by omega) (by omega)).mono ?_
  rintro e w5 ⟨q, hq, rfl, hS5, hg5⟩
  have ho5 := pown_kept ho1 hg5 (by omega)
  clear hS ho1 hg5
  by_cases h0 : q = 0
  · subst h0
    go_wp2_with fail
    refine (hS5.next 8 (by omega) (by omega)).mono ?_
    rintro e w6 ⟨z, hz, rfl, hS6, hg6⟩
    have ho6 := pown_kept ho5 hg6 (by omega)
    have x0 : w6.cell? ⟨F, 0, none⟩ = some (.int .i64 f) := hS6.cell 0
    have x1 := hS6.fz 0
    have hS7 := hS6.set 0 (.int .i64 ((z : Int) - 1))
    rw [set0] at hS7
    have ho7 := pown_far ho6 (set_grown w6 F 0 (.int .i64 ((z : Int) - 1))) (pown_ne ho6 hS6.cv)
    have a0 : (w6.setCell ⟨F, 0, none⟩ (.int .i64 ((z : Int) - 1))).cell? ⟨F, 0, none⟩ = some (.int .i64 ((z : Int) - 1)) := hS7.cell 0
    have a1 : (w6.setCell ⟨F, 0, none⟩ (.int .i64 ((z : Int) - 1))).cell? ⟨F, 1, none⟩ = some (.bool s) := hS7.cell 1
    have a2 : (w6.setCell ⟨F, 0, none⟩ (.int .i64 ((z : Int) - 1))).cell? ⟨F, 2, none⟩ = some (.int .i64 m) := hS7.cell 2
    have a3 : (w6.setCell ⟨F, 0, none⟩ (.int .i64 ((z : Int) - 1))).cell? ⟨F, 3, none⟩ = some (.int .i64 b) := hS7.cell 3
    have a4 : (w6.setCell ⟨F, 0, none⟩ (.int .i64 ((z : Int) - 1))).cell? ⟨F, 4, none⟩ = some (.int .i64 k1) := hS7.cell 4
    have a5 : (w6.setCell ⟨F, 0, none⟩ (.int .i64 ((z : Int) - 1))).cell? ⟨F, 5, none⟩ = some (.int .i64 k2) := hS7.cell 5
    have a6 : (w6.setCell ⟨F, 0, none⟩ (.int .i64 ((z : Int) - 1))).cell? ⟨F, 6, none⟩ = some (.slice A1 n1 c1) := hS7.cell 6
    have z0 : (w6.setCell ⟨F, 0, none⟩ (.int .i64 ((z : Int) - 1))).cell? ⟨w.heap.size, 0, none⟩ = some (.int .i64 0) := hS7.rcell 0
    have z1 : (w6.setCell ⟨F, 0, none⟩ (.int .i64 ((z : Int) - 1))).cell? ⟨w.heap.size, 1, none⟩ = some (.bool false) := hS7.rcell 1
    have z2 : (w6.setCell ⟨F, 0, none⟩ (.int .i64 ((z : Int) - 1))).cell? ⟨w.heap.size, 2, none⟩ = some (.int .i64 0) := hS7.rcell 2
    have z3 : (w6.setCell ⟨F, 0, none⟩ (.int .i64 ((z : Int) - 1))).cell? ⟨w.heap.size, 3, none⟩ = some (.int .i64 0) := hS7.rcell 3
    have z4 : (w6.setCell ⟨F, 0, none⟩ (.int .i64 ((z : Int) - 1))).cell? ⟨w.heap.size, 4, none⟩ = some (.int .i64 0) := hS7.rcell 4
    have z5 : (w6.setCell ⟨F, 0, none⟩ (.int .i64 ((z : Int) - 1))).cell? ⟨w.heap.size, 5, none⟩ = some (.int .i64 0) := hS7.rcell 5
    have z6 : (w6.setCell ⟨F, 0, none⟩ (.int .i64 ((z : Int) - 1))).cell? ⟨w.heap.size, 6, none⟩ = some (.slice none 0 0) := hS7.rcell 6
    have y0 := hS7.rfz 0
    have y1 := hS7.rfz 1
    have y2 := hS7.rfz 2
    have y3 := hS7.rfz 3
    have y4 := hS7.rfz 4
    have y5 := hS7.rfz 5
    have y6 := hS7.rfz 6
    have hfin := Lib.hid (hS7.out7 (.int .i64 ((z : Int) - 1)) (.bool s) (.int .i64 m) (.int .i64 b) (.int .i64 k1) (.int .i64 k2) (.slice A1 n1 c1))
    have hO7 := Lib.hid (pown_out7 (r := w.heap.size) ho7 (Nat.lt_succ_self _) (.int .i64 ((z : Int) - 1)) (.bool s) (.int .i64 m) (.int .i64 b) (.int .i64 k1) (.int .i64 k2) (.slice A1 n1 c1))
    clear hS5 ho5 hg6 hS6 ho6 hS7 ho7
    go_wp2_with fail
    refine oout (f := ((z : Int) - 1)) (m := m) (b := b) (k1 := k1) (k2 := k2) (s := s) (v := .slice A1 n1 c1) (p := p) hfin.out (by omega) (pown_out hO7.out) ?_ ?_
    · rfl
    · rfl
  have t0 : ((q : Int) == 0) = false := by rw [beq_eq_false_iff_ne]; omega
  by_cases h1 : q = 1
  · subst h1
    go_wp2_with fail
    refine (hS5.next 1100 (by omega) (by omega)).mono ?_
    rintro e w6 ⟨z, hz, rfl, hS6, hg6⟩
    have ho6 := pown_kept ho5 hg6 (by omega)
    have x0 : w6.cell? ⟨F, 2, none⟩ = some (.int .i64 m) := hS6.cell 2
    have x1 := hS6.fz 2
    have hS7 := hS6.set 2 (.int .i64 ((z : Int) - 550))
    rw [set2] at hS7
    have ho7 := pown_far ho6 (set_grown w6 F 2 (.int .i64 ((z : Int) - 550))) (pown_ne ho6 hS6.cv)
    have a0 : (w6.setCell ⟨F, 2, none⟩ (.int .i64 ((z : Int) - 550))).cell? ⟨F, 0, none⟩ = some (.int .i64 f) := hS7.cell 0
    have a1 : (w6.setCell ⟨F, 2, none⟩ (.int .i64 ((z : Int) - 550))).cell? ⟨F, 1, none⟩ = some (.bool s) := hS7.cell 1
    have a2 : (w6.setCell ⟨F, 2, none⟩ (.int .i64 ((z : Int) - 550))).cell? ⟨F, 2, none⟩ = some (.int .i64 ((z : Int) - 550)) := hS7.cell 2
    have a3 : (w6.setCell ⟨F, 2, none⟩ (.int .i64 ((z : Int) - 550))).cell? ⟨F, 3, none⟩ = some (.int .i64 b) := hS7.cell 3
    have a4 : (w6.setCell ⟨F, 2, none⟩ (.int .i64 ((z : Int) - 550))).cell? ⟨F, 4, none⟩ = some (.int .i64 k1) := hS7.cell 4
    have a5 : (w6.setCell ⟨F, 2, none⟩ (.int .i64 ((z : Int) - 550))).cell? ⟨F, 5, none⟩ = some (.int .i64 k2) := hS7.cell 5
    have a6 : (w6.setCell ⟨F, 2, none⟩ (.int .i64 ((z : Int) - 550))).cell? ⟨F, 6, none⟩ = some (.slice A1 n1 c1) := hS7.cell 6
    have z0 : (w6.setCell ⟨F, 2, none⟩ (.int .i64 ((z : Int) - 550))).cell? ⟨w.heap.size, 0, none⟩ = some (.int .i64 0) := hS7.rcell 0
    have z1 : (w6.setCell ⟨F, 2, none⟩ (.int .i64 ((z : Int) - 550))).cell? ⟨w.heap.size, 1, none⟩ = some (.bool false) := hS7.rcell 1
    have z2 : (w6.setCell ⟨F, 2, none⟩ (.int .i64 ((z : Int) - 550))).cell? ⟨w.heap.size, 2, none⟩ = some (.int .i64 0) := hS7.rcell 2
    have z3 : (w6.setCell ⟨F, 2, none⟩ (.int .i64 ((z : Int) - 550))).cell? ⟨w.heap.size, 3, none⟩ = some (.int .i64 0) := hS7.rcell 3
    have z4 : (w6.setCell ⟨F, 2, none⟩ (.int .i64 ((z : Int) - 550))).cell? ⟨w.heap.size, 4, none⟩ = some (.int .i64 0) := hS7.rcell 4
    have z5 : (w6.setCell ⟨F, 2, none⟩ (.int .i64 ((z : Int) - 550))).cell? ⟨w.heap.size, 5, none⟩ = some (.int .i64 0) := hS7.rcell 5
    have z6 : (w6.setCell ⟨F, 2, none⟩ (.int .i64 ((z : Int) - 550))).cell? ⟨w.heap.size, 6, none⟩ = some (.slice none 0 0) := hS7.rcell 6
    have y0 := hS7.rfz 0
    have y1 := hS7.rfz 1
    have y2 := hS7.rfz 2
    have y3 := hS7.rfz 3
    have y4 := hS7.rfz 4
    have y5 := hS7.rfz 5
    have y6 := hS7.rfz 6
    have hfin := Lib.hid (hS7.out7 (.int .i64 f) (.bool s) (.int .i64 ((z : Int) - 550)) (.int .i64 b) (.int .i64 k1) (.int .i64 k2) (.slice A1 n1 c1))
    have hO7 := Lib.hid (pown_out7 (r := w.heap.size) ho7 (Nat.lt_succ_self _) (.int .i64 f) (.bool s) (.int .i64 ((z : Int) - 550)) (.int .i64 b) (.int .i64 k1) (.int .i64 k2) (.slice A1 n1 c1))
    clear hS5 ho5 hg6 hS6 ho6 hS7 ho7
    go_wp2_with fail
    refine oout (f := f) (m := ((z : Int) - 550)) (b := b) (k1 := k1) (k2 := k2) (s := s) (v := .slice A1 n1 c1) (p := p) hfin.out (by omega) (pown_out hO7.out) ?_ ?_
    · rfl
    · rfl
  have t1 : ((q : Int) == 1) = false := by rw [beq_eq_false_iff_ne]; omega
  by_cases h2 : q = 2
  · subst h2
    go_wp2_with fail
    refine (hS5.next 10 (by omega) (by omega)).mono ?_
    rintro e w6 ⟨z, hz, rfl, hS6, hg6⟩
    have ho6 := pown_kept ho5 hg6 (by omega)
    have x0 : w6.cell? ⟨F, 4, none⟩ = some (.int .i64 k1) := hS6.cell 4
    have x1 := hS6.fz 4
    have hS7 := hS6.set 4 (.int .i64 ((z : Int) - 5))
    rw [set4] at hS7
    have ho7 := pown_far ho6 (set_grown w6 F 4 (.int .i64 ((z : Int) - 5))) (pown_ne ho6 hS6.cv)
    have a0 : (w6.setCell ⟨F, 4, none⟩ (.int .i64 ((z : Int) - 5))).cell? ⟨F, 0, none⟩ = some (.int .i64 f) := hS7.cell 0
    have a1 : (w6.setCell ⟨F, 4, none⟩ (.int .i64 ((z : Int) - 5))).cell? ⟨F, 1, none⟩ = some (.bool s) := hS7.cell 1
    have a2 : (w6.setCell ⟨F, 4, none⟩ (.int .i64 ((z : Int) - 5))).cell? ⟨F, 2, none⟩ = some (.int .i64 m) := hS7.cell 2
    have a3 : (w6.setCell ⟨F, 4, none⟩ (.int .i64 ((z : Int) - 5))).cell? ⟨F, 3, none⟩ = some (.int .i64 b) := hS7.cell 3
    have a4 : (w6.setCell ⟨F, 4, none⟩ (.int .i64 ((z : Int) - 5))).cell? ⟨F, 4, none⟩ = some (.int .i64 ((z : Int) - 5)) := hS7.cell 4
    have a5 : (w6.setCell ⟨F, 4, none⟩ (.int .i64 ((z : Int) - 5))).cell? ⟨F, 5, none⟩ = some (.int .i64 k2) := hS7.cell 5
    have a6 : (w6.setCell ⟨F, 4, none⟩ (.int .i64 ((z : Int) - 5))).cell? ⟨F, 6, none⟩ = some (.slice A1 n1 c1) := hS7.cell 6
    have z0 : (w6.setCell ⟨F, 4, none⟩ (.int .i64 ((z : Int) - 5))).cell? ⟨w.heap.size, 0, none⟩ = some (.int .i64 0) := hS7.rcell 0
    have z1 : (w6.setCell ⟨F, 4, none⟩ (.int .i64 ((z : Int) - 5))).cell? ⟨w.heap.size, 1, none⟩ = some (.bool false) := hS7.rcell 1
    have z2 : (w6.setCell ⟨F, 4, none⟩ (.int .i64 ((z : Int) - 5))).cell? ⟨w.heap.size, 2, none⟩ = some (.int .i64 0) := hS7.rcell 2
    have z3 : (w6.setCell ⟨F, 4, none⟩ (.int .i64 ((z : Int) - 5))).cell? ⟨w.heap.size, 3, none⟩ = some (.int .i64 0) := hS7.rcell 3
    have z4 : (w6.setCell ⟨F, 4, none⟩ (.int .i64 ((z : Int) - 5))).cell? ⟨w.heap.size, 4, none⟩ = some (.int .i64 0) := hS7.rcell 4
    have z5 : (w6.setCell ⟨F, 4, none⟩ (.int .i64 ((z : Int) - 5))).cell? ⟨w.heap.size, 5, none⟩ = some (.int .i64 0) := hS7.rcell 5
    have z6 : (w6.setCell ⟨F, 4, none⟩ (.int .i64 ((z : Int) - 5))).cell? ⟨w.heap.size, 6, none⟩ = some (.slice none 0 0) := hS7.rcell 6
    have y0 := hS7.rfz 0
    have y1 := hS7.rfz 1
    have y2 := hS7.rfz 2
    have y3 := hS7.rfz 3
    have y4 := hS7.rfz 4
    have y5 := hS7.rfz 5
    have y6 := hS7.rfz 6
    have hfin := Lib.hid (hS7.out7 (.int .i64 f) (.bool s) (.int .i64 m) (.int .i64 b) (.int .i64 ((z : Int) - 5)) (.int .i64 k2) (.slice A1 n1 c1))
    have hO7 := Lib.hid (pown_out7 (r := w.heap.size) ho7 (Nat.lt_succ_self _) (.int .i64 f) (.bool s) (.int .i64 m) (.int .i64 b) (.int .i64 ((z : Int) - 5)) (.int .i64 k2) (.slice A1 n1 c1))
    clear hS5 ho5 hg6 hS6 ho6 hS7 ho7
    go_wp2_with fail
    refine oout (f := f) (m := m) (b := b) (k1 := ((z : Int) - 5)) (k2 := k2) (s := s) (v := .slice A1 n1 c1) (p := p) hfin.out (by omega) (pown_out hO7.out) ?_ ?_
    · rfl
    · rfl
  have t2 : ((q : Int) == 2) = false := by rw [beq_eq_false_iff_ne]; omega
  by_cases h3 : q = 3
  · subst h3
    have k0 : w5.cell? ⟨F, 6, none⟩ = some (.slice A1 n1 c1) := hS5.cell 6
    have hSd := hS5.drew
    have k0d : w5.drew.cell? ⟨F, 6, none⟩ = some (.slice A1 n1 c1) := hSd.cell 6
    have hod : POwn (w.heap.size + 1) w5.drew (.slice A1 n1 c1) p := World.ownsRow.drew ho5
    have HBY := Lib.hid hSd.dz.byte
    have HSD := Lib.hid hSd
    have HOD := Lib.hid hod
    have hFg := hS5.lo
    clear hSd hod hS5 ho5
    go_wp2_with fail
    go_region_law (first
      | (go_simp; go_at_call 27; refine (HBY.out).mono ?_; rintro e w6 ⟨y, rfl, hd6, hg6⟩; have hS6 := HSD.out.step hd6 hg6; have ho6 := pown_kept HOD.out hg6 (by omega); have k6 : w6.cell? ⟨F, 6, none⟩ = some (.slice A1 n1 c1) := hS6.cell 6; have HMI := Lib.hid hS6.dz.micro)
      | (go_simp; go_at_call 101; refine (HMI.out).mono ?_; rintro e w7 ⟨m1, rfl, hm1, hd7, hg7⟩; have hS7 := hS6.step hd7 hg7; have hown7 := pown_kept ho6 hg7 (by omega); have k7 : w7.cell? ⟨F, 6, none⟩ = some (.slice A1 n1 c1) := hS7.cell 6; have hsz7 := lt_of_some hS7.cv)
      | (go_loud (refine step_append_p (w7.alloc (.cells #[.int .u8 (y.toNat : Int), .int .i64 m1] 150)) rfl (.tmp 29) (.tmp 35) rfl (w.heap.size + 1) (.slice A1 n1 c1) p rfl (World.ownsRow.alloc hown7 _) y m1 ⟨w7.heap.size, 0, none⟩ 1 rfl (cell_of_row _ w7.heap.size 0 _ _ _ (heap_alloc_new w7 _)) (cell_of_row _ w7.heap.size 1 _ _ _ (heap_alloc_new w7 _)) (by omega) (by rw [World.size_alloc]; omega) ?_); intro v9 w9 hown9 hg9; obtain ⟨A9, n9, c9, rfl, -⟩ := hown9.sl; have hS8 := hS7.far (World.grownBy_alloc w7 (.cells #[.int .u8 (y.toNat : Int), .int .i64 m1] 150) none) (fun k hk => (by cases hk)); have hne9 := pown_ne (World.ownsRow.alloc hown7 (.cells #[.int .u8 (y.toNat : Int), .int .i64 m1] 150)) hS8.cv; have hS9 := hS8.own hg9 (fun k hk => (World.ownsRow.lt (World.ownsRow.alloc hown7 (.cells #[.int .u8 (y.toNat : Int), .int .i64 m1] 150)) _ hk).1) hne9; have k9 : w9.cell? ⟨F, 6, none⟩ = some (.slice A1 n1 c1) := hS9.cell 6; have f9 := hS9.fz 6))
    all_goals
      have hS10 := hS9.set 6 (.slice A9 n9 c9)
      rw [set6] at hS10
      have ho10 := pown_far hown9 (set_grown w9 F 6 (.slice A9 n9 c9)) (pown_ne hown9 hS9.cv)
      have a0 : (w9.setCell ⟨F, 6, none⟩ (.slice A9 n9 c9)).cell? ⟨F, 0, none⟩ = some (.int .i64 f) := hS10.cell 0
      have a1 : (w9.setCell ⟨F, 6, none⟩ (.slice A9 n9 c9)).cell? ⟨F, 1, none⟩ = some (.bool s) := hS10.cell 1
      have a2 : (w9.setCell ⟨F, 6, none⟩ (.slice A9 n9 c9)).cell? ⟨F, 2, none⟩ = some (.int .i64 m) := hS10.cell 2
      have a3 : (w9.setCell ⟨F, 6, none⟩ (.slice A9 n9 c9)).cell? ⟨F, 3, none⟩ = some (.int .i64 b) := hS10.cell 3
      have a4 : (w9.setCell ⟨F, 6, none⟩ (.slice A9 n9 c9)).cell? ⟨F, 4, none⟩ = some (.int .i64 k1) := hS10.cell 4
      have a5 : (w9.setCell ⟨F, 6, none⟩ (.slice A9 n9 c9)).cell? ⟨F, 5, none⟩ = some (.int .i64 k2) := hS10.cell 5
      have a6 : (w9.setCell ⟨F, 6, none⟩ (.slice A9 n9 c9)).cell? ⟨F, 6, none⟩ = some (.slice A9 n9 c9) := hS10.cell 6
      have z0 : (w9.setCell ⟨F, 6, none⟩ (.slice A9 n9 c9)).cell? ⟨w.heap.size, 0, none⟩ = some (.int .i64 0) := hS10.rcell 0
      have z1 : (w9.setCell ⟨F, 6, none⟩ (.slice A9 n9 c9)).cell? ⟨w.heap.size, 1, none⟩ = some (.bool false) := hS10.rcell 1
      have z2 : (w9.setCell ⟨F, 6, none⟩ (.slice A9 n9 c9)).cell? ⟨w.heap.size, 2, none⟩ = some (.int .i64 0) := hS10.rcell 2
      have z3 : (w9.setCell ⟨F, 6, none⟩ (.slice A9 n9 c9)).cell? ⟨w.heap.size, 3, none⟩ = some (.int .i64 0) := hS10.rcell 3
      have z4 : (w9.setCell ⟨F, 6, none⟩ (.slice A9 n9 c9)).cell? ⟨w.heap.size, 4, none⟩ = some (.int .i64 0) := hS10.rcell 4
      have z5 : (w9.setCell ⟨F, 6, none⟩ (.slice A9 n9 c9)).cell? ⟨w.heap.size, 5, none⟩ = some (.int .i64 0) := hS10.rcell 5
      have z6 : (w9.setCell ⟨F, 6, none⟩ (.slice A9 n9 c9)).cell? ⟨w.heap.size, 6, none⟩ = some (.slice none 0 0) := hS10.rcell 6
      have y0 := hS10.rfz 0
      have y1 := hS10.rfz 1
      have y2 := hS10.rfz 2
      have y3 := hS10.rfz 3
      have y4 := hS10.rfz 4
      have y5 := hS10.rfz 5
      have y6 := hS10.rfz 6
      have hfin := Lib.hid (hS10.out7 (.int .i64 f) (.bool s) (.int .i64 m) (.int .i64 b) (.int .i64 k1) (.int .i64 k2) (.slice A9 n9 c9))
      have hO7 := Lib.hid (pown_out7 (r := w.heap.size) ho10 (Nat.lt_succ_self _) (.int .i64 f) (.bool s) (.int .i64 m) (.int .i64 b) (.int .i64 k1) (.int .i64 k2) (.slice A9 n9 c9))
      clear hS10 ho10 hS9 hown9 hg9 hS8 hS7 hown7 hd7 hg7 hS6 ho6 hd6 hg6 k9 f9 k7 k6 k0 k0d hsz7 hne9 HMI
      go_wp2_with fail
      refine oout (f := f) (m := m) (b := b) (k1 := k1) (k2 := k2) (s := s) (v := .slice A9 n9 c9) (p := p ++ [(y, m1)]) hfin.out (by rw [List.length_append]; simp; omega) (pown_out hO7.out) ?_ ?_
      · rfl
      · rfl
  have t3 : ((q : Int) == 3) = false := by rw [beq_eq_false_iff_ne]; omega
  by_cases h4 : q = 4
  case neg =>
    have t4 : ((q : Int) == 4) = false := by rw [beq_eq_false_iff_ne]; exact fun e => h4 (by omega)
    have a0 : (w5).cell? ⟨F, 0, none⟩ = some (.int .i64 f) := hS5.cell 0
    have a1 : (w5).cell? ⟨F, 1, none⟩ = some (.bool s) := hS5.cell 1
    have a2 : (w5).cell? ⟨F, 2, none⟩ = some (.int .i64 m) := hS5.cell 2
    have a3 : (w5).cell? ⟨F, 3, none⟩ = some (.int .i64 b) := hS5.cell 3
    have a4 : (w5).cell? ⟨F, 4, none⟩ = some (.int .i64 k1) := hS5.cell 4
    have a5 : (w5).cell? ⟨F, 5, none⟩ = some (.int .i64 k2) := hS5.cell 5
    have a6 : (w5).cell? ⟨F, 6, none⟩ = some (.slice A1 n1 c1) := hS5.cell 6
    have z0 : (w5).cell? ⟨w.heap.size, 0, none⟩ = some (.int .i64 0) := hS5.rcell 0
    have z1 : (w5).cell? ⟨w.heap.size, 1, none⟩ = some (.bool false) := hS5.rcell 1
    have z2 : (w5).cell? ⟨w.heap.size, 2, none⟩ = some (.int .i64 0) := hS5.rcell 2
    have z3 : (w5).cell? ⟨w.heap.size, 3, none⟩ = some (.int .i64 0) := hS5.rcell 3
    have z4 : (w5).cell? ⟨w.heap.size, 4, none⟩ = some (.int .i64 0) := hS5.rcell 4
    have z5 : (w5).cell? ⟨w.heap.size, 5, none⟩ = some (.int .i64 0) := hS5.rcell 5
    have z6 : (w5).cell? ⟨w.heap.size, 6, none⟩ = some (.slice none 0 0) := hS5.rcell 6
    have y0 := hS5.rfz 0
    have y1 := hS5.rfz 1
    have y2 := hS5.rfz 2
    have y3 := hS5.rfz 3
    have y4 := hS5.rfz 4
    have y5 := hS5.rfz 5
    have y6 := hS5.rfz 6
    have hfin := Lib.hid (hS5.out7 (.int .i64 f) (.bool s) (.int .i64 m) (.int .i64 b) (.int .i64 k1) (.int .i64 k2) (.slice A1 n1 c1))
    have hO7 := Lib.hid (pown_out7 (r := w.heap.size) ho5 (Nat.lt_succ_self _) (.int .i64 f) (.bool s) (.int .i64 m) (.int .i64 b) (.int .i64 k1) (.int .i64 k2) (.slice A1 n1 c1))
    clear hS5 ho5
    go_wp2_with fail
    refine oout (f := f) (m := m) (b := b) (k1 := k1) (k2 := k2) (s := s) (v := .slice A1 n1 c1) (p := p) hfin.out (by omega) (pown_out hO7.out) ?_ ?_
    · rfl
    · rfl
  subst h4
  clear t0 t1 t2 t3
  by_cases hz0 : n1 = 0
  · subst hz0
    have a0 : (w5).cell? ⟨F, 0, none⟩ = some (.int .i64 f) := hS5.cell 0
    have a1 : (w5).cell? ⟨F, 1, none⟩ = some (.bool s) := hS5.cell 1
    have a2 : (w5).cell? ⟨F, 2, none⟩ = some (.int .i64 m) := hS5.cell 2
    have a3 : (w5).cell? ⟨F, 3, none⟩ = some (.int .i64 b) := hS5.cell 3
    have a4 : (w5).cell? ⟨F, 4, none⟩ = some (.int .i64 k1) := hS5.cell 4
    have a5 : (w5).cell? ⟨F, 5, none⟩ = some (.int .i64 k2) := hS5.cell 5
    have a6 : (w5).cell? ⟨F, 6, none⟩ = some (.slice A1 0 c1) := hS5.cell 6
    have z0 : (w5).cell? ⟨w.heap.size, 0, none⟩ = some (.int .i64 0) := hS5.rcell 0
    have z1 : (w5).cell? ⟨w.heap.size, 1, none⟩ = some (.bool false) := hS5.rcell 1
    have z2 : (w5).cell? ⟨w.heap.size, 2, none⟩ = some (.int .i64 0) := hS5.rcell 2
    have z3 : (w5).cell? ⟨w.heap.size, 3, none⟩ = some (.int .i64 0) := hS5.rcell 3
    have z4 : (w5).cell? ⟨w.heap.size, 4, none⟩ = some (.int .i64 0) := hS5.rcell 4
    have z5 : (w5).cell? ⟨w.heap.size, 5, none⟩ = some (.int .i64 0) := hS5.rcell 5
    have z6 : (w5).cell? ⟨w.heap.size, 6, none⟩ = some (.slice none 0 0) := hS5.rcell 6
    have y0 := hS5.rfz 0
    have y1 := hS5.rfz 1
    have y2 := hS5.rfz 2
    have y3 := hS5.rfz 3
    have y4 := hS5.rfz 4
    have y5 := hS5.rfz 5
    have y6 := hS5.rfz 6
    have hfin := Lib.hid (hS5.out7 (.int .i64 f) (.bool s) (.int .i64 m) (.int .i64 b) (.int .i64 k1) (.int .i64 k2) (.slice A1 0 c1))
    have hO7 := Lib.hid (pown_out7 (r := w.heap.size) ho5 (Nat.lt_succ_self _) (.int .i64 f) (.bool s) (.int .i64 m) (.int .i64 b) (.int .i64 k1) (.int .i64 k2) (.slice A1 0 c1))
    clear hS5 ho5
    go_wp2_with fail
    refine oout (f := f) (m := m) (b := b) (k1 := k1) (k2 := k2) (s := s) (v := .slice A1 0 c1) (p := p) hfin.out (by omega) (pown_out hO7.out) ?_ ?_
    · rfl
    · rfl
  · have hg0 : 0 < n1 := by omega
    obtain ⟨g1, rfl, hg1lt⟩ : ∃ g1, A1 = some ⟨g1, 0, none⟩ ∧ w.heap.size + 1 ≤ g1 := by
      rcases ho5.2 with ⟨e, h0⟩ | ⟨g1, cap, cur, e, hk, hh, -⟩
      · injection e with _ e2 _
        omega
      · injection e with e1 e2 e3
        exact ⟨g1, e1, hk⟩
    have k0 : w5.cell? ⟨F, 6, none⟩ = some (.slice (some ⟨g1, 0, none⟩) n1 c1) := hS5.cell 6
    have hSd := hS5.drew
    have k0d : w5.drew.cell? ⟨F, 6, none⟩ = some (.slice (some ⟨g1, 0, none⟩) n1 c1) := hSd.cell 6
    have hod : POwn (w.heap.size + 1) w5.drew (.slice (some ⟨g1, 0, none⟩) n1 c1) p := World.ownsRow.drew ho5
    have HNX := Lib.hid (hSd.next n1 (by omega) (by omega))
    have HOD := Lib.hid hod
    have hFg := hS5.lo
    have hn63 : n1 ≤ 12 := hn12
    clear hSd hod hS5 ho5
    go_wp2_with fail
    go_region_held3 (fun w' => w'.cell? ⟨F, 6, none⟩ = some (.slice (some ⟨g1, 0, none⟩) n1 c1)) (first | exact k0 | exact k0d | exact k6 | exact k7 | go_keep)
      (first
        | (go_at_call 32; refine (HNX.out).mono ?_; rintro e w6 ⟨z, hz, rfl, hS6, hg6⟩; have ho6 := pown_kept HOD.out hg6 (by omega); have k6 : w6.cell? ⟨F, 6, none⟩ = some (.slice (some ⟨g1, 0, none⟩) n1 c1) := hS6.cell 6; obtain ⟨kc, kf⟩ := pown_cell ho6 HN1.out (show z < p.length by rw [← HN1.out]; exact hz); have hne6 := pown_ne ho6 hS6.cv; have hS7 := hS6.own (set_grown w6 g1 (z * 2 + 1) (.int .i64 1000000000001)) (fun k hk => (by injection hk; omega)) (fun e => hne6 (by rw [← e]; rfl)); have k7 : (w6.setCell ⟨g1, z * 2 + 1, none⟩ (.int .i64 1000000000001)).cell? ⟨F, 6, none⟩ = some (.slice (some ⟨g1, 0, none⟩) n1 c1) := hS7.cell 6))
    all_goals
      obtain ⟨p7, hp7, ho7⟩ := pown_store ho6 HN1.out (show z < p.length by rw [← HN1.out]; exact hz) 1000000000001
      have a0 : (w6.setCell ⟨g1, z * 2 + 1, none⟩ (.int .i64 1000000000001)).cell? ⟨F, 0, none⟩ = some (.int .i64 f) := hS7.cell 0
      have a1 : (w6.setCell ⟨g1, z * 2 + 1, none⟩ (.int .i64 1000000000001)).cell? ⟨F, 1, none⟩ = some (.bool s) := hS7.cell 1
      have a2 : (w6.setCell ⟨g1, z * 2 + 1, none⟩ (.int .i64 1000000000001)).cell? ⟨F, 2, none⟩ = some (.int .i64 m) := hS7.cell 2
      have a3 : (w6.setCell ⟨g1, z * 2 + 1, none⟩ (.int .i64 1000000000001)).cell? ⟨F, 3, none⟩ = some (.int .i64 b) := hS7.cell 3
      have a4 : (w6.setCell ⟨g1, z * 2 + 1, none⟩ (.int .i64 1000000000001)).cell? ⟨F, 4, none⟩ = some (.int .i64 k1) := hS7.cell 4
      have a5 : (w6.setCell ⟨g1, z * 2 + 1, none⟩ (.int .i64 1000000000001)).cell? ⟨F, 5, none⟩ = some (.int .i64 k2) := hS7.cell 5
      have a6 : (w6.setCell ⟨g1, z * 2 + 1, none⟩ (.int .i64 1000000000001)).cell? ⟨F, 6, none⟩ = some (.slice (some ⟨g1, 0, none⟩) n1 c1) := hS7.cell 6
      have z0 : (w6.setCell ⟨g1, z * 2 + 1, none⟩ (.int .i64 1000000000001)).cell? ⟨w.heap.size, 0, none⟩ = some (.int .i64 0) := hS7.rcell 0
      have z1 : (w6.setCell ⟨g1, z * 2 + 1, none⟩ (.int .i64 1000000000001)).cell? ⟨w.heap.size, 1, none⟩ = some (.bool false) := hS7.rcell 1
      have z2 : (w6.setCell ⟨g1, z * 2 + 1, none⟩ (.int .i64 1000000000001)).cell? ⟨w.heap.size, 2, none⟩ = some (.int .i64 0) := hS7.rcell 2
      have z3 : (w6.setCell ⟨g1, z * 2 + 1, none⟩ (.int .i64 1000000000001)).cell? ⟨w.heap.size, 3, none⟩ = some (.int .i64 0) := hS7.rcell 3
      have z4 : (w6.setCell ⟨g1, z * 2 + 1, none⟩ (.int .i64 1000000000001)).cell? ⟨w.heap.size, 4, none⟩ = some (.int .i64 0) := hS7.rcell 4
      have z5 : (w6.setCell ⟨g1, z * 2 + 1, none⟩ (.int .i64 1000000000001)).cell? ⟨w.heap.size, 5, none⟩ = some (.int .i64 0) := hS7.rcell 5
      have z6 : (w6.setCell ⟨g1, z * 2 + 1, none⟩ (.int .i64 1000000000001)).cell? ⟨w.heap.size, 6, none⟩ = some (.slice none 0 0) := hS7.rcell 6
      have y0 := hS7.rfz 0
      have y1 := hS7.rfz 1
      have y2 := hS7.rfz 2
      have y3 := hS7.rfz 3
      have y4 := hS7.rfz 4
      have y5 := hS7.rfz 5
      have y6 := hS7.rfz 6
      have hfin := Lib.hid (hS7.out7 (.int .i64 f) (.bool s) (.int .i64 m) (.int .i64 b) (.int .i64 k1) (.int .i64 k2) (.slice (some ⟨g1, 0, none⟩) n1 c1))
      have hO7 := Lib.hid (pown_out7 (r := w.heap.size) ho7 (Nat.lt_succ_self _) (.int .i64 f) (.bool s) (.int .i64 m) (.int .i64 b) (.int .i64 k1) (.int .i64 k2) (.slice (some ⟨g1, 0, none⟩) n1 c1))
      clear hS7 ho7 hS6 ho6 hg6 k6 k7 k0 k0d kc kf hne6
      go_wp2_with fail
      refine oout (f := f) (m := m) (b := b) (k1 := k1) (k2 := k2) (s := s) (v := .slice (some ⟨g1, 0, none⟩) n1 c1) (p := p7) hfin.out (by omega) (pown_out hO7.out) ?_ ?_
      · rfl
      · rfl
end Go.Proofs.Ytafoaonkjcfbaaa.D5
