/- Walks: the program's sensor records: what stands behind the name of a discrete one. -/
import Derived.Test.YtafoaonkjcfbaaaK54
import Derived.Test.YtafoaonkjcfbaaaK27
namespace Go.Proofs.Ytafoaonkjcfbaaa.Ua
open Go.RowKit Go.Proofs.Ytafoaonkjcfbaaa.Mem Go.Proofs.Ytafoaonkjcfbaaa.F2p Go.Proofs.Ytafoaonkjcfbaaa.C4l Go.Proofs.Ytafoaonkjcfbaaa.Ta Go.Proofs.Ytafoaonkjcfbaaa.Tb
set_option maxRecDepth 100000
set_option maxHeartbeats 1000000

theorem oneC (s : Sn) (V : Value) (hV : V.oneCell' = true) : (cells s V).all (·.oneCell') = true := one_cells s V hV
/-- A function's end with a record in a block and an error. -/
theorem out2 {p q : Tmp} {a : Act} {w : World} {r : Nat} {s : Sn} {V v : Value} {Q : Ending → World → Prop} {fn : Func} (hr : fn.results = #[.cell p 59, .tmp q]) (hp : a.tmps.getD p undef = .pointer (some ⟨r, 0, none⟩)) (hq : a.tmps.getD q undef = v) (hd : a.defers = []) (hb : Bx w r s V) (h : Q (.returned (.tuple #[.agg (cells s V), v])) w) :
    bodyPost Try.prog fn Q .ret a w := by
  refine bodyPost_ret ?_ hd h
  have hp' : a.tmps[p]?.getD undef = .pointer (some ⟨r, 0, none⟩) := by simpa using hp
  have hq' : a.tmps[q]?.getD undef = v := by simpa using hq
  have hl := run_loadVar_row (P := Try.prog) w r _ _ _ _ _ hb Try.underlying59 rfl (by kernel_rfl)
  simp [results, hr, hp', hq', asAddr, hl]
theorem sl_tail {w : World} {a : Addr} {n c : Nat} {l : List UInt8} (h : Sl w (some a) n c l) {k : Nat} (hk : k < n) (hk0 : 0 < k) : Sl w (some ⟨a.block, a.off + k, none⟩) (n - k) (c - k) (l.drop k) := by
  have h1 := h.len
  have h2 := h.cap
  have h3 := row_cut h.row (n := k) (cap := c) (by omega) (by omega)
  rw [if_neg (by omega)] at h3
  refine ⟨by rw [List.length_drop]; omega, ?_, by omega, by have := h.max; omega, fun e => by cases e⟩
  have e : (some a).map (·.add k) = some (⟨a.block, a.off + k, none⟩ : Addr) := by
    simp only [Option.map_some]
    unfold Addr.add
    rw [if_neg (by omega)]
  rw [e] at h3
  exact h3
theorem n2_drop (l : List UInt8) (k : Nat) : n2 (l.drop k) 0 = n2 l k := by unfold n2; rw [List.drop_drop, Nat.add_zero]
theorem rdd_p (s : Sn) (A : Option Addr) (n c : Nat) (l : List UInt8) (w : World) (hsl : Sl w A n c l) :
    Calls Try.prog 110 #[.agg (cells s (.slice none 0 0)), .slice A n c] w fun e w' => e = .returned (.tuple #[.agg (cells (rdD s l).1 (.slice none 0 0)), .int .i64 (((rdD s l).2 : Nat) : Int)]) ∧ Below w.heap.size w w' := by
  have hb0 : Below w.heap.size w (w.alloc (.cells (cells s (.slice none 0 0)) 59)) := (Below.refl _ _).alloc (Nat.le_refl _) _
  have hx0 : Bx (w.alloc (.cells (cells s (.slice none 0 0)) 59)) w.heap.size s (.slice none 0 0) := heap_alloc_new w _
  have hx1 := hx0.alloc (.cells #[.int .u8 0, .int .u8 0, .int .u8 0, .string ⟨#[]⟩, .int .u8 0, .int .u8 0, .bool false, .int .i64 0, .bool false, .int .i64 0, .int .i64 0, .int .i64 0, .int .i64 0, .slice none 0 0, .int .u8 0, .int .u8 0, .int .u8 0, .int .u8 0, .int .u8 0, .int .u8 0, .int .u8 0, .int .u8 0, .int .u8 0, .int .u16 0, .int .u16 0, .int .u16 0, .bool false, .int .i64 0] 59)
  have hz1 := Bx.zero (w.alloc (.cells (cells s (.slice none 0 0)) 59))
  rw [World.size_alloc] at hz1
  have hb1 := hb0.alloc hb0.size (.cells #[.int .u8 0, .int .u8 0, .int .u8 0, .string ⟨#[]⟩, .int .u8 0, .int .u8 0, .bool false, .int .i64 0, .bool false, .int .i64 0, .int .i64 0, .int .i64 0, .int .i64 0, .slice none 0 0, .int .u8 0, .int .u8 0, .int .u8 0, .int .u8 0, .int .u8 0, .int .u8 0, .int .u8 0, .int .u8 0, .int .u8 0, .int .u16 0, .int .u16 0, .int .u16 0, .bool false, .int .i64 0] 59)
  have hs1 := hsl.step hb1
  have HSZ := Lib.hid fun (u : World) => size_p A n c l 6 u hsl.len
  generalize hW : (w.alloc (.cells (cells s (.slice none 0 0)) 59)).alloc (.cells #[.int .u8 0, .int .u8 0, .int .u8 0, .string ⟨#[]⟩, .int .u8 0, .int .u8 0, .bool false, .int .i64 0, .bool false, .int .i64 0, .int .i64 0, .int .i64 0, .int .i64 0, .slice none 0 0, .int .u8 0, .int .u8 0, .int .u8 0, .int .u8 0, .int .u8 0, .int .u8 0, .int .u8 0, .int .u8 0, .int .u8 0, .int .u16 0, .int .u16 0, .int .u16 0, .bool false, .int .i64 0] 59) = w1 at *
  clear hb0 hx0 hsl
  by_cases h6 : size l 6 = 0
  case neg =>
    have e : rdD s l = (noSn, size l 6) := by unfold rdD; rw [if_pos h6]
    rw [e]
    generalize hQ : size l 6 = Q at *
    have hq : ((Q : Int) != 0) = true := by rw [bne_iff_ne]; omega
    dsimp only
    clear e hQ h6 hs1
    obtain ⟨nu, ty, un, nm, ei, en, d, ⟨f, sg, m, b, k1, k2, p⟩, mx, r0, r1, r2, r3, r4, r5, hl, hu, st, av, dv, on, sm⟩ := s
    rw [show cells ⟨nu, ty, un, nm, ei, en, d, ⟨f, sg, m, b, k1, k2, p⟩, mx, r0, r1, r2, r3, r4, r5, hl, hu, st, av, dv, on, sm⟩ (.slice none 0 0) = #[.int .u8 (nu.toNat : Int), .int .u8 (ty.toNat : Int), .int .u8 (un.toNat : Int), .string nm, .int .u8 (ei.toNat : Int), .int .u8 (en.toNat : Int), .bool d, .int .i64 f, .bool sg, .int .i64 m, .int .i64 b, .int .i64 k1, .int .i64 k2, .slice none 0 0, .int .u8 (mx.toNat : Int), .int .u8 (r0.toNat : Int), .int .u8 (r1.toNat : Int), .int .u8 (r2.toNat : Int), .int .u8 (r3.toNat : Int), .int .u8 (r4.toNat : Int), .int .u8 (r5.toNat : Int), .int .u8 (hl.toNat : Int), .int .u8 (hu.toNat : Int), .int .u16 (st : Int), .int .u16 (av : Int), .int .u16 (dv : Int), .bool on, .int .i64 sm] from rfl] at hW ⊢
    go_enter Try.func110, Try.ntmps110
    go_wp2_with fail
    refine (HSZ.out _).mono ?_
    rintro e w2 ⟨rfl, rfl⟩
    go_wp2_with (refine wpList_store_bx rfl (.tmp 4) (.tmp 11) rfl (w.heap.size + 1) noSn noSn (.slice none 0 0) (.slice none 0 0) rfl rfl rfl hz1 ?_; intro w3 hx3 hg3; refine Hid.out ?_)
    refine Lib.hid ?_
    have hb3 := hb1.grown hg3 hb1.size (fun k hk => by injection hk; omega)
    go_wp2_with fail
    exact out2 Try.results110 rfl rfl rfl hx3 ⟨rfl, hb3⟩
  have hln := hs1.len
  have hn6 : n = 6 := by
    unfold size at h6
    rw [← hln] at h6
    split at h6
    · omega
    · split at h6 <;> omega
  have e : rdD s l = ({ s with st := n2 l 0, av := n2 l 2, dv := n2 l 4 }, 0) := by unfold rdD; rw [if_neg (by omega)]
  rw [e]
  dsimp only
  rw [h6] at HSZ
  subst hn6
  obtain ⟨a, rfl⟩ : ∃ a, A = some a := by
    obtain ⟨a, ha, -⟩ := row_at hs1.row (k := 0) (by omega)
    exact ⟨a, ha⟩
  have hcc := hs1.cap
  have hcm := hs1.max
  unfold maxLen at hcm
  have g1 : (2 : Int) ≤ (c : Int) := by omega
  have g2 : (4 : Int) ≤ (c : Int) := by omega
  have H0 := Lib.hid fun (u : World) (hu : Sl u (some a) 6 c l) => number_p a 6 c l u hu (by omega)
  have H2 := Lib.hid fun (u : World) (hu : Sl u (some a) 6 c l) => by have := number_p ⟨a.block, a.off + 2, none⟩ 4 (c - 2) (l.drop 2) u (sl_tail hu (by omega) (by omega)) (by omega); rw [n2_drop] at this; exact this
  have H4 := Lib.hid fun (u : World) (hu : Sl u (some a) 6 c l) => by have := number_p ⟨a.block, a.off + 4, none⟩ 2 (c - 4) (l.drop 4) u (sl_tail hu (by omega) (by omega)) (by omega); rw [n2_drop] at this; exact this
  generalize n2 l 0 = v0 at *
  generalize n2 l 2 = v2 at *
  generalize n2 l 4 = v4 at *
  clear e h6 hln
  obtain ⟨nu, ty, un, nm, ei, en, d, ⟨f, sg, m, b, k1, k2, p⟩, mx, r0, r1, r2, r3, r4, r5, hl, hu, st, av, dv, on, sm⟩ := s
  dsimp only
  rw [show cells ⟨nu, ty, un, nm, ei, en, d, ⟨f, sg, m, b, k1, k2, p⟩, mx, r0, r1, r2, r3, r4, r5, hl, hu, st, av, dv, on, sm⟩ (.slice none 0 0) = #[.int .u8 (nu.toNat : Int), .int .u8 (ty.toNat : Int), .int .u8 (un.toNat : Int), .string nm, .int .u8 (ei.toNat : Int), .int .u8 (en.toNat : Int), .bool d, .int .i64 f, .bool sg, .int .i64 m, .int .i64 b, .int .i64 k1, .int .i64 k2, .slice none 0 0, .int .u8 (mx.toNat : Int), .int .u8 (r0.toNat : Int), .int .u8 (r1.toNat : Int), .int .u8 (r2.toNat : Int), .int .u8 (r3.toNat : Int), .int .u8 (r4.toNat : Int), .int .u8 (r5.toNat : Int), .int .u8 (hl.toNat : Int), .int .u8 (hu.toNat : Int), .int .u16 (st : Int), .int .u16 (av : Int), .int .u16 (dv : Int), .bool on, .int .i64 sm] from rfl] at hW ⊢
  go_enter Try.func110, Try.ntmps110
  go_wp2_with fail
  refine (HSZ.out _).mono ?_
  rintro e w2 ⟨rfl, rfl⟩
  go_wp2_with fail
  have HV1 : Hid (Sl w1.drew (some a) 6 c l) := Lib.hid ⟨hs1.len, hs1.row, hs1.cap, hs1.max, hs1.nil⟩
  have HVs : Hid (∀ k, Sl (w1.drewN k) (some a) 6 c l) := Lib.hid fun k => ⟨hs1.len, hs1.row.drewN k, hs1.cap, hs1.max, hs1.nil⟩
  have z23 : ∀ k, (w1.drewN k).cell? ⟨w.heap.size, 23, none⟩ = some (.int .u16 (st : Int)) := fun _ => hx1.c 23
  have z24 : ∀ k, (w1.drewN k).cell? ⟨w.heap.size, 24, none⟩ = some (.int .u16 (av : Int)) := fun _ => hx1.c 24
  have z25 : ∀ k, (w1.drewN k).cell? ⟨w.heap.size, 25, none⟩ = some (.int .u16 (dv : Int)) := fun _ => hx1.c 25
  have y23 : ∀ k, (w1.drewN k).frozen? ⟨w.heap.size, 23, none⟩ = false := fun _ => hx1.fz 23
  have y24 : ∀ k, (w1.drewN k).frozen? ⟨w.heap.size, 24, none⟩ = false := fun _ => hx1.fz 24
  have y25 : ∀ k, (w1.drewN k).frozen? ⟨w.heap.size, 25, none⟩ = false := fun _ => hx1.fz 25
  have HE : Hid (∀ K, Bx ((((w1.drewN K).setCell ⟨w.heap.size, 23, none⟩ (.int .u16 (v0 : Int))).setCell ⟨w.heap.size, 24, none⟩ (.int .u16 (v2 : Int))).setCell ⟨w.heap.size, 25, none⟩ (.int .u16 (v4 : Int))) (w.heap.size) ⟨nu, ty, un, nm, ei, en, d, ⟨f, sg, m, b, k1, k2, p⟩, mx, r0, r1, r2, r3, r4, r5, hl, hu, v0, v2, v4, on, sm⟩ (.slice none 0 0) ∧ Bx ((((w1.drewN K).setCell ⟨w.heap.size, 23, none⟩ (.int .u16 (v0 : Int))).setCell ⟨w.heap.size, 24, none⟩ (.int .u16 (v2 : Int))).setCell ⟨w.heap.size, 25, none⟩ (.int .u16 (v4 : Int))) (w.heap.size + 1) noSn (.slice none 0 0) ∧ Below w.heap.size w ((((w1.drewN K).setCell ⟨w.heap.size, 23, none⟩ (.int .u16 (v0 : Int))).setCell ⟨w.heap.size, 24, none⟩ (.int .u16 (v2 : Int))).setCell ⟨w.heap.size, 25, none⟩ (.int .u16 (v4 : Int)))) := Lib.hid fun K =>
    ⟨((show Bx (w1.drewN K) w.heap.size _ _ from hx1).set 23 _ ⟨nu, ty, un, nm, ei, en, d, ⟨f, sg, m, b, k1, k2, p⟩, mx, r0, r1, r2, r3, r4, r5, hl, hu, v0, av, dv, on, sm⟩ (.slice none 0 0) rfl |>.set 24 _ ⟨nu, ty, un, nm, ei, en, d, ⟨f, sg, m, b, k1, k2, p⟩, mx, r0, r1, r2, r3, r4, r5, hl, hu, v0, v2, dv, on, sm⟩ (.slice none 0 0) rfl).set 25 _ ⟨nu, ty, un, nm, ei, en, d, ⟨f, sg, m, b, k1, k2, p⟩, mx, r0, r1, r2, r3, r4, r5, hl, hu, v0, v2, v4, on, sm⟩ (.slice none 0 0) rfl,
     ((show Bx (w1.drewN K) (w.heap.size + 1) _ _ from hz1).kept (set_grown _ _ 23 _) (fun e => by injection e; omega)).kept (set_grown _ _ 24 _) (fun e => by injection e; omega) |>.kept (set_grown _ _ 25 _) (fun e => by injection e; omega),
     (((below_drewN hb1).setCell (p := ⟨w.heap.size, 23, none⟩) (Nat.le_refl _) _).setCell (p := ⟨w.heap.size, 24, none⟩) (Nat.le_refl _) _).setCell (p := ⟨w.heap.size, 25, none⟩) (Nat.le_refl _) _⟩
  go_region_held3 (fun _ => True) (trivial)
    (first
      | (go_at_call 138; (with_reducible refine (H0.out _ (by first | exact HV1.out | exact HVs.out _)).mono ?_); rintro e w2 ⟨rfl, qa, rfl⟩)
      | (go_at_call 138; (with_reducible refine (H2.out _ (by first | exact HV1.out | exact HVs.out _)).mono ?_); rintro e w2 ⟨rfl, qb, rfl⟩)
      | (go_at_call 138; (with_reducible refine (H4.out _ (by first | exact HV1.out | exact HVs.out _)).mono ?_); rintro e w2 ⟨rfl, qc, rfl⟩))
  refine Hid.out ?_
  refine Lib.hid ?_
  clear z23 z24 z25 y23 y24 y25
  obtain ⟨hx8, hz8, hb8⟩ := HE.out (1 + qa + qb + qc)
  generalize ((((w1.drewN (1 + qa + qb + qc)).setCell ⟨w.heap.size, 23, none⟩ (.int .u16 (v0 : Int))).setCell ⟨w.heap.size, 24, none⟩ (.int .u16 (v2 : Int))).setCell ⟨w.heap.size, 25, none⟩ (.int .u16 (v4 : Int))) = w8 at *
  clear HE HV1 HVs H0 H2 H4 HSZ
  go_wp2_with (first
    | (refine wpList_load_bx rfl (.tmp 2) rfl _ _ _ rfl hx8 ?_)
    | (refine wpList_store_bx rfl (.tmp 4) (.tmp 24) rfl (w.heap.size + 1) ⟨nu, ty, un, nm, ei, en, d, ⟨f, sg, m, b, k1, k2, p⟩, mx, r0, r1, r2, r3, r4, r5, hl, hu, v0, v2, v4, on, sm⟩ noSn (.slice none 0 0) (.slice none 0 0) rfl rfl rfl hz8 ?_; intro w9 hx9 hg9; have hb9 := hb8.grown hg9 hb8.size (fun k hk => by injection hk; omega); refine Hid.out ?_))
  refine Lib.hid ?_
  go_wp2_with fail
  exact out2 Try.results110 rfl rfl rfl hx9 ⟨rfl, hb9⟩
end Go.Proofs.Ytafoaonkjcfbaaa.Ua
