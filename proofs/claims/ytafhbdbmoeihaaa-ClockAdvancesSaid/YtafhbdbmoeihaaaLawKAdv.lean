/- The statement ClockAdvances: which clocks are valid, their times, and what advancing them answers, are what the chapter's reference says, for any clock, any ticks, and clocks that are valid for the most part. -/
import Derived.Test.YtafhbdbmoeihaaaV9j
import Derived.Test.YtafhbdbmoeihaaaLaw8
import Derived.Laws.StructEq
import Derived.Deep.RegionHeld3
namespace Go.Proofs.Ytafhbdbmoeihaaa.clockAdvances
open Go.RowKit Go.ChangeShapes Go.WideShapes Go.ChangeAt Go.Proofs.Ytafhbdbmoeihaaa.Mem Go.Proofs.Ytafhbdbmoeihaaa.Law Go.Proofs.Ytafhbdbmoeihaaa.F2p Go.Proofs.Ytafhbdbmoeihaaa.V7 Go.Proofs.Ytafhbdbmoeihaaa.V9 Go.Proofs.Ytafhbdbmoeihaaa.Made
set_option maxRecDepth 100000
set_option maxHeartbeats 4000000

theorem walk (c : Ck) (hf : c.Fit) (ticks : Int) (_h1 : -9223372036854775808 ≤ ticks ∧ ticks ≤ 9223372036854775807) (tick : Int) (_h2 : -9223372036854775808 ≤ tick ∧ tick ≤ 9223372036854775807) (base : Int) (_h3 : -9223372036854775808 ≤ base ∧ base ≤ 9223372036854775807) (set : Bool) (more : Int) (_h4 : 0 ≤ more ∧ more ≤ 65535) (W : World) :
    Calls Try.prog 3 #[c.v, .int .i64 ticks, .int .i64 tick, .int .i64 base, .bool set, .int .u16 more] W fun e W' => e = .returned (.bool true) ∧ Below W.heap.size W W' := by
  have haw := Lib.hid (fun u => awake_any u)
  have hmd := Lib.hid (fun u => made_any tick base set u)
  have hap := Lib.hid (fun xt xb xs hx n => adv_both xt xb xs hx n)
  have hsp := Lib.hid (fun xt xb xs hx => stp_both xt xb xs hx)
  have hvp := Lib.hid (fun xt xb xs hx => vld_both xt xb xs hx)
  have hC0 := CBox.new W c
  have hs0 : Below W.heap.size W (W.alloc (.cells c.cells 23)) := (Below.refl _ _).alloc (Nat.le_refl _) _
  have HF := Lib.hid hf
  clear hf
  obtain ⟨ct, cb, cs⟩ := c
  simp only [Ck.v, Ck.cells] at hC0 hs0 ⊢
  replace hC0 := Lib.hid hC0
  replace hs0 := Lib.hid hs0
  go_enter Try.func3, Try.ntmps3
  go_wp2_with fail
  have hC1 := hC0.out
  have hs1 := hs0.out
  generalize W.alloc (.cells #[.int .i64 ct, .int .i64 cb, .bool cs] 23) = w1 at *
  clear hC0 hs0
  have KEEP : Hid (∀ V, Below w1.heap.size w1 V → V.cell? ⟨W.heap.size, 0, none⟩ = some (.int .i64 ct) ∧ V.cell? ⟨W.heap.size, 1, none⟩ = some (.int .i64 cb) ∧ V.cell? ⟨W.heap.size, 2, none⟩ = some (.bool cs)) := Lib.hid fun V hV =>
    have hB := CBox.below hC1 hV hC1.lt
    ⟨hB.c0, hB.c1, hB.c2⟩
  have HV : Below w1.heap.size w1 w1.drew := (Below.refl _ _).drew
  replace hs1 := Lib.hid hs1
  clear hC1
  go_region_held3 (fun V => V.cell? ⟨W.heap.size, 0, none⟩ = some (.int .i64 ct) ∧ V.cell? ⟨W.heap.size, 1, none⟩ = some (.int .i64 cb) ∧ V.cell? ⟨W.heap.size, 2, none⟩ = some (.bool cs)) (first | exact KEEP.out _ HV | exact KEEP.out _ (HV.alloc HV.size _))
    (first
      | (go_at_call 9; refine (hmd.out _).mono ?_; rintro e w2 ⟨⟨dt, db, ds⟩, hd, rfl, hb2⟩; dsimp only [Ck.v, Ck.cells]; have HV := HV.trans (hb2.mono HV.size)))
  have hz2 : W.heap.size ≤ w2.heap.size := Nat.le_trans hs1.out.size HV.size
  have hs2 := (hs1.out.trans (HV.mono hs1.out.size)).alloc hz2 (.cells #[.int .i64 ct, .int .i64 cb, .bool cs, .int .i64 dt, .int .i64 db, .bool ds] 23)
  have hg2 : w2.heap.size < (w2.alloc (.cells #[.int .i64 ct, .int .i64 cb, .bool cs, .int .i64 dt, .int .i64 db, .bool ds] 23)).heap.size := by simp
  have r0 := cell_of_row (w2.alloc (.cells #[.int .i64 ct, .int .i64 cb, .bool cs, .int .i64 dt, .int .i64 db, .bool ds] 23)) w2.heap.size 0 _ _ _ (heap_alloc_new w2 _)
  have r1 := cell_of_row (w2.alloc (.cells #[.int .i64 ct, .int .i64 cb, .bool cs, .int .i64 dt, .int .i64 db, .bool ds] 23)) w2.heap.size 1 _ _ _ (heap_alloc_new w2 _)
  have r2 := cell_of_row (w2.alloc (.cells #[.int .i64 ct, .int .i64 cb, .bool cs, .int .i64 dt, .int .i64 db, .bool ds] 23)) w2.heap.size 2 _ _ _ (heap_alloc_new w2 _)
  have r3 := cell_of_row (w2.alloc (.cells #[.int .i64 ct, .int .i64 cb, .bool cs, .int .i64 dt, .int .i64 db, .bool ds] 23)) w2.heap.size 3 _ _ _ (heap_alloc_new w2 _)
  have r4 := cell_of_row (w2.alloc (.cells #[.int .i64 ct, .int .i64 cb, .bool cs, .int .i64 dt, .int .i64 db, .bool ds] 23)) w2.heap.size 4 _ _ _ (heap_alloc_new w2 _)
  have r5 := cell_of_row (w2.alloc (.cells #[.int .i64 ct, .int .i64 cb, .bool cs, .int .i64 dt, .int .i64 db, .bool ds] 23)) w2.heap.size 5 _ _ _ (heap_alloc_new w2 _)
  have HD := Lib.hid hd.fit
  clear hd
  generalize w2.alloc (.cells #[.int .i64 ct, .int .i64 cb, .bool cs, .int .i64 dt, .int .i64 db, .bool ds] 23) = w3 at *
  obtain ⟨g, hg⟩ : ∃ g, w2.heap.size = g := ⟨_, rfl⟩
  rw [hg] at r0 r1 r2 r3 r4 r5 hg2 ⊢
  clear hg hz2 HV KEEP hs1
  replace hs2 := Lib.hid hs2
  go_wp2_with fail
  go_loopw [32] (fun i wr => ∃ j : Int, (j = 0 ∨ j = 1 ∨ j = 2) ∧ i = .int .i64 j ∧ Below w3.heap.size w3 wr) (fun i _ => 2 - (intOf i).toNat)
  case atStart => exact ⟨0, .inl rfl, rfl, Below.refl _ _⟩
  case round =>
    obtain ⟨j, hj, rfl, hbel⟩ := hrel
    rcases hj with rfl | rfl | rfl
    · skip
      have q0 := (hbel.cell (p := ⟨g, 0, none⟩) hg2).trans r0
      have q1 := (hbel.cell (p := ⟨g, 1, none⟩) hg2).trans r1
      have q2 := (hbel.cell (p := ⟨g, 2, none⟩) hg2).trans r2
      simp at q0 q1 q2
      clear r0 r1 r2 r3 r4 r5
      have hA := CBox.new wr ⟨ct, cb, cs⟩
      have hbelw := hbel.alloc hbel.size (.cells (Ck.mk ct cb cs).cells 23)
      have hsr := Lib.hid ((hs2.out.trans (hbel.mono hs2.out.size)).alloc (Nat.le_trans hs2.out.size hbel.size) (.cells (Ck.mk ct cb cs).cells 23))
      have HX : Hid (Ck.Fit ⟨ct, cb, cs⟩) := HF
      simp only [Ck.cells] at hA hsr hbelw
      replace hA := Lib.hid hA
      replace hbelw := Lib.hid hbelw
      go_wp2_with fail
      clear q0 q1 q2
      obtain ⟨n2, hn2⟩ : ∃ n2, wrap64 (17179869184 - ct) = n2 := ⟨_, rfl⟩
      rw [hn2]
      clear hn2
      have hzr : (wr.alloc (.cells #[.int .i64 ct, .int .i64 cb, .bool cs] 23)).heap.size = wr.heap.size + 1 := by simp
      have hX4 := Lib.hid (hA.out.alloc (.cells #[.int .i64 ticks, .int .i64 more, .int .i64 n2] 2))
      have hs4 := Lib.hid (hsr.out.alloc hsr.out.size (.cells #[.int .i64 ticks, .int .i64 more, .int .i64 n2] 2))
      have hbel4 := Lib.hid (hbelw.out.alloc hbelw.out.size (.cells #[.int .i64 ticks, .int .i64 more, .int .i64 n2] 2))
      have e0 := cell_of_row ((wr.alloc (.cells #[.int .i64 ct, .int .i64 cb, .bool cs] 23)).alloc (.cells #[.int .i64 ticks, .int .i64 more, .int .i64 n2] 2)) (wr.alloc (.cells #[.int .i64 ct, .int .i64 cb, .bool cs] 23)).heap.size 0 _ _ _ (heap_alloc_new _ _)
      have e1 := cell_of_row ((wr.alloc (.cells #[.int .i64 ct, .int .i64 cb, .bool cs] 23)).alloc (.cells #[.int .i64 ticks, .int .i64 more, .int .i64 n2] 2)) (wr.alloc (.cells #[.int .i64 ct, .int .i64 cb, .bool cs] 23)).heap.size 1 _ _ _ (heap_alloc_new _ _)
      have e2 := cell_of_row ((wr.alloc (.cells #[.int .i64 ct, .int .i64 cb, .bool cs] 23)).alloc (.cells #[.int .i64 ticks, .int .i64 more, .int .i64 n2] 2)) (wr.alloc (.cells #[.int .i64 ct, .int .i64 cb, .bool cs] 23)).heap.size 2 _ _ _ (heap_alloc_new _ _)
      have hh : (wr.alloc (.cells #[.int .i64 ct, .int .i64 cb, .bool cs] 23)).heap.size < ((wr.alloc (.cells #[.int .i64 ct, .int .i64 cb, .bool cs] 23)).alloc (.cells #[.int .i64 ticks, .int .i64 more, .int .i64 n2] 2)).heap.size := by simp
      clear hA hsr hbelw
      generalize (wr.alloc (.cells #[.int .i64 ct, .int .i64 cb, .bool cs] 23)).alloc (.cells #[.int .i64 ticks, .int .i64 more, .int .i64 n2] 2) = w4 at *
      rw [hzr] at e0 e1 e2 hh
      obtain ⟨rx, hrx⟩ : ∃ rx, wr.heap.size = rx := ⟨_, rfl⟩
      rw [hrx] at e0 e1 e2 hh hX4 ⊢
      clear hzr
      obtain ⟨h, hhd⟩ : ∃ h, rx + 1 = h := ⟨_, rfl⟩
      have hxh : rx < w4.heap.size := by omega
      rw [hhd] at e0 e1 e2 hh ⊢
      go_loopw [44] (fun i wr' => ∃ k : Int, (k = 0 ∨ k = 1 ∨ k = 2 ∨ k = 3) ∧ i = .int .i64 k ∧ Below w4.heap.size w4 wr') (fun i _ => 3 - (intOf i).toNat)
      case atStart => exact ⟨0, .inl rfl, rfl, Below.refl _ _⟩
      case round =>
        obtain ⟨k, hk, rfl, hb⟩ := hrel
        rcases hk with rfl | rfl | rfl | rfl
        · skip
          have q := (hb.cell (p := ⟨h, 0, none⟩) hh).trans e0
          simp at q
          have hX := hX4.out.below hb hxh
          have x0 := hX.c0; have x1 := hX.c1; have x2 := hX.c2
          simp only at x0 x1 x2
          have hsu := Lib.hid (hs4.out.trans (hb.mono hs4.out.size))
          have hru : w4.heap.size ≤ wr.heap.size := hb.size
          clear hX e0 e1 e2
          obtain ⟨yt, yb, ys, ea, hP, hR⟩ := hap.out ct cb cs HX.out (ticks)
          have hq := fun V => run_neq_ck V yt yb ys
          have hg := fun V => guard_ck (.tmp 60) (.tmp 61) yt yb ys yt yb ys V
          replace hP := Lib.hid hP
          replace hR := Lib.hid hR
          go_wp2_with fail
          refine (hP.out _).mono ?_
          rintro e u1 ⟨rfl, hb1⟩
          have y0 := (hb1.cell (p := ⟨rx, 0, none⟩) (show rx < wr.heap.size by omega)).trans x0
          have y1 := (hb1.cell (p := ⟨rx, 1, none⟩) (show rx < wr.heap.size by omega)).trans x1
          have y2 := (hb1.cell (p := ⟨rx, 2, none⟩) (show rx < wr.heap.size by omega)).trans x2
          have hu1 := hb1.size
          have hrxu : rx < u1.heap.size := by omega
          have hbw := hb.trans (hb1.mono hb.size)
          clear hb1 x0 x1 x2
          go_wp2_with fail
          have hA1 := CBox.new u1 ⟨yt, yb, ys⟩
          have hb2 := hbw.alloc hbw.size (.cells (Ck.mk yt yb ys).cells 23)
          have hz2 : (u1.alloc (.cells (Ck.mk yt yb ys).cells 23)).heap.size = u1.heap.size + 1 := by simp
          simp only [Ck.cells] at hA1 hb2 hz2
          clear hbw
          refine (hR.out _).mono ?_
          rintro e u2 ⟨rfl, hb3⟩
          have hA2 := hA1.below hb3 (by omega)
          have a0 := hA2.c0; have a1 := hA2.c1; have a2 := hA2.c2
          simp only at a0 a1 a2
          have hu2 := hb3.size
          have hu12 : u1.heap.size < u2.heap.size := by omega
          have hb4 := hb2.trans (hb3.mono hb2.size)
          clear hb3 hb2 hA1 hA2 y0 y1 y2
          go_wp2_with fail
          exact ⟨⟨1, by omega, rfl, hb4.alloc hb4.size _⟩, by simp [intOf]⟩
        · skip
          have q := (hb.cell (p := ⟨h, 1, none⟩) hh).trans e1
          simp at q
          have hX := hX4.out.below hb hxh
          have x0 := hX.c0; have x1 := hX.c1; have x2 := hX.c2
          simp only at x0 x1 x2
          have hsu := Lib.hid (hs4.out.trans (hb.mono hs4.out.size))
          have hru : w4.heap.size ≤ wr.heap.size := hb.size
          clear hX e0 e1 e2
          obtain ⟨yt, yb, ys, ea, hP, hR⟩ := hap.out ct cb cs HX.out (more)
          have hq := fun V => run_neq_ck V yt yb ys
          have hg := fun V => guard_ck (.tmp 60) (.tmp 61) yt yb ys yt yb ys V
          replace hP := Lib.hid hP
          replace hR := Lib.hid hR
          go_wp2_with fail
          refine (hP.out _).mono ?_
          rintro e u1 ⟨rfl, hb1⟩
          have y0 := (hb1.cell (p := ⟨rx, 0, none⟩) (show rx < wr.heap.size by omega)).trans x0
          have y1 := (hb1.cell (p := ⟨rx, 1, none⟩) (show rx < wr.heap.size by omega)).trans x1
          have y2 := (hb1.cell (p := ⟨rx, 2, none⟩) (show rx < wr.heap.size by omega)).trans x2
          have hu1 := hb1.size
          have hrxu : rx < u1.heap.size := by omega
          have hbw := hb.trans (hb1.mono hb.size)
          clear hb1 x0 x1 x2
          go_wp2_with fail
          have hA1 := CBox.new u1 ⟨yt, yb, ys⟩
          have hb2 := hbw.alloc hbw.size (.cells (Ck.mk yt yb ys).cells 23)
          have hz2 : (u1.alloc (.cells (Ck.mk yt yb ys).cells 23)).heap.size = u1.heap.size + 1 := by simp
          simp only [Ck.cells] at hA1 hb2 hz2
          clear hbw
          refine (hR.out _).mono ?_
          rintro e u2 ⟨rfl, hb3⟩
          have hA2 := hA1.below hb3 (by omega)
          have a0 := hA2.c0; have a1 := hA2.c1; have a2 := hA2.c2
          simp only at a0 a1 a2
          have hu2 := hb3.size
          have hu12 : u1.heap.size < u2.heap.size := by omega
          have hb4 := hb2.trans (hb3.mono hb2.size)
          clear hb3 hb2 hA1 hA2 y0 y1 y2
          go_wp2_with fail
          exact ⟨⟨2, by omega, rfl, hb4.alloc hb4.size _⟩, by simp [intOf]⟩
        · skip
          have q := (hb.cell (p := ⟨h, 2, none⟩) hh).trans e2
          simp at q
          have hX := hX4.out.below hb hxh
          have x0 := hX.c0; have x1 := hX.c1; have x2 := hX.c2
          simp only at x0 x1 x2
          have hsu := Lib.hid (hs4.out.trans (hb.mono hs4.out.size))
          have hru : w4.heap.size ≤ wr.heap.size := hb.size
          clear hX e0 e1 e2
          obtain ⟨yt, yb, ys, ea, hP, hR⟩ := hap.out ct cb cs HX.out (n2)
          have hq := fun V => run_neq_ck V yt yb ys
          have hg := fun V => guard_ck (.tmp 60) (.tmp 61) yt yb ys yt yb ys V
          replace hP := Lib.hid hP
          replace hR := Lib.hid hR
          go_wp2_with fail
          refine (hP.out _).mono ?_
          rintro e u1 ⟨rfl, hb1⟩
          have y0 := (hb1.cell (p := ⟨rx, 0, none⟩) (show rx < wr.heap.size by omega)).trans x0
          have y1 := (hb1.cell (p := ⟨rx, 1, none⟩) (show rx < wr.heap.size by omega)).trans x1
          have y2 := (hb1.cell (p := ⟨rx, 2, none⟩) (show rx < wr.heap.size by omega)).trans x2
          have hu1 := hb1.size
          have hrxu : rx < u1.heap.size := by omega
          have hbw := hb.trans (hb1.mono hb.size)
          clear hb1 x0 x1 x2
          go_wp2_with fail
          have hA1 := CBox.new u1 ⟨yt, yb, ys⟩
          have hb2 := hbw.alloc hbw.size (.cells (Ck.mk yt yb ys).cells 23)
          have hz2 : (u1.alloc (.cells (Ck.mk yt yb ys).cells 23)).heap.size = u1.heap.size + 1 := by simp
          simp only [Ck.cells] at hA1 hb2 hz2
          clear hbw
          refine (hR.out _).mono ?_
          rintro e u2 ⟨rfl, hb3⟩
          have hA2 := hA1.below hb3 (by omega)
          have a0 := hA2.c0; have a1 := hA2.c1; have a2 := hA2.c2
          simp only at a0 a1 a2
          have hu2 := hb3.size
          have hu12 : u1.heap.size < u2.heap.size := by omega
          have hb4 := hb2.trans (hb3.mono hb2.size)
          clear hb3 hb2 hA1 hA2 y0 y1 y2
          go_wp2_with fail
          exact ⟨⟨3, by omega, rfl, hb4.alloc hb4.size _⟩, by simp [intOf]⟩
        · skip
          clear e0 e1 e2
          have hX := hX4.out.below hb hxh
          have x0 := hX.c0; have x1 := hX.c1; have x2 := hX.c2
          simp only at x0 x1 x2
          have hbt := hbel4.out.trans (hb.mono hbel4.out.size)
          have hrw : rx < wr.heap.size := Nat.lt_of_lt_of_le hxh hb.size
          obtain ⟨sa, sea, hP, hR⟩ := hsp.out ct cb cs HX.out
          obtain ⟨va, hvP, hvR⟩ := hvp.out ct cb cs HX.out
          replace hP := Lib.hid hP
          replace hR := Lib.hid hR
          replace hvP := Lib.hid hvP
          replace hvR := Lib.hid hvR
          clear hb hh hX4 hs4 hbel4
          go_wp2_with fail
          refine (hP.out _).mono ?_
          rintro e u1 ⟨rfl, hb1⟩
          have hX1 := hX.below hb1 hrw
          have y0 := hX1.c0; have y1 := hX1.c1; have y2 := hX1.c2
          simp only at y0 y1 y2
          have hbt1 := hbt.trans (hb1.mono hbt.size)
          have hrw1 : rx < u1.heap.size := Nat.lt_of_lt_of_le hrw hb1.size
          clear hb1 hX x0 x1 x2 hbt
          go_wp2_with fail
          refine (hR.out _).mono ?_
          rintro e u2 ⟨rfl, hb2⟩
          have hX2 := hX1.below hb2 hrw1
          have hbt2 := hbt1.trans (hb2.mono hbt1.size)
          have hrw2 : rx < u2.heap.size := Nat.lt_of_lt_of_le hrw1 hb2.size
          clear hb2 hX1 y0 y1 y2 hbt1
          have KEEP : Hid (∀ V, Below u2.heap.size u2 V → V.cell? ⟨rx, 0, none⟩ = some (.int .i64 ct) ∧ V.cell? ⟨rx, 1, none⟩ = some (.int .i64 cb) ∧ V.cell? ⟨rx, 2, none⟩ = some (.bool cs)) := Lib.hid fun V hV =>
            have hB := CBox.below hX2 hV hX2.lt
            ⟨hB.c0, hB.c1, hB.c2⟩
          have HV : Below u2.heap.size u2 u2.drew := (Below.refl _ _).drew
          clear hX2
          go_wp2_with fail
          go_region_held3 (fun V => V.cell? ⟨rx, 0, none⟩ = some (.int .i64 ct) ∧ V.cell? ⟨rx, 1, none⟩ = some (.int .i64 cb) ∧ V.cell? ⟨rx, 2, none⟩ = some (.bool cs)) (first | exact KEEP.out _ HV)
            (first
              | (go_at_call 14; refine (hvP.out _).mono ?_; rintro e w7 ⟨rfl, hb7⟩; have HV := HV.trans (hb7.mono HV.size))
              | (go_at_call 15; refine (hvR.out _).mono ?_; rintro e w7 ⟨rfl, hb7⟩; have HV := HV.trans (hb7.mono HV.size)))
          all_goals
            have hend := hbt2.trans (HV.mono hbt2.size)
            clear KEEP HV
            go_wp2_with fail
            exact ⟨⟨1, by omega, rfl, hend⟩, by simp [intOf]⟩
    · skip
      have q0 := (hbel.cell (p := ⟨g, 3, none⟩) hg2).trans r3
      have q1 := (hbel.cell (p := ⟨g, 4, none⟩) hg2).trans r4
      have q2 := (hbel.cell (p := ⟨g, 5, none⟩) hg2).trans r5
      simp at q0 q1 q2
      clear r0 r1 r2 r3 r4 r5
      have hA := CBox.new wr ⟨dt, db, ds⟩
      have hbelw := hbel.alloc hbel.size (.cells (Ck.mk dt db ds).cells 23)
      have hsr := Lib.hid ((hs2.out.trans (hbel.mono hs2.out.size)).alloc (Nat.le_trans hs2.out.size hbel.size) (.cells (Ck.mk dt db ds).cells 23))
      have HX : Hid (Ck.Fit ⟨dt, db, ds⟩) := HD
      simp only [Ck.cells] at hA hsr hbelw
      replace hA := Lib.hid hA
      replace hbelw := Lib.hid hbelw
      go_wp2_with fail
      clear q0 q1 q2
      obtain ⟨n2, hn2⟩ : ∃ n2, wrap64 (17179869184 - dt) = n2 := ⟨_, rfl⟩
      rw [hn2]
      clear hn2
      have hzr : (wr.alloc (.cells #[.int .i64 dt, .int .i64 db, .bool ds] 23)).heap.size = wr.heap.size + 1 := by simp
      have hX4 := Lib.hid (hA.out.alloc (.cells #[.int .i64 ticks, .int .i64 more, .int .i64 n2] 2))
      have hs4 := Lib.hid (hsr.out.alloc hsr.out.size (.cells #[.int .i64 ticks, .int .i64 more, .int .i64 n2] 2))
      have hbel4 := Lib.hid (hbelw.out.alloc hbelw.out.size (.cells #[.int .i64 ticks, .int .i64 more, .int .i64 n2] 2))
      have e0 := cell_of_row ((wr.alloc (.cells #[.int .i64 dt, .int .i64 db, .bool ds] 23)).alloc (.cells #[.int .i64 ticks, .int .i64 more, .int .i64 n2] 2)) (wr.alloc (.cells #[.int .i64 dt, .int .i64 db, .bool ds] 23)).heap.size 0 _ _ _ (heap_alloc_new _ _)
      have e1 := cell_of_row ((wr.alloc (.cells #[.int .i64 dt, .int .i64 db, .bool ds] 23)).alloc (.cells #[.int .i64 ticks, .int .i64 more, .int .i64 n2] 2)) (wr.alloc (.cells #[.int .i64 dt, .int .i64 db, .bool ds] 23)).heap.size 1 _ _ _ (heap_alloc_new _ _)
      have e2 := cell_of_row ((wr.alloc (.cells #[.int .i64 dt, .int .i64 db, .bool ds] 23)).alloc (.cells #[.int .i64 ticks, .int .i64 more, .int .i64 n2] 2)) (wr.alloc (.cells #[.int .i64 dt, .int .i64 db, .bool ds] 23)).heap.size 2 _ _ _ (heap_alloc_new _ _)
      have hh : (wr.alloc (.cells #[.int .i64 dt, .int .i64 db, .bool ds] 23)).heap.size < ((wr.alloc (.cells #[.int .i64 dt, .int .i64 db, .bool ds] 23)).alloc (.cells #[.int .i64 ticks, .int .i64 more, .int .i64 n2] 2)).heap.size := by simp
      clear hA hsr hbelw
      generalize (wr.alloc (.cells #[.int .i64 dt, .int .i64 db, .bool ds] 23)).alloc (.cells #[.int .i64 ticks, .int .i64 more, .int .i64 n2] 2) = w4 at *
      rw [hzr] at e0 e1 e2 hh
      obtain ⟨rx, hrx⟩ : ∃ rx, wr.heap.size = rx := ⟨_, rfl⟩
      rw [hrx] at e0 e1 e2 hh hX4 ⊢
      clear hzr
      obtain ⟨h, hhd⟩ : ∃ h, rx + 1 = h := ⟨_, rfl⟩
      have hxh : rx < w4.heap.size := by omega
      rw [hhd] at e0 e1 e2 hh ⊢
      go_loopw [44] (fun i wr' => ∃ k : Int, (k = 0 ∨ k = 1 ∨ k = 2 ∨ k = 3) ∧ i = .int .i64 k ∧ Below w4.heap.size w4 wr') (fun i _ => 3 - (intOf i).toNat)
      case atStart => exact ⟨0, .inl rfl, rfl, Below.refl _ _⟩
      case round =>
        obtain ⟨k, hk, rfl, hb⟩ := hrel
        rcases hk with rfl | rfl | rfl | rfl
        · skip
          have q := (hb.cell (p := ⟨h, 0, none⟩) hh).trans e0
          simp at q
          have hX := hX4.out.below hb hxh
          have x0 := hX.c0; have x1 := hX.c1; have x2 := hX.c2
          simp only at x0 x1 x2
          have hsu := Lib.hid (hs4.out.trans (hb.mono hs4.out.size))
          have hru : w4.heap.size ≤ wr.heap.size := hb.size
          clear hX e0 e1 e2
          obtain ⟨yt, yb, ys, ea, hP, hR⟩ := hap.out dt db ds HX.out (ticks)
          have hq := fun V => run_neq_ck V yt yb ys
          have hg := fun V => guard_ck (.tmp 60) (.tmp 61) yt yb ys yt yb ys V
          replace hP := Lib.hid hP
          replace hR := Lib.hid hR
          go_wp2_with fail
          refine (hP.out _).mono ?_
          rintro e u1 ⟨rfl, hb1⟩
          have y0 := (hb1.cell (p := ⟨rx, 0, none⟩) (show rx < wr.heap.size by omega)).trans x0
          have y1 := (hb1.cell (p := ⟨rx, 1, none⟩) (show rx < wr.heap.size by omega)).trans x1
          have y2 := (hb1.cell (p := ⟨rx, 2, none⟩) (show rx < wr.heap.size by omega)).trans x2
          have hu1 := hb1.size
          have hrxu : rx < u1.heap.size := by omega
          have hbw := hb.trans (hb1.mono hb.size)
          clear hb1 x0 x1 x2
          go_wp2_with fail
          have hA1 := CBox.new u1 ⟨yt, yb, ys⟩
          have hb2 := hbw.alloc hbw.size (.cells (Ck.mk yt yb ys).cells 23)
          have hz2 : (u1.alloc (.cells (Ck.mk yt yb ys).cells 23)).heap.size = u1.heap.size + 1 := by simp
          simp only [Ck.cells] at hA1 hb2 hz2
          clear hbw
          refine (hR.out _).mono ?_
          rintro e u2 ⟨rfl, hb3⟩
          have hA2 := hA1.below hb3 (by omega)
          have a0 := hA2.c0; have a1 := hA2.c1; have a2 := hA2.c2
          simp only at a0 a1 a2
          have hu2 := hb3.size
          have hu12 : u1.heap.size < u2.heap.size := by omega
          have hb4 := hb2.trans (hb3.mono hb2.size)
          clear hb3 hb2 hA1 hA2 y0 y1 y2
          go_wp2_with fail
          exact ⟨⟨1, by omega, rfl, hb4.alloc hb4.size _⟩, by simp [intOf]⟩
        · skip
          have q := (hb.cell (p := ⟨h, 1, none⟩) hh).trans e1
          simp at q
          have hX := hX4.out.below hb hxh
          have x0 := hX.c0; have x1 := hX.c1; have x2 := hX.c2
          simp only at x0 x1 x2
          have hsu := Lib.hid (hs4.out.trans (hb.mono hs4.out.size))
          have hru : w4.heap.size ≤ wr.heap.size := hb.size
          clear hX e0 e1 e2
          obtain ⟨yt, yb, ys, ea, hP, hR⟩ := hap.out dt db ds HX.out (more)
          have hq := fun V => run_neq_ck V yt yb ys
          have hg := fun V => guard_ck (.tmp 60) (.tmp 61) yt yb ys yt yb ys V
          replace hP := Lib.hid hP
          replace hR := Lib.hid hR
          go_wp2_with fail
          refine (hP.out _).mono ?_
          rintro e u1 ⟨rfl, hb1⟩
          have y0 := (hb1.cell (p := ⟨rx, 0, none⟩) (show rx < wr.heap.size by omega)).trans x0
          have y1 := (hb1.cell (p := ⟨rx, 1, none⟩) (show rx < wr.heap.size by omega)).trans x1
          have y2 := (hb1.cell (p := ⟨rx, 2, none⟩) (show rx < wr.heap.size by omega)).trans x2
          have hu1 := hb1.size
          have hrxu : rx < u1.heap.size := by omega
          have hbw := hb.trans (hb1.mono hb.size)
          clear hb1 x0 x1 x2
          go_wp2_with fail
          have hA1 := CBox.new u1 ⟨yt, yb, ys⟩
          have hb2 := hbw.alloc hbw.size (.cells (Ck.mk yt yb ys).cells 23)
          have hz2 : (u1.alloc (.cells (Ck.mk yt yb ys).cells 23)).heap.size = u1.heap.size + 1 := by simp
          simp only [Ck.cells] at hA1 hb2 hz2
          clear hbw
          refine (hR.out _).mono ?_
          rintro e u2 ⟨rfl, hb3⟩
          have hA2 := hA1.below hb3 (by omega)
          have a0 := hA2.c0; have a1 := hA2.c1; have a2 := hA2.c2
          simp only at a0 a1 a2
          have hu2 := hb3.size
          have hu12 : u1.heap.size < u2.heap.size := by omega
          have hb4 := hb2.trans (hb3.mono hb2.size)
          clear hb3 hb2 hA1 hA2 y0 y1 y2
          go_wp2_with fail
          exact ⟨⟨2, by omega, rfl, hb4.alloc hb4.size _⟩, by simp [intOf]⟩
        · skip
          have q := (hb.cell (p := ⟨h, 2, none⟩) hh).trans e2
          simp at q
          have hX := hX4.out.below hb hxh
          have x0 := hX.c0; have x1 := hX.c1; have x2 := hX.c2
          simp only at x0 x1 x2
          have hsu := Lib.hid (hs4.out.trans (hb.mono hs4.out.size))
          have hru : w4.heap.size ≤ wr.heap.size := hb.size
          clear hX e0 e1 e2
          obtain ⟨yt, yb, ys, ea, hP, hR⟩ := hap.out dt db ds HX.out (n2)
          have hq := fun V => run_neq_ck V yt yb ys
          have hg := fun V => guard_ck (.tmp 60) (.tmp 61) yt yb ys yt yb ys V
          replace hP := Lib.hid hP
          replace hR := Lib.hid hR
          go_wp2_with fail
          refine (hP.out _).mono ?_
          rintro e u1 ⟨rfl, hb1⟩
          have y0 := (hb1.cell (p := ⟨rx, 0, none⟩) (show rx < wr.heap.size by omega)).trans x0
          have y1 := (hb1.cell (p := ⟨rx, 1, none⟩) (show rx < wr.heap.size by omega)).trans x1
          have y2 := (hb1.cell (p := ⟨rx, 2, none⟩) (show rx < wr.heap.size by omega)).trans x2
          have hu1 := hb1.size
          have hrxu : rx < u1.heap.size := by omega
          have hbw := hb.trans (hb1.mono hb.size)
          clear hb1 x0 x1 x2
          go_wp2_with fail
          have hA1 := CBox.new u1 ⟨yt, yb, ys⟩
          have hb2 := hbw.alloc hbw.size (.cells (Ck.mk yt yb ys).cells 23)
          have hz2 : (u1.alloc (.cells (Ck.mk yt yb ys).cells 23)).heap.size = u1.heap.size + 1 := by simp
          simp only [Ck.cells] at hA1 hb2 hz2
          clear hbw
          refine (hR.out _).mono ?_
          rintro e u2 ⟨rfl, hb3⟩
          have hA2 := hA1.below hb3 (by omega)
          have a0 := hA2.c0; have a1 := hA2.c1; have a2 := hA2.c2
          simp only at a0 a1 a2
          have hu2 := hb3.size
          have hu12 : u1.heap.size < u2.heap.size := by omega
          have hb4 := hb2.trans (hb3.mono hb2.size)
          clear hb3 hb2 hA1 hA2 y0 y1 y2
          go_wp2_with fail
          exact ⟨⟨3, by omega, rfl, hb4.alloc hb4.size _⟩, by simp [intOf]⟩
        · skip
          clear e0 e1 e2
          have hX := hX4.out.below hb hxh
          have x0 := hX.c0; have x1 := hX.c1; have x2 := hX.c2
          simp only at x0 x1 x2
          have hbt := hbel4.out.trans (hb.mono hbel4.out.size)
          have hrw : rx < wr.heap.size := Nat.lt_of_lt_of_le hxh hb.size
          obtain ⟨sa, sea, hP, hR⟩ := hsp.out dt db ds HX.out
          obtain ⟨va, hvP, hvR⟩ := hvp.out dt db ds HX.out
          replace hP := Lib.hid hP
          replace hR := Lib.hid hR
          replace hvP := Lib.hid hvP
          replace hvR := Lib.hid hvR
          clear hb hh hX4 hs4 hbel4
          go_wp2_with fail
          refine (hP.out _).mono ?_
          rintro e u1 ⟨rfl, hb1⟩
          have hX1 := hX.below hb1 hrw
          have y0 := hX1.c0; have y1 := hX1.c1; have y2 := hX1.c2
          simp only at y0 y1 y2
          have hbt1 := hbt.trans (hb1.mono hbt.size)
          have hrw1 : rx < u1.heap.size := Nat.lt_of_lt_of_le hrw hb1.size
          clear hb1 hX x0 x1 x2 hbt
          go_wp2_with fail
          refine (hR.out _).mono ?_
          rintro e u2 ⟨rfl, hb2⟩
          have hX2 := hX1.below hb2 hrw1
          have hbt2 := hbt1.trans (hb2.mono hbt1.size)
          have hrw2 : rx < u2.heap.size := Nat.lt_of_lt_of_le hrw1 hb2.size
          clear hb2 hX1 y0 y1 y2 hbt1
          have KEEP : Hid (∀ V, Below u2.heap.size u2 V → V.cell? ⟨rx, 0, none⟩ = some (.int .i64 dt) ∧ V.cell? ⟨rx, 1, none⟩ = some (.int .i64 db) ∧ V.cell? ⟨rx, 2, none⟩ = some (.bool ds)) := Lib.hid fun V hV =>
            have hB := CBox.below hX2 hV hX2.lt
            ⟨hB.c0, hB.c1, hB.c2⟩
          have HV : Below u2.heap.size u2 u2.drew := (Below.refl _ _).drew
          clear hX2
          go_wp2_with fail
          go_region_held3 (fun V => V.cell? ⟨rx, 0, none⟩ = some (.int .i64 dt) ∧ V.cell? ⟨rx, 1, none⟩ = some (.int .i64 db) ∧ V.cell? ⟨rx, 2, none⟩ = some (.bool ds)) (first | exact KEEP.out _ HV)
            (first
              | (go_at_call 14; refine (hvP.out _).mono ?_; rintro e w7 ⟨rfl, hb7⟩; have HV := HV.trans (hb7.mono HV.size))
              | (go_at_call 15; refine (hvR.out _).mono ?_; rintro e w7 ⟨rfl, hb7⟩; have HV := HV.trans (hb7.mono HV.size)))
          all_goals
            have hend := hbt2.trans (HV.mono hbt2.size)
            clear KEEP HV
            go_wp2_with fail
            exact ⟨⟨2, by omega, rfl, hend⟩, by simp [intOf]⟩
    · skip
      clear r0 r1 r2 r3 r4 r5
      have hsr := hs2.out.trans (hbel.mono hs2.out.size)
      go_wp2_with fail
      refine (haw.out _).mono ?_
      rintro e u1 ⟨rfl, hb1⟩
      go_wp2_with fail
      go_ret
      exact ⟨rfl, hsr.trans (hb1.mono hsr.size)⟩

theorem cells_u8 : Try.prog.cellsOf 5 = 1 := by kernel_rfl
theorem own : ownKnob Try.prog.godebug = none := by kernel_rfl
theorem laidOut : laidOutB Try.prog = true := by kernel_rfl
theorem contract (H : Type) (enc : TypeId × Value → H) (W : World) (base : Nat) (args : Array Value) (ds gs : List (DataW H)) (before : List MemPlace)
    (hval : ∀ (j : Nat) t v, Try.f3.params[j]? = some t → args[j]? = some v → Value.okWide Try.prog W .any base t v)
    (hW : DataW.Whole enc Try.prog Try.f3.params.toList Rows.clockAdvancesSpec.vars false W args.toList ds gs before) :
    Calls Try.prog 3 args W fun e W' => ∃ v, e = .returned v ∧ Rows.clockAdvancesSpec.post enc Try.prog Try.f3 false true false false W args v W' := by
  have hW' := hW
  obtain ⟨p, q, hA0, hV, rfl, hfz, hnd⟩ := hW
  have hA : DataW.TrodAll enc Try.prog W 0 (fun _ => true) true Try.f3.params.toList args.toList ds p := hA0
  rw [Try.params3] at hA hval
  obtain ⟨v0, vs0, d0, ds0, p0, q0, hargs, rfl, rfl, h0, r0⟩ := trodAll_cons hA
  obtain ⟨v1, vs1, d1, ds1, p1, q1, rfl, rfl, rfl, h1, r1⟩ := trodAll_cons r0
  obtain ⟨v2, vs2, d2, ds2, p2, q2, rfl, rfl, rfl, h2, r2⟩ := trodAll_cons r1
  obtain ⟨v3, vs3, d3, ds3, p3, q3, rfl, rfl, rfl, h3, r3⟩ := trodAll_cons r2
  obtain ⟨v4, vs4, d4, ds4, p4, q4, rfl, rfl, rfl, h4, r4⟩ := trodAll_cons r3
  obtain ⟨v5, vs5, d5, ds5, p5, q5, rfl, rfl, rfl, h5, r5⟩ := trodAll_cons r4
  obtain ⟨rfl, rfl, rfl⟩ := trodAll_nil r5
  obtain rfl : args = #[v0, v1, v2, v3, v4, v5] := by cases args; simp_all
  obtain ⟨c0, rfl, hf0⟩ := open_clock Try.underlying23 (by kernel_rfl) ⟨rfl, rfl, rfl⟩ ⟨by kernel_rfl, by kernel_rfl, by kernel_rfl⟩ Try.underlying2 Try.underlying2 Try.underlying4 (hval 0 23 v0 rfl rfl) h0
  obtain ⟨a1, rfl, -, -, w1⟩ := open_int Try.underlying2 (hval 1 2 v1 rfl rfl) h1
  obtain ⟨a2, rfl, -, -, w2⟩ := open_int Try.underlying2 (hval 2 2 v2 rfl rfl) h2
  obtain ⟨a3, rfl, -, -, w3⟩ := open_int Try.underlying2 (hval 3 2 v3 rfl rfl) h3
  obtain ⟨b4, rfl, -, -⟩ := open_bool Try.underlying4 (hval 4 4 v4 rfl rfl) h4
  obtain ⟨a5, rfl, -, -, w5⟩ := open_int Try.underlying24 (hval 5 24 v5 rfl rfl) h5
  clear hA0
  refine (walk c0 hf0 a1 (bounds_i64 w1) a2 (bounds_i64 w2) a3 (bounds_i64 w3) b4 a5 (bounds_u16 w5) W ).mono fun e W' ⟨he, hb⟩ => ?_
  subst he
  exact ⟨_, rfl, law_post laidOut (types_fit (by kernel_rfl)) (by kernel_rfl) Try.underlying4 rfl (fun xs hx => by
    match xs, hx with
    | [_, _, _, _, _, _], _ => rfl) hW' hb⟩

theorem lifted (os : Os) (started : os.Started) (H : Type) (enc : TypeId × Value → H) :
    ReturnsInHanded {} Try.checked os 3 .any (Rows.clockAdvancesSpec.pre6 enc Try.prog Try.f3 Rows.clockAdvancesRow.domain false) (Rows.clockAdvancesSpec.post enc Try.prog Try.f3 false true false false) := by
  refine returnsInHanded_of_change (C := Try.checked) own started (by kernel_rfl) Try.func3
    (ChangeSpec.witness6 (enc := enc) (C := Try.checked) false ⟨#[], #[.agg #[.int .i64 0, .int .i64 0, .bool false], .int .i64 0, .int .i64 0, .int .i64 0, .bool false, .int .u16 0], []⟩ 8 (by kernel_rfl) (by kernel_rfl) (by kernel_rfl) (by kernel_rfl)) ?_
  intro W base args ds gs before hval hW _ _
  exact contract H enc W base args ds gs before hval hW

theorem proved : Rows.ClockAdvancesSaid :=
  OpenClaim.holds_of_wide 3 Try.f3 rfl rfl rfl rfl rfl rfl rfl ⟨rfl, rfl, rfl, rfl, rfl⟩ rfl rfl rfl rfl rfl (by kernel_rfl) Try.func3 (by kernel_rfl)
    (of_decide_eq_true (by kernel_rfl)) (by unfold Func.isWrapper; first | (rw [if_pos (by decide +kernel)]; kernel_rfl) | (rw [if_neg (by decide +kernel)]; exact ⟨rfl, rfl⟩))
    (fun os started H enc _ => lifted os started H enc)
end Go.Proofs.Ytafhbdbmoeihaaa.clockAdvances
