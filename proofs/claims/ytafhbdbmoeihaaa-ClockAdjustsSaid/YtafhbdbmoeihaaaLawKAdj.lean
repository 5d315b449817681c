/- The statement ClockAdjusts: what setting any clock to any time answers, the clock, the events and the error, is what the chapter's reference says. -/
import Derived.Test.YtafhbdbmoeihaaaV9j
import Derived.Test.YtafhbdbmoeihaaaV9i
import Derived.Test.YtafhbdbmoeihaaaLaw8
import Derived.Laws.StructEq
import Derived.Deep.RegionHeld3
namespace Go.Proofs.Ytafhbdbmoeihaaa.clockAdjusts
open Go.RowKit Go.ChangeShapes Go.WideShapes Go.ChangeAt Go.Proofs.Ytafhbdbmoeihaaa.Mem Go.Proofs.Ytafhbdbmoeihaaa.Law Go.Proofs.Ytafhbdbmoeihaaa.F2p Go.Proofs.Ytafhbdbmoeihaaa.V7 Go.Proofs.Ytafhbdbmoeihaaa.V9 Go.Proofs.Ytafhbdbmoeihaaa.Made
set_option maxRecDepth 100000
set_option maxHeartbeats 4000000

theorem walk (c : Ck) (hf : c.Fit) (tick : Int) (_h2 : -9223372036854775808 ≤ tick ∧ tick ≤ 9223372036854775807) (base : Int) (_h3 : -9223372036854775808 ≤ base ∧ base ≤ 9223372036854775807) (set : Bool) (secs : Int) (hsec : 0 ≤ secs ∧ secs ≤ 4294967295) (W : World) :
    Calls Try.prog 4 #[c.v, .int .i64 tick, .int .i64 base, .bool set, .int .u32 secs] W fun e W' => e = .returned (.bool true) ∧ Below W.heap.size W W' := by
  obtain ⟨secs, rfl⟩ := nat_of hsec.1
  have haw := Lib.hid (fun u => awake_any u)
  have hmd := Lib.hid (fun u => made_any tick base set u)
  have hap := Lib.hid (fun xt xb xs hx => adj_both xt xb xs hx secs (by omega))
  have hsl := Lib.hid (fun u A A' n n' c c' l h1 h2 h3 h4 => same_evs (w := u) (A := A) (A' := A') (n := n) (n' := n') (c := c) (c' := c') (l := l) h1 h2 h3 h4)
  have hC0 := CBox.new W c
  have hs0 : Below W.heap.size W (W.alloc (.cells c.cells 23)) := (Below.refl _ _).alloc (Nat.le_refl _) _
  have HF := Lib.hid hf
  clear hf
  obtain ⟨ct, cb, cs⟩ := c
  simp only [Ck.v, Ck.cells] at hC0 hs0 ⊢
  replace hC0 := Lib.hid hC0
  replace hs0 := Lib.hid hs0
  go_enter Try.func4, Try.ntmps4
  go_wp2_with fail
  have hC1 := hC0.out
  have hs1 := hs0.out
  generalize W.alloc (.cells #[.int .i64 ct, .int .i64 cb, .bool cs] 23) = w1 at *
  clear hC0 hs0
  have KEEP : Hid (∀ V, Below w1.heap.size w1 V → V.cell? ⟨W.heap.size, 0, none⟩ = some (.int .i64 ct) ∧ V.cell? ⟨W.heap.size, 1, none⟩ = some (.int .i64 cb) ∧ V.cell? ⟨W.heap.size, 2, none⟩ = some (.bool cs)) := Lib.hid fun V hV =>
    have hB := CBox.below hC1 hV hC1.lt
    ⟨hB.c0, hB.c1, hB.c2⟩
  have HV : Below w1.heap.size w1 w1.drew := (Below.refl _ _).drew
  replace hs1 := Lib.hid hs1
  clear hC1
  go_region_held3 (fun V => V.cell? ⟨W.heap.size, 0, none⟩ = some (.int .i64 ct) ∧ V.cell? ⟨W.heap.size, 1, none⟩ = some (.int .i64 cb) ∧ V.cell? ⟨W.heap.size, 2, none⟩ = some (.bool cs)) (first | exact KEEP.out _ HV | exact KEEP.out _ (HV.alloc HV.size _))
    (first
      | (go_at_call 9; refine (hmd.out _).mono ?_; rintro e w2 ⟨⟨dt, db, ds⟩, hd, rfl, hb2⟩; dsimp only [Ck.v, Ck.cells]; have HV := HV.trans (hb2.mono HV.size)))
  have hz2 : W.heap.size ≤ w2.heap.size := Nat.le_trans hs1.out.size HV.size
  have hs2 := (hs1.out.trans (HV.mono hs1.out.size)).alloc hz2 (.cells #[.int .i64 ct, .int .i64 cb, .bool cs, .int .i64 dt, .int .i64 db, .bool ds] 23)
  have hg2 : w2.heap.size < (w2.alloc (.cells #[.int .i64 ct, .int .i64 cb, .bool cs, .int .i64 dt, .int .i64 db, .bool ds] 23)).heap.size := by simp
  have r0 := cell_of_row (w2.alloc (.cells #[.int .i64 ct, .int .i64 cb, .bool cs, .int .i64 dt, .int .i64 db, .bool ds] 23)) w2.heap.size 0 _ _ _ (heap_alloc_new w2 _)
  have r1 := cell_of_row (w2.alloc (.cells #[.int .i64 ct, .int .i64 cb, .bool cs, .int .i64 dt, .int .i64 db, .bool ds] 23)) w2.heap.size 1 _ _ _ (heap_alloc_new w2 _)
  have r2 := cell_of_row (w2.alloc (.cells #[.int .i64 ct, .int .i64 cb, .bool cs, .int .i64 dt, .int .i64 db, .bool ds] 23)) w2.heap.size 2 _ _ _ (heap_alloc_new w2 _)
  have r3 := cell_of_row (w2.alloc (.cells #[.int .i64 ct, .int .i64 cb, .bool cs, .int .i64 dt, .int .i64 db, .bool ds] 23)) w2.heap.size 3 _ _ _ (heap_alloc_new w2 _)
  have r4 := cell_of_row (w2.alloc (.cells #[.int .i64 ct, .int .i64 cb, .bool cs, .int .i64 dt, .int .i64 db, .bool ds] 23)) w2.heap.size 4 _ _ _ (heap_alloc_new w2 _)
  have r5 := cell_of_row (w2.alloc (.cells #[.int .i64 ct, .int .i64 cb, .bool cs, .int .i64 dt, .int .i64 db, .bool ds] 23)) w2.heap.size 5 _ _ _ (heap_alloc_new w2 _)
  have HD := Lib.hid hd.fit
  clear hd
  generalize w2.alloc (.cells #[.int .i64 ct, .int .i64 cb, .bool cs, .int .i64 dt, .int .i64 db, .bool ds] 23) = w3 at *
  obtain ⟨g, hg⟩ : ∃ g, w2.heap.size = g := ⟨_, rfl⟩
  rw [hg] at r0 r1 r2 r3 r4 r5 hg2 ⊢
  clear hg hz2 HV KEEP hs1
  replace hs2 := Lib.hid hs2
  go_wp2_with fail
  go_loopw [26] (fun i wr => ∃ j : Int, (j = 0 ∨ j = 1 ∨ j = 2) ∧ i = .int .i64 j ∧ Below w3.heap.size w3 wr) (fun i _ => 2 - (intOf i).toNat)
  case atStart => exact ⟨0, .inl rfl, rfl, Below.refl _ _⟩
  case round =>
    obtain ⟨j, hj, rfl, hbel⟩ := hrel
    rcases hj with rfl | rfl | rfl
    · skip
      have q0 := (hbel.cell (p := ⟨g, 0, none⟩) hg2).trans r0
      have q1 := (hbel.cell (p := ⟨g, 1, none⟩) hg2).trans r1
      have q2 := (hbel.cell (p := ⟨g, 2, none⟩) hg2).trans r2
      simp at q0 q1 q2
      clear r0 r1 r2 r3 r4 r5
      have hA := CBox.new wr ⟨ct, cb, cs⟩
      have hbelw := hbel.alloc hbel.size (.cells (Ck.mk ct cb cs).cells 23)
      have hrw : wr.heap.size < (wr.alloc (.cells (Ck.mk ct cb cs).cells 23)).heap.size := by simp
      obtain ⟨yt, yb, ys, le, ea, hfe, hle, hP, hR⟩ := hap.out ct cb cs HF.out
      have hq := fun V => run_neq_ck V yt yb ys
      have hg := fun V => guard_ck (.tmp 44) (.tmp 45) yt yb ys yt yb ys V
      replace hP := Lib.hid hP
      replace hR := Lib.hid hR
      replace hfe := Lib.hid hfe
      simp only [Ck.cells] at hA hbelw hrw
      replace hA := Lib.hid hA
      go_wp2_with fail
      clear q0 q1 q2
      obtain ⟨rx, hrx⟩ : ∃ rx, wr.heap.size = rx := ⟨_, rfl⟩
      have hA := hA.out
      generalize wr.alloc (.cells #[.int .i64 ct, .int .i64 cb, .bool cs] 23) = w4 at *
      rw [hrx] at hA hrw ⊢
      refine (hP.out _).mono ?_
      rintro e u1 ⟨v1, rfl, hown1, hb1⟩
      have hA1 := hA.below hb1 hrw
      have hbe1 := hbelw.trans (hb1.mono hbelw.size)
      have hrw1 : rx < u1.heap.size := Nat.lt_of_lt_of_le hrw hb1.size
      have hsl1 := hown1.sl
      obtain ⟨A1, n1, c1, rfl, hE1⟩ := hsl1
      replace hE1 := Lib.hid (hE1.step ((Below.refl _ _).alloc (Nat.le_refl _) (.cells (Ck.mk yt yb ys).cells 23)))
      clear hown1 hb1 hbelw hA
      have y0 := hA1.c0; have y1 := hA1.c1; have y2 := hA1.c2
      simp only at y0 y1 y2
      go_wp2_with fail
      have hA2 := hA1.alloc (.cells (Ck.mk yt yb ys).cells 23)
      have hB2 := CBox.new u1 ⟨yt, yb, ys⟩
      have hbe2 := hbe1.alloc hbe1.size (.cells (Ck.mk yt yb ys).cells 23)
      have hz2 : (u1.alloc (.cells (Ck.mk yt yb ys).cells 23)).heap.size = u1.heap.size + 1 := by simp
      simp only [Ck.cells] at hA2 hB2 hbe2 hz2 hE1
      clear hA1 hbe1 y0 y1 y2
      generalize u1.alloc (.cells #[.int .i64 yt, .int .i64 yb, .bool ys] 23) = w5 at *
      refine (hR.out _).mono ?_
      rintro e u2 ⟨v2, rfl, hown2, hb2⟩
      have hB3 := hB2.below hb2 (by omega)
      have hbe3 := hbe2.trans (hb2.mono hbe2.size)
      obtain ⟨A2, n2, c2, rfl, hE2⟩ := hown2.sl
      have hE3 := hE1.out.step hb2
      have hz3 := hb2.size
      have hlt3 : u1.heap.size < u2.heap.size := by omega
      have b0 := hB3.c0; have b1 := hB3.c1; have b2 := hB3.c2
      simp only at b0 b1 b2
      have hE4 := hE3.step ((Below.refl _ _).alloc (Nat.le_refl _) (.cells (Ck.mk yt yb ys).cells 23))
      have hE5 := hE2.step ((Below.refl _ _).alloc (Nat.le_refl _) (.cells (Ck.mk yt yb ys).cells 23))
      have hn1 : n1 ≤ 1000 := by rw [hE4.len]; omega
      have hsame := Lib.hid (hsl.out _ A1 A2 n1 n2 c1 c2 le hE4 hE5 hfe.out hn1)
      have hbe4 := hbe3.alloc hbe3.size (.cells (Ck.mk yt yb ys).cells 23)
      simp only [Ck.cells] at hsame hbe4
      clear hB2 hbe2 hown2 hE2 hE3 hE4 hE5 hb2 hB3 hA2 hE1 hn1 hbe3
      go_wp2_with fail
      refine hsame.out.mono ?_
      rintro e u3 ⟨rfl, hb3⟩
      have hbe5 := hbe4.trans (hb3.mono hbe4.size)
      clear b0 b1 b2 hq hg
      go_wp2_with fail
      exact ⟨⟨1, by omega, rfl, hbe5⟩, by simp [intOf]⟩
    · skip
      have q0 := (hbel.cell (p := ⟨g, 3, none⟩) hg2).trans r3
      have q1 := (hbel.cell (p := ⟨g, 4, none⟩) hg2).trans r4
      have q2 := (hbel.cell (p := ⟨g, 5, none⟩) hg2).trans r5
      simp at q0 q1 q2
      clear r0 r1 r2 r3 r4 r5
      have hA := CBox.new wr ⟨dt, db, ds⟩
      have hbelw := hbel.alloc hbel.size (.cells (Ck.mk dt db ds).cells 23)
      have hrw : wr.heap.size < (wr.alloc (.cells (Ck.mk dt db ds).cells 23)).heap.size := by simp
      obtain ⟨yt, yb, ys, le, ea, hfe, hle, hP, hR⟩ := hap.out dt db ds HD.out
      have hq := fun V => run_neq_ck V yt yb ys
      have hg := fun V => guard_ck (.tmp 44) (.tmp 45) yt yb ys yt yb ys V
      replace hP := Lib.hid hP
      replace hR := Lib.hid hR
      replace hfe := Lib.hid hfe
      simp only [Ck.cells] at hA hbelw hrw
      replace hA := Lib.hid hA
      go_wp2_with fail
      clear q0 q1 q2
      obtain ⟨rx, hrx⟩ : ∃ rx, wr.heap.size = rx := ⟨_, rfl⟩
      have hA := hA.out
      generalize wr.alloc (.cells #[.int .i64 dt, .int .i64 db, .bool ds] 23) = w4 at *
      rw [hrx] at hA hrw ⊢
      refine (hP.out _).mono ?_
      rintro e u1 ⟨v1, rfl, hown1, hb1⟩
      have hA1 := hA.below hb1 hrw
      have hbe1 := hbelw.trans (hb1.mono hbelw.size)
      have hrw1 : rx < u1.heap.size := Nat.lt_of_lt_of_le hrw hb1.size
      have hsl1 := hown1.sl
      obtain ⟨A1, n1, c1, rfl, hE1⟩ := hsl1
      replace hE1 := Lib.hid (hE1.step ((Below.refl _ _).alloc (Nat.le_refl _) (.cells (Ck.mk yt yb ys).cells 23)))
      clear hown1 hb1 hbelw hA
      have y0 := hA1.c0; have y1 := hA1.c1; have y2 := hA1.c2
      simp only at y0 y1 y2
      go_wp2_with fail
      have hA2 := hA1.alloc (.cells (Ck.mk yt yb ys).cells 23)
      have hB2 := CBox.new u1 ⟨yt, yb, ys⟩
      have hbe2 := hbe1.alloc hbe1.size (.cells (Ck.mk yt yb ys).cells 23)
      have hz2 : (u1.alloc (.cells (Ck.mk yt yb ys).cells 23)).heap.size = u1.heap.size + 1 := by simp
      simp only [Ck.cells] at hA2 hB2 hbe2 hz2 hE1
      clear hA1 hbe1 y0 y1 y2
      generalize u1.alloc (.cells #[.int .i64 yt, .int .i64 yb, .bool ys] 23) = w5 at *
      refine (hR.out _).mono ?_
      rintro e u2 ⟨v2, rfl, hown2, hb2⟩
      have hB3 := hB2.below hb2 (by omega)
      have hbe3 := hbe2.trans (hb2.mono hbe2.size)
      obtain ⟨A2, n2, c2, rfl, hE2⟩ := hown2.sl
      have hE3 := hE1.out.step hb2
      have hz3 := hb2.size
      have hlt3 : u1.heap.size < u2.heap.size := by omega
      have b0 := hB3.c0; have b1 := hB3.c1; have b2 := hB3.c2
      simp only at b0 b1 b2
      have hE4 := hE3.step ((Below.refl _ _).alloc (Nat.le_refl _) (.cells (Ck.mk yt yb ys).cells 23))
      have hE5 := hE2.step ((Below.refl _ _).alloc (Nat.le_refl _) (.cells (Ck.mk yt yb ys).cells 23))
      have hn1 : n1 ≤ 1000 := by rw [hE4.len]; omega
      have hsame := Lib.hid (hsl.out _ A1 A2 n1 n2 c1 c2 le hE4 hE5 hfe.out hn1)
      have hbe4 := hbe3.alloc hbe3.size (.cells (Ck.mk yt yb ys).cells 23)
      simp only [Ck.cells] at hsame hbe4
      clear hB2 hbe2 hown2 hE2 hE3 hE4 hE5 hb2 hB3 hA2 hE1 hn1 hbe3
      go_wp2_with fail
      refine hsame.out.mono ?_
      rintro e u3 ⟨rfl, hb3⟩
      have hbe5 := hbe4.trans (hb3.mono hbe4.size)
      clear b0 b1 b2 hq hg
      go_wp2_with fail
      exact ⟨⟨2, by omega, rfl, hbe5⟩, by simp [intOf]⟩
    · skip
      clear r0 r1 r2 r3 r4 r5
      have hsr := hs2.out.trans (hbel.mono hs2.out.size)
      go_wp2_with fail
      refine (haw.out _).mono ?_
      rintro e u1 ⟨rfl, hb1⟩
      go_wp2_with fail
      go_ret
      exact ⟨rfl, hsr.trans (hb1.mono hsr.size)⟩

theorem cells_u8 : Try.prog.cellsOf 5 = 1 := by kernel_rfl
theorem own : ownKnob Try.prog.godebug = none := by kernel_rfl
theorem laidOut : laidOutB Try.prog = true := by kernel_rfl
theorem contract (H : Type) (enc : TypeId × Value → H) (W : World) (base : Nat) (args : Array Value) (ds gs : List (DataW H)) (before : List MemPlace)
    (hval : ∀ (j : Nat) t v, Try.f4.params[j]? = some t → args[j]? = some v → Value.okWide Try.prog W .any base t v)
    (hW : DataW.Whole enc Try.prog Try.f4.params.toList Rows.clockAdjustsSpec.vars false W args.toList ds gs before) :
    Calls Try.prog 4 args W fun e W' => ∃ v, e = .returned v ∧ Rows.clockAdjustsSpec.post enc Try.prog Try.f4 false true false false W args v W' := by
  have hW' := hW
  obtain ⟨p, q, hA0, hV, rfl, hfz, hnd⟩ := hW
  have hA : DataW.TrodAll enc Try.prog W 0 (fun _ => true) true Try.f4.params.toList args.toList ds p := hA0
  rw [Try.params4] at hA hval
  obtain ⟨v0, vs0, d0, ds0, p0, q0, hargs, rfl, rfl, h0, r0⟩ := trodAll_cons hA
  obtain ⟨v1, vs1, d1, ds1, p1, q1, rfl, rfl, rfl, h1, r1⟩ := trodAll_cons r0
  obtain ⟨v2, vs2, d2, ds2, p2, q2, rfl, rfl, rfl, h2, r2⟩ := trodAll_cons r1
  obtain ⟨v3, vs3, d3, ds3, p3, q3, rfl, rfl, rfl, h3, r3⟩ := trodAll_cons r2
  obtain ⟨v4, vs4, d4, ds4, p4, q4, rfl, rfl, rfl, h4, r4⟩ := trodAll_cons r3
  obtain ⟨rfl, rfl, rfl⟩ := trodAll_nil r4
  obtain rfl : args = #[v0, v1, v2, v3, v4] := by cases args; simp_all
  obtain ⟨c0, rfl, hf0⟩ := open_clock Try.underlying23 (by kernel_rfl) ⟨rfl, rfl, rfl⟩ ⟨by kernel_rfl, by kernel_rfl, by kernel_rfl⟩ Try.underlying2 Try.underlying2 Try.underlying4 (hval 0 23 v0 rfl rfl) h0
  obtain ⟨a1, rfl, -, -, w1⟩ := open_int Try.underlying2 (hval 1 2 v1 rfl rfl) h1
  obtain ⟨a2, rfl, -, -, w2⟩ := open_int Try.underlying2 (hval 2 2 v2 rfl rfl) h2
  obtain ⟨b3, rfl, -, -⟩ := open_bool Try.underlying4 (hval 3 4 v3 rfl rfl) h3
  obtain ⟨a4, rfl, -, -, w4⟩ := open_int Try.underlying31 (hval 4 31 v4 rfl rfl) h4
  clear hA0
  refine (walk c0 hf0 a1 (bounds_i64 w1) a2 (bounds_i64 w2) b3 a4 (bounds_u32 w4) W ).mono fun e W' ⟨he, hb⟩ => ?_
  subst he
  exact ⟨_, rfl, law_post laidOut (types_fit (by kernel_rfl)) (by kernel_rfl) Try.underlying4 rfl (fun xs hx => by
    match xs, hx with
    | [_, _, _, _, _], _ => rfl) hW' hb⟩

theorem lifted (os : Os) (started : os.Started) (H : Type) (enc : TypeId × Value → H) :
    ReturnsInHanded {} Try.checked os 4 .any (Rows.clockAdjustsSpec.pre6 enc Try.prog Try.f4 Rows.clockAdjustsRow.domain false) (Rows.clockAdjustsSpec.post enc Try.prog Try.f4 false true false false) := by
  refine returnsInHanded_of_change (C := Try.checked) own started (by kernel_rfl) Try.func4
    (ChangeSpec.witness6 (enc := enc) (C := Try.checked) false ⟨#[], #[.agg #[.int .i64 0, .int .i64 0, .bool false], .int .i64 0, .int .i64 0, .bool false, .int .u32 0], []⟩ 8 (by kernel_rfl) (by kernel_rfl) (by kernel_rfl) (by kernel_rfl)) ?_
  intro W base args ds gs before hval hW _ _
  exact contract H enc W base args ds gs before hval hW

theorem proved : Rows.ClockAdjustsSaid :=
  OpenClaim.holds_of_wide 4 Try.f4 rfl rfl rfl rfl rfl rfl rfl ⟨rfl, rfl, rfl, rfl, rfl⟩ rfl rfl rfl rfl rfl (by kernel_rfl) Try.func4 (by kernel_rfl)
    (of_decide_eq_true (by kernel_rfl)) (by unfold Func.isWrapper; first | (rw [if_pos (by decide +kernel)]; kernel_rfl) | (rw [if_neg (by decide +kernel)]; exact ⟨rfl, rfl⟩))
    (fun os started H enc _ => lifted os started H enc)
end Go.Proofs.Ytafhbdbmoeihaaa.clockAdjusts
