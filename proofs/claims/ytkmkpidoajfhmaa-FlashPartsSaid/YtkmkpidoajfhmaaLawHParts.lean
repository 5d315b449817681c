/- FlashParts holds for every input: programming and reading in parts is the same as at once. No condition. -/
import Derived.Test.YtkmkpidoajfhmaaE5e
import Derived.Test.YtkmkpidoajfhmaaE5q
import Derived.Test.YtkmkpidoajfhmaaApp
import Derived.Test.YtkmkpidoajfhmaaLaw
namespace Go.Proofs.Ytkmkpidoajfhmaa.flashParts
open Go.RowKit Go.ChangeShapes Go.WideShapes Go.ChangeAt Go.Proofs.Ytkmkpidoajfhmaa.Mem Go.Proofs.Ytkmkpidoajfhmaa.E5p Go.Proofs.Ytkmkpidoajfhmaa.E5m Go.Proofs.Ytkmkpidoajfhmaa.E5a Go.Proofs.Ytkmkpidoajfhmaa.E5d Go.Proofs.Ytkmkpidoajfhmaa.Made Go.Proofs.Ytkmkpidoajfhmaa.Same Go.Proofs.Ytkmkpidoajfhmaa.Law
set_option maxRecDepth 100000
set_option maxHeartbeats 1000000

theorem walk (A : Option Addr) (n c : Nat) (l : List Int) (hn : n = l.length) (hw : ∀ x ∈ l, -9223372036854775808 ≤ x ∧ x ≤ 9223372036854775807) (hc : n ≤ c) (hm : c ≤ maxLen) (_hA : A = none → c = 0)
    (cut : Int) (hcut : -9223372036854775808 ≤ cut ∧ cut ≤ 9223372036854775807) (at_ : Int) (hat : -9223372036854775808 ≤ at_ ∧ at_ ≤ 9223372036854775807)
    (w : World) (hr : IRow w.heap.size w A l) :
    Calls Try.prog 10 #[.slice A n c, .int .i64 cut, .int .i64 at_] w fun e w' => e = .returned (.bool true) ∧ Below w.heap.size w w' := by
  have hl := lightmade_any A n c
  have hnm : n ≤ maxLen := Nat.le_trans hc hm
  by_cases h600 : n ≤ 600
  · have hd : decide (n ≤ 600) = true := by simpa using h600
    have hmd := made_any A n c l w hn hr hw (by omega)
    have HM := Lib.hid hmd; clear hmd
    have HN := Lib.hid hn; clear hn
    go_enter Try.func10, Try.ntmps10
    go_wp2_with fail
    refine (hl w hnm).mono ?_
    rintro e w' ⟨rfl, rfl⟩
    rw [hd]
    go_wp2_with fail
    refine HM.out.mono ?_
    rintro e w1 ⟨d, b, g, hlen, rfl, hd1, hob, hg0, n1, n2, n3⟩
    have HB := Lib.hid hlen; clear hlen
    go_wp2_with fail
    refine (At.new 2 64 (by omega) (by omega) (by omega) (by omega) w.heap.size w w1 hd1.low hd1.base).mono ?_
    rintro e w2 ⟨d', rfl, hc1, hb2, hnew⟩
    have ap := hd1.dev.apart hnew (Nat.le_refl _)
    have hd2 := hd1.step hb2
    go_wp2_with fail
    refine (mod_any cut 129 w2 hcut.1 hcut.2 (by omega) (by omega)).mono ?_
    rintro e w' ⟨⟨k, hk, rfl, -⟩, rfl⟩
    go_wp2_with fail
    have hgl := (own_lt hob HB.out).2
    have hob2 := own_stays hob HB.out (hb2.block g hgl)
    have hm1 := hnew.low; have hm2 := hnew.lb; have hm3 := hnew.lw
    have hob3 : Own w.heap.size w2.drew (.slice (some ⟨g, 0, none⟩) 128 128) b := hob2
    have hc2 := hc1.drew
    have hd3 := hd2.drew
    have hsl := sl_own hob3 HB.out.symm
    have e1 := Fl.half_of b k HB.out (by omega)
    have e2 := Fl.half_rest b k HB.out (by omega)
    have hP2 := fun (w3 : World) (h : At w.heap.size w w3 d' (Fl.half b k) (0 + (128 - k))) (ho : Own w.heap.size w3 (.slice (some ⟨g, 0, none⟩) 128 128) b) =>
      h.program (by omega) (some ⟨g, 0, none⟩) k 128 (b.take k) (sl_front (sl_own ho HB.out.symm) (by omega)) (Off.block (by omega) (by omega) (by omega)) 0 (by omega) (by omega) (by omega)
    rw [e2] at hP2
    have HP2 := Lib.hid hP2; clear hP2
    have hfin : True := trivial
    by_cases hk8 : k < 128
    · have hP1 := hc2.program (by omega) (some ⟨g, k, none⟩) (128 - k) (128 - k) (b.drop k) (sl_cut hsl hk8) (Off.block (by omega) (by omega) (by omega)) (k : Int) (by omega) (by omega) (by omega)
      rw [e1] at hP1
      have HP1 := Lib.hid hP1; clear hP1
      clear e1 e2
      have b1 : (0 : Int) ≤ (k : Int) := by omega
      have b2 : (k : Int) ≤ 128 := by omega
      have b3 : ¬ (128 = k) := by omega
      go_region_law (first
        | (go_simp; go_at_call 18; (with_reducible refine (HP1.out).mono ?_); rintro e w3 ⟨rfl, hc3, hk3⟩; dsimp only at hc3; have hob4 := own_stays hob3 HB.out (hk3.block g (by show g < w2.heap.size; have := hb2.size; omega) (by omega) (by omega) (by omega)))
        | (go_simp; go_at_call 18; (with_reducible refine (HP2.out _ hc3 hob4).mono ?_); rintro e w4 ⟨rfl, hc4, hk4⟩; dsimp only at hc4))
      have hc5 : At w.heap.size w w4 d' (Fl.full b) 128 := ⟨hc4.dev, hc4.ok.more (by omega), hc4.low⟩
      have hd5 := (hd3.kept hk3 ap.symm hc3).kept hk4 ap.symm hc4
      have hg3 : g < w3.heap.size := (own_lt hob4 HB.out).2
      have hob5 := own_stays hob4 HB.out (hk4.block g hg3 (by omega) (by omega) (by omega))
      clear hc4 hc3 hd3 hk3 hk4 hob4 hob3 hob2 hob hsl hd2 hd1 hc1 hc2 hm1 hm2 hm3
      have ra := hc5.read 0 128 (by omega) (by omega) (by omega) (by omega)
      rw [Fl.full_all b HB.out] at ra
      have RA := Lib.hid ra; clear ra
      go_wp2_with fail
      refine RA.out.mono ?_
      rintro e w5 ⟨X, xn, xc, rfl, hxo, hxs, hb5, hc6⟩
      clear RA
      have hd6 := hd5.step hb5
      have hob6 := own_stays hob5 HB.out (hb5.block g (own_lt hob5 HB.out).2)
      go_wp2_with fail
      refine (mod_any at_ 129 w5 hat.1 hat.2 (by omega) (by omega)).mono ?_
      rintro e w' ⟨⟨r, hr, rfl, -⟩, rfl⟩
      have ry := hd6.read 0 (r : Int) (by omega) (by omega) (by omega) (by omega)
      rw [Fl.full_front b HB.out r (by omega)] at ry
      have RY := Lib.hid ry; clear ry
      go_wp2_with fail
      refine RY.out.mono ?_
      rintro e w6 ⟨Y, yn, yc, rfl, hyo, hys, hb6, hd7⟩
      clear RY
      have hc7 := hc6.step hb6
      have hxs7 := hxs.step hb6
      have hob7 := own_stays hob6 HB.out (hb6.block g (own_lt hob6 HB.out).2)
      have rz := hd7.read (r : Int) (128 - (r : Int)) (by omega) (by omega) (by omega) (by omega)
      rw [Fl.full_back b HB.out r (by omega)] at rz
      have RZ := Lib.hid rz; clear rz
      go_wp2_with fail
      refine RZ.out.mono ?_
      rintro e w7 ⟨Z, zn, zc, rfl, hzo, hzs, hb7, hd8⟩
      clear RZ
      have hc8 := hc7.step hb7
      have hxs8 := hxs7.step hb7
      have hys8 := hys.step hb7
      have hob8 := own_stays hob7 HB.out (hb7.block g (own_lt hob7 HB.out).2)
      clear hob7 hob6 hob5 hc7 hc6 hc5 hd7 hd6 hd5 hxs hxs7 hys hyo hzo hxo
      have hbs := sl_own hob8 HB.out.symm
      go_wp2_with fail
      refine (same_yes hxs8 hbs).mono ?_
      rintro e w8 ⟨rfl, hb8⟩
      have hc9 := hc8.step hb8
      have hys9 := hys8.step hb8
      have hzs9 := hzs.step hb8
      have hbs9 := hbs.step hb8
      clear hc8 hys8 hzs hbs hxs8 hd8
      have hyn : yn = r := by have := hys9.len; have := HB.out; simp at *; omega
      have hzn : zn = 128 - r := by have := hzs9.len; have := HB.out; simp at *; omega
      obtain ⟨i0, hi, hz0, hz1, hz2⟩ := info_parts info5
      have own0 : w8.ownsRow w8.heap.size 5 1 (.slice none 0 0) 0 [] := ⟨by simp, .inl ⟨rfl, rfl⟩⟩
      have HY := Lib.hid hyn; have HZ := Lib.hid hzn; clear hyn hzn
      go_wp2_with (first
        | (at_builtin; refine wpList_append_w _ (by go_simp) (.const (.slice none 0 0)) (.tmp 104) 35 rfl w8.heap.size 5 i0 _ 1 Try.underlying35 hi hz0 hz1 hz2 rfl _ 0 [] rfl own0 w8.heap.size Y yn yc (bvs (b.take r)) rfl (by rw [len_bvs]; exact hys9.len.symm) hys9.row hys9.nil (bvs_one _) (by have := HY.out; unfold maxLen; omega) (by have := HY.out; omega) (Nat.le_refl _) ?_; intro v1 w10 ho1 hg1; have hb10 := (Below.refl w8.heap.size w8).grown hg1 (Nat.le_refl _) (fun k hk => (by cases hk)))
        | (at_builtin; refine wpList_append_w _ (by go_simp) (.tmp 105) (.tmp 106) 35 rfl w8.heap.size 5 i0 _ 1 Try.underlying35 hi hz0 hz1 hz2 rfl v1 (0 + yn) ([] ++ bvs (b.take r)) rfl ho1 w10.heap.size Z zn zc (bvs (b.drop r)) rfl (by rw [len_bvs]; exact hzs9.len.symm) (hzs9.step hb10).row hzs9.nil (bvs_one _) (by have := HY.out; have := HZ.out; unfold maxLen; omega) (by have := HY.out; have := HZ.out; omega) hb10.size ?_; intro v2 w11 ho2 hg2; have hb11 := below_grown hb10 ho1 hg2 hb10.size; have hoz : Own w8.heap.size w11 v2 b := (own_of ho2 (by have := HY.out; have := HZ.out; have := HB.out; omega) (by rw [List.nil_append, ← bvs_app, List.take_append_drop])); obtain ⟨V, vn, vc, rfl, hvs⟩ := Sl.of_own hoz))
      refine (same_yes hvs (hbs9.step hb11)).mono ?_
      rintro e w12 ⟨rfl, hb12⟩
      have hc13 := (hc9.step hb11).step hb12
      go_wp2_with fail
      refine (steps_p hc13.dev).mono ?_
      rintro e w' ⟨rfl, rfl⟩
      go_wp2_with fail
      refine (awake_any _).mono ?_
      rintro e w13 ⟨rfl, hb13⟩
      go_wp2_with fail
      go_ret
      exact ⟨rfl, (hc13.step hb13).low⟩
    · obtain rfl : k = 128 := by omega
      have hnil : b.drop 128 = [] := List.drop_eq_nil_of_le (by have := HB.out; omega)
      rw [hnil] at e1
      have hP1 := hc2.program (by omega) (some ⟨g, 0, none⟩) 0 0 [] ⟨rfl, Rd.nil, Nat.le_refl _, by unfold maxLen; omega, fun hh => by cases hh⟩ (Off.block (by omega) (by omega) (by omega)) 128 (by omega) (by omega) (by omega)
      rw [show (Fl.new 2 64).program 128 [] = (Fl.half b 128, 0) from e1] at hP1
      have HP1 := Lib.hid hP1; clear hP1
      clear e1 e2 hnil
      go_region_law (first
        | (go_simp; go_at_call 18; (with_reducible refine (HP1.out).mono ?_); rintro e w3 ⟨rfl, hc3, hk3⟩; dsimp only at hc3; have hob4 := own_stays hob3 HB.out (hk3.block g (by show g < w2.heap.size; have := hb2.size; omega) (by omega) (by omega) (by omega)))
        | (go_simp; go_at_call 18; (with_reducible refine (HP2.out _ hc3 hob4).mono ?_); rintro e w4 ⟨rfl, hc4, hk4⟩; dsimp only at hc4))
      have hc5 : At w.heap.size w w4 d' (Fl.full b) 128 := ⟨hc4.dev, hc4.ok.more (by omega), hc4.low⟩
      have hd5 := (hd3.kept hk3 ap.symm hc3).kept hk4 ap.symm hc4
      have hg3 : g < w3.heap.size := (own_lt hob4 HB.out).2
      have hob5 := own_stays hob4 HB.out (hk4.block g hg3 (by omega) (by omega) (by omega))
      clear hc4 hc3 hd3 hk3 hk4 hob4 hob3 hob2 hob hsl hd2 hd1 hc1 hc2 hm1 hm2 hm3
      have ra := hc5.read 0 128 (by omega) (by omega) (by omega) (by omega)
      rw [Fl.full_all b HB.out] at ra
      have RA := Lib.hid ra; clear ra
      go_wp2_with fail
      refine RA.out.mono ?_
      rintro e w5 ⟨X, xn, xc, rfl, hxo, hxs, hb5, hc6⟩
      clear RA
      have hd6 := hd5.step hb5
      have hob6 := own_stays hob5 HB.out (hb5.block g (own_lt hob5 HB.out).2)
      go_wp2_with fail
      refine (mod_any at_ 129 w5 hat.1 hat.2 (by omega) (by omega)).mono ?_
      rintro e w' ⟨⟨r, hr, rfl, -⟩, rfl⟩
      have ry := hd6.read 0 (r : Int) (by omega) (by omega) (by omega) (by omega)
      rw [Fl.full_front b HB.out r (by omega)] at ry
      have RY := Lib.hid ry; clear ry
      go_wp2_with fail
      refine RY.out.mono ?_
      rintro e w6 ⟨Y, yn, yc, rfl, hyo, hys, hb6, hd7⟩
      clear RY
      have hc7 := hc6.step hb6
      have hxs7 := hxs.step hb6
      have hob7 := own_stays hob6 HB.out (hb6.block g (own_lt hob6 HB.out).2)
      have rz := hd7.read (r : Int) (128 - (r : Int)) (by omega) (by omega) (by omega) (by omega)
      rw [Fl.full_back b HB.out r (by omega)] at rz
      have RZ := Lib.hid rz; clear rz
      go_wp2_with fail
      refine RZ.out.mono ?_
      rintro e w7 ⟨Z, zn, zc, rfl, hzo, hzs, hb7, hd8⟩
      clear RZ
      have hc8 := hc7.step hb7
      have hxs8 := hxs7.step hb7
      have hys8 := hys.step hb7
      have hob8 := own_stays hob7 HB.out (hb7.block g (own_lt hob7 HB.out).2)
      clear hob7 hob6 hob5 hc7 hc6 hc5 hd7 hd6 hd5 hxs hxs7 hys hyo hzo hxo
      have hbs := sl_own hob8 HB.out.symm
      go_wp2_with fail
      refine (same_yes hxs8 hbs).mono ?_
      rintro e w8 ⟨rfl, hb8⟩
      have hc9 := hc8.step hb8
      have hys9 := hys8.step hb8
      have hzs9 := hzs.step hb8
      have hbs9 := hbs.step hb8
      clear hc8 hys8 hzs hbs hxs8 hd8
      have hyn : yn = r := by have := hys9.len; have := HB.out; simp at *; omega
      have hzn : zn = 128 - r := by have := hzs9.len; have := HB.out; simp at *; omega
      obtain ⟨i0, hi, hz0, hz1, hz2⟩ := info_parts info5
      have own0 : w8.ownsRow w8.heap.size 5 1 (.slice none 0 0) 0 [] := ⟨by simp, .inl ⟨rfl, rfl⟩⟩
      have HY := Lib.hid hyn; have HZ := Lib.hid hzn; clear hyn hzn
      go_wp2_with (first
        | (at_builtin; refine wpList_append_w _ (by go_simp) (.const (.slice none 0 0)) (.tmp 104) 35 rfl w8.heap.size 5 i0 _ 1 Try.underlying35 hi hz0 hz1 hz2 rfl _ 0 [] rfl own0 w8.heap.size Y yn yc (bvs (b.take r)) rfl (by rw [len_bvs]; exact hys9.len.symm) hys9.row hys9.nil (bvs_one _) (by have := HY.out; unfold maxLen; omega) (by have := HY.out; omega) (Nat.le_refl _) ?_; intro v1 w10 ho1 hg1; have hb10 := (Below.refl w8.heap.size w8).grown hg1 (Nat.le_refl _) (fun k hk => (by cases hk)))
        | (at_builtin; refine wpList_append_w _ (by go_simp) (.tmp 105) (.tmp 106) 35 rfl w8.heap.size 5 i0 _ 1 Try.underlying35 hi hz0 hz1 hz2 rfl v1 (0 + yn) ([] ++ bvs (b.take r)) rfl ho1 w10.heap.size Z zn zc (bvs (b.drop r)) rfl (by rw [len_bvs]; exact hzs9.len.symm) (hzs9.step hb10).row hzs9.nil (bvs_one _) (by have := HY.out; have := HZ.out; unfold maxLen; omega) (by have := HY.out; have := HZ.out; omega) hb10.size ?_; intro v2 w11 ho2 hg2; have hb11 := below_grown hb10 ho1 hg2 hb10.size; have hoz : Own w8.heap.size w11 v2 b := (own_of ho2 (by have := HY.out; have := HZ.out; have := HB.out; omega) (by rw [List.nil_append, ← bvs_app, List.take_append_drop])); obtain ⟨V, vn, vc, rfl, hvs⟩ := Sl.of_own hoz))
      refine (same_yes hvs (hbs9.step hb11)).mono ?_
      rintro e w12 ⟨rfl, hb12⟩
      have hc13 := (hc9.step hb11).step hb12
      go_wp2_with fail
      refine (steps_p hc13.dev).mono ?_
      rintro e w' ⟨rfl, rfl⟩
      go_wp2_with fail
      refine (awake_any _).mono ?_
      rintro e w13 ⟨rfl, hb13⟩
      go_wp2_with fail
      go_ret
      exact ⟨rfl, (hc13.step hb13).low⟩
  · have hd : decide (n ≤ 600) = false := by simpa using h600
    have HN := Lib.hid hn; clear hn
    go_enter Try.func10, Try.ntmps10
    go_wp2_with fail
    refine (hl w hnm).mono ?_
    rintro e w' ⟨rfl, rfl⟩
    rw [hd]
    go_wp2_with fail
    refine (awake_any w).mono ?_
    rintro e w1 ⟨rfl, hb⟩
    go_wp2_with fail
    go_ret
    exact ⟨rfl, hb⟩

theorem cells_u8 : Try.prog.cellsOf 5 = 1 := by kernel_rfl
theorem cells_int : Try.prog.cellsOf 3 = 1 := by kernel_rfl
theorem own : ownKnob Try.prog.godebug = none := by kernel_rfl
theorem laidOut : laidOutB Try.prog = true := by kernel_rfl
theorem contract (H : Type) (enc : TypeId × Value → H) (W : World) (base : Nat) (args : Array Value) (ds gs : List (DataW H)) (before : List MemPlace)
    (hval : ∀ (j : Nat) t v, Try.f10.params[j]? = some t → args[j]? = some v → Value.okWide Try.prog W .any base t v)
    (hW : DataW.Whole enc Try.prog Try.f10.params.toList Rows.flashPartsSpec.vars false W args.toList ds gs before) :
    Calls Try.prog 10 args W fun e W' => ∃ v, e = .returned v ∧ Rows.flashPartsSpec.post enc Try.prog Try.f10 false true false false W args v W' := by
  have hW' := hW
  obtain ⟨p, q, hA0, hV, rfl, hfz, hnd⟩ := hW
  have hA : DataW.TrodAll enc Try.prog W 0 (fun _ => true) true Try.f10.params.toList args.toList ds p := hA0
  rw [Try.params10] at hA hval
  obtain ⟨v0, vs0, d0, ds0, p0, q0, hargs, rfl, rfl, h0, r0⟩ := trodAll_cons hA
  obtain ⟨v1, vs1, d1, ds1, p1, q1, rfl, rfl, rfl, h1, r1⟩ := trodAll_cons r0
  obtain ⟨v2, vs2, d2, ds2, p2, q2, rfl, rfl, rfl, h2, r2⟩ := trodAll_cons r1
  obtain ⟨rfl, rfl, rfl⟩ := trodAll_nil r2
  obtain rfl : args = #[v0, v1, v2] := by cases args; simp_all
  obtain ⟨A0, n0, c0, l0, rfl, hn0, hr0, hw0, hc0, hm0, hk0⟩ := open_int_list Try.underlying46 Try.underlying3 cells_int (hval 0 46 v0 rfl rfl) h0
  obtain ⟨a1, rfl, -, -, w1⟩ := open_int Try.underlying3 (hval 1 3 v1 rfl rfl) h1
  obtain ⟨a2, rfl, -, -, w2⟩ := open_int Try.underlying3 (hval 2 3 v2 rfl rfl) h2
  clear hA0
  refine (walk A0 n0 c0 l0 hn0 hw0 hc0 hm0 hk0 a1 (bounds_i64 w1) a2 (bounds_i64 w2) W hr0).mono fun e W' ⟨he, hb⟩ => ?_
  subst he
  exact ⟨_, rfl, law_post laidOut (types_fit (by kernel_rfl)) (by kernel_rfl) Try.underlying4 rfl (fun xs hx => by
    match xs, hx with
    | [_, _, _], _ => rfl) hW' hb⟩

theorem lifted (os : Os) (started : os.Started) (H : Type) (enc : TypeId × Value → H) :
    ReturnsInHanded {} Try.checked os 10 .any (Rows.flashPartsSpec.pre6 enc Try.prog Try.f10 Rows.flashPartsRow.domain false) (Rows.flashPartsSpec.post enc Try.prog Try.f10 false true false false) := by
  refine returnsInHanded_of_change (C := Try.checked) own started (by kernel_rfl) Try.func10
    (ChangeSpec.witness6 (enc := enc) (C := Try.checked) false ⟨#[], #[.slice none 0 0, .int .i64 0, .int .i64 0], []⟩ 8 (by kernel_rfl) (by kernel_rfl) (by kernel_rfl) (by kernel_rfl)) ?_
  intro W base args ds gs before hval hW _ _
  exact contract H enc W base args ds gs before hval hW

theorem proved : Rows.FlashPartsSaid :=
  OpenClaim.holds_of_wide 10 Try.f10 rfl rfl rfl rfl rfl rfl rfl ⟨rfl, rfl, rfl, rfl, rfl⟩ rfl rfl rfl rfl rfl (by kernel_rfl) Try.func10 (by kernel_rfl)
    (of_decide_eq_true (by kernel_rfl)) (by unfold Func.isWrapper; first | (rw [if_pos (by decide +kernel)]; kernel_rfl) | (rw [if_neg (by decide +kernel)]; exact ⟨rfl, rfl⟩))
    (fun os started H enc _ => lifted os started H enc)
end Go.Proofs.Ytkmkpidoajfhmaa.flashParts
