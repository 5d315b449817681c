/- SensorDecoded holds for every input: what was decoded is a valid record whose bytes are those that were read. No condition. -/
import Derived.Test.YtafoaonkjcfbaaaK53
import Derived.Test.YtafoaonkjcfbaaaK63
import Derived.Test.YtafoaonkjcfbaaaK64
import Derived.Test.YtafoaonkjcfbaaaK65
import Derived.Test.YtafoaonkjcfbaaaK28
import Derived.Test.YtafoaonkjcfbaaaK66
import Derived.Test.YtafoaonkjcfbaaaK39
namespace Go.Proofs.Ytafoaonkjcfbaaa.sensorDecoded
open Go.RowKit Go.ChangeShapes Go.WideShapes Go.ChangeAt Go.Proofs.Ytafoaonkjcfbaaa.Mem Go.Proofs.Ytafoaonkjcfbaaa.F2p Go.Proofs.Ytafoaonkjcfbaaa.C4l Go.Proofs.Ytafoaonkjcfbaaa.Ta Go.Proofs.Ytafoaonkjcfbaaa.Tb Go.Proofs.Ytafoaonkjcfbaaa.Ua Go.Proofs.Ytafoaonkjcfbaaa.Um Go.Proofs.Ytafoaonkjcfbaaa.Law Go.Proofs.Ytafoaonkjcfbaaa.Made Go.Proofs.Ytafoaonkjcfbaaa.Tl
set_option maxRecDepth 100000
set_option maxHeartbeats 2000000

theorem walk (B : Option Addr) (bn bc : Nat) (b : List UInt8) (hbn : bn = b.length) (hbc : bn ≤ bc) (hbm : bc ≤ maxLen) (hB : B = none → bc = 0) (A : Option Addr) (n c : Nat) (l : List Int) (hn : n = l.length) (hw : ∀ x ∈ l, -9223372036854775808 ≤ x ∧ x ≤ 9223372036854775807) (hc : n ≤ c) (hm : c ≤ maxLen) (_hA : A = none → c = 0)
    (w : World) (hrb : Row w.heap.size w B b) (hr : IRow w.heap.size w A l) :
    Calls Try.prog 6 #[.slice B bn bc, .slice A n c] w fun e w' => e = .returned (.bool true) ∧ Below w.heap.size w w' := by
  have hnm : n ≤ maxLen := by omega
  have hbm2 : bn ≤ maxLen := by omega
  unfold maxLen at hbm2
  have HSB := Lib.hid (show Sl w B bn bc b from ⟨hbn, hrb, hbc, hbm, hB⟩)
  have HN := Lib.hid hn
  have HW := Lib.hid hw
  have HBL := Lib.hid hbn
  clear hn hw hc hm _hA hbn hbc hbm hB hrb
  have haw := Lib.hid (fun u => awake_any u)
  go_enter Try.func6, Try.ntmps6
  by_cases h300 : bn ≤ 300
  case neg =>
    have d1 : decide (300 < (bn : Int)) = true := decide_eq_true (by omega)
    go_wp2_with fail
    refine (haw.out _).mono ?_
    rintro e w3 ⟨rfl, hb3⟩
    go_wp2_with fail
    go_ret
    exact ⟨rfl, hb3⟩
  have d1 : decide (300 < (bn : Int)) = false := decide_eq_false (by omega)
  by_cases h6 : n ≤ 600
  case neg =>
    have d6 : decide (n ≤ 600) = false := decide_eq_false h6
    go_wp2_with fail
    refine (Made.lightmade_any A n c _ hnm).mono ?_
    rintro e w' ⟨rfl, rfl⟩
    rw [d6]
    go_wp2_with fail
    refine (haw.out _).mono ?_
    rintro e w3 ⟨rfl, hb3⟩
    go_wp2_with fail
    go_ret
    exact ⟨rfl, hb3⟩
  have d6 : decide (n ≤ 600) = true := decide_eq_true h6
  go_wp2_with fail
  refine (Made.lightmade_any A n c _ hnm).mono ?_
  rintro e w' ⟨rfl, rfl⟩
  rw [d6]
  go_wp2_with fail
  refine (Made.roll_any A n c w).mono ?_
  rintro e w1 ⟨rfl, rfl⟩
  have hdz := Dz.start A n c l w hr HN.out HW.out (by omega)
  have hb1 : Below w.heap.size w (w.alloc (.cells #[.slice A n c, .int .i64 0] 105)) := (Below.refl _ _).alloc (Nat.le_refl _) _
  generalize w.alloc (.cells #[.slice A n c, .int .i64 0] 105) = w1 at *
  clear d1 d6
  go_wp2_with fail
  refine hdz.byte.mono ?_
  rintro e w2 ⟨nu, rfl, hd2, hg2⟩
  have hb2 := hb1.grown hg2 hb1.size (fun k hk => by injection hk; omega)
  clear hdz hb1 hg2
  go_wp2_with fail
  refine (sensor_any nu hd2).mono ?_
  rintro e w3 ⟨s, V, rfl, hv, hfit, -, hown, hd3, hg3⟩
  have hb3 := hb2.grown hg3 hb2.size (fun k hk => by injection hk; omega)
  obtain ⟨PA, pn, pc, rfl, hsl3⟩ := hown.sl
  have HEL := enc_len hv
  have HENC := Lib.hid (Va.encr_p s PA pn pc w3 hsl3 hv)
  generalize encS s = L at *
  clear hd2 hg3 hb2 hown hnm HN HW hr hsl3 hv hfit
  go_wp2_with fail
  refine HENC.out.mono ?_
  rintro e w4 ⟨u4, rfl, ho4, hb4⟩
  obtain ⟨GA, gn, gc, rfl, hs4⟩ := Sl.of_own ho4
  have hd4 := hd3.below hb4 hd3.lt
  have hbb4 := hb3.trans (hb4.mono hb3.size)
  have hgl := hs4.len
  have hgc := hs4.cap
  obtain ⟨Gb, rfl, -, -⟩ := own_some ho4 (by omega)
  have hs5 : Sl w4 (some ⟨Gb, 0, none⟩) (gn - 1) gc (L.take (gn - 1)) := ⟨by rw [List.length_take]; omega, row_take hs4.row _, by omega, hs4.max, hs4.nil⟩
  have hl5 : (L.take (gn - 1)).length = gn - 1 := by rw [List.length_take]; omega
  have hgr : 10 ≤ gn ∧ gn ≤ 160 := by omega
  obtain ⟨i0, hi, hz0, hz1, hz2⟩ := info_parts info5
  have own0 : w4.ownsRow w4.heap.size 5 1 (.slice none 0 0) 0 [] := World.ownsRow_nil _ _ _ _
  generalize L.take (gn - 1) = M at *
  clear HENC hd3 ho4 hb4 hb3 hs4 hgl HEL
  obtain ⟨m, rfl⟩ : ∃ m, gn = m + 1 := ⟨gn - 1, by omega⟩
  rw [Nat.add_sub_cancel] at hs5 hl5
  have e1 : (((m + 1 : Nat) : Int) - 1) = (m : Int) := by omega
  have b1 : (0 : Int) ≤ (m : Int) := by omega
  have b2 : (m : Int) ≤ (gc : Int) := by omega
  have HM := Lib.hid hl5
  go_wp2_with (at_builtin; go_loud (refine wpList_append_rd _ rfl (.const (.slice none 0 0)) (.tmp 38) 60 rfl w4.heap.size 5 i0 _ 1 Try.underlying60 hi hz0 hz1 hz2 rfl _ 0 [] rfl own0 _ _ m gc (bvs M) rfl (by rw [len_bvs]; exact HM.out) hs5.row hs5.nil (bvs_one _) (by unfold maxLen; omega) (by omega) (Nat.le_refl _) ?_); intro v5 w5 hoo5 hg5; refine Hid.out ?_)
  refine Lib.hid ?_
  have own5 : Mem.Own w4.heap.size w5 v5 M := own_of hoo5 (by rw [HM.out]; omega) (by rfl)
  obtain ⟨G5, n5, c5, rfl, hs5'⟩ := Sl.of_own own5
  obtain rfl : n5 = m := hs5'.len.trans HM.out
  obtain ⟨g5, rfl, p5, -⟩ := own_some own5 (by omega)
  have hb5 : Below w.heap.size w w5 := hbb4.grown hg5 hbb4.size (fun k hk => by cases hk)
  have hg5 : w4.grownBy w5 none := hg5
  have hd5 := hd4.grown hg5 (by simp) (fun k hk => by cases hk)
  have hlo : w.heap.size < g5 := Nat.lt_of_lt_of_le hd4.lt p5
  clear hd4 hbb4 hg5 hoo5 own0 hs5 hs5' e1 b1 b2 hi hz0 hz1 hz2
  go_wp2_with fail
  refine (hd5.next n5 (by omega) (by omega)).mono ?_
  rintro e w6 ⟨r, hr, rfl, hd6, hg6⟩
  have own6 := own_far own5 hg6 (by omega)
  have hb6 := hb5.grown hg6 hb5.size (fun k hk => by injection hk; omega)
  clear hd5 own5 hb5 hg6
  go_wp2_with fail
  refine hd6.byte.mono ?_
  rintro e w7 ⟨x, rfl, hd7, hg7⟩
  have own7 := own_far own6 hg7 (by omega)
  have hb7 := hb6.grown hg7 hb6.size (fun k hk => by injection hk; omega)
  clear hd6 own6 hb6 hg7
  have hrl : r < M.length := by rw [HM.out]; exact hr
  have cr := own_cell own7 HM.out.symm hrl
  have fr := own_frozen own7 HM.out.symm r
  obtain ⟨ho8, hg8⟩ := own_store own7 HM.out.symm r x
  have hb8 := hb7.grown hg8 hb7.size (fun k hk => by injection hk; omega)
  have hl8 : (M.set r x).length = n5 := by rw [List.length_set]; exact HM.out
  obtain ⟨w8, hw8⟩ : ∃ W, W = w7.setCell ⟨g5, r, none⟩ (bv x) := ⟨_, rfl⟩
  rw [← hw8] at ho8 hg8 hb8
  have HW8 := Lib.hid hw8
  have b1 : (0 : Int) ≤ (r : Int) := by omega
  have b2 : (r : Int) < (n5 : Int) := by omega
  clear hw8 own7 hg8
  go_upto_region 7 with fail
  rw [show w7.setCell ⟨g5, r, none⟩ (.int .u8 (x.toNat : Int)) = w8 from HW8.out.symm]
  have hs8 := sl_own ho8 hl8.symm
  generalize M.set r x = M2 at *
  have HL8 := Lib.hid hl8
  have HSEAL := Lib.hid (Wd.rseal8_any (some ⟨g5, 0, none⟩) n5 c5 M2 w8 hs8.len hs8.row (by omega))
  clear HW8 cr hrl fr b1 b2 HM hl8 hs8 ho8 hb7 hd7
  go_wp2_with fail
  refine HSEAL.out.mono ?_
  rintro e w9 ⟨u9, rfl, ho9, hb9⟩
  obtain ⟨SA, sn, sc, rfl, hs9⟩ := Sl.of_own ho9
  have hn9 : sn ≤ 400 := by rw [hs9.len, List.length_append, HL8.out]; simp; omega
  have hbb9 := hb8.trans (hb9.mono hb8.size)
  have hsb9 := HSB.out.step hbb9
  have HSEAL2 := Lib.hid (Wd.rseal8_any B bn bc b w9 hsb9.len hsb9.row (by omega))
  clear HSEAL hb8 hb9 ho9 hsb9
  go_wp2_with fail
  refine HSEAL2.out.mono ?_
  rintro e w10 ⟨u10, rfl, ho10, hb10⟩
  obtain ⟨TA, tn, tc, rfl, hs10⟩ := Sl.of_own ho10
  have hn10 : tn ≤ 400 := by rw [hs10.len, List.length_append, ← HBL.out]; simp; omega
  have hbb10 := hbb9.trans (hb10.mono hbb9.size)
  have q0 := HSB.out.step hbb10
  have q1 := hs9.step hb10
  generalize M2 ++ [UInt8.ofNat (Pl.sum8 M2)] = X1 at *
  generalize b ++ [UInt8.ofNat (Pl.sum8 b)] = X2 at *
  clear HSEAL2 hbb9 hb10 ho10 hs9
  have hrow : (w10.alloc (.cells #[.slice B bn bc, .slice SA sn sc, .slice TA tn tc] 60)).heap[w10.heap.size]? = some (.cells #[.slice B bn bc, .slice SA sn sc, .slice TA tn tc] 60 (0, 0)) := heap_alloc_new w10 _
  have hba := (Below.refl w10.heap.size w10).alloc (Nat.le_refl _) (.cells #[.slice B bn bc, .slice SA sn sc, .slice TA tn tc] 60)
  have HQ0 := Lib.hid (q0.step hba)
  have HQ1 := Lib.hid (q1.step hba)
  have HQ2 := Lib.hid (hs10.step hba)
  have hbb11 := hbb10.trans (hba.mono hbb10.size)
  have HROW := Lib.hid hrow
  clear q0 q1 hs10 hba hbb10 hrow
  go_wp2_with fail
  obtain ⟨g3, hg3⟩ : ∃ g, g = w10.heap.size := ⟨_, rfl⟩
  rw [← hg3] at HROW ⊢
  clear hg3
  generalize w10.alloc (.cells #[.slice B bn bc, .slice SA sn sc, .slice TA tn tc] 60) = w11 at *
  go_loopw [55] (fun i wr => ∃ j : Nat, j ≤ 3 ∧ i = .int .i64 (j : Int) ∧ Below w11.heap.size w11 wr) (fun i _ => 3 - (intOf i).toNat)
  case atStart => exact ⟨0, by omega, rfl, Below.refl _ _⟩
  case round =>
    obtain ⟨j, hj, rfl, hbq⟩ := hrel
    by_cases hj3 : j < 3
    · have hrw := (hbq.block g3 (D5.lt_of_some HROW.out)).trans HROW.out
      obtain ⟨YA, yn, yc, ym, hY, hyl, cY⟩ : ∃ YA yn yc ym, Sl wr YA yn yc ym ∧ yn ≤ 400 ∧ wr.cell? ⟨g3, j, none⟩ = some (.slice YA yn yc) := by
        rcases (show j = 0 ∨ j = 1 ∨ j = 2 by omega) with rfl | rfl | rfl
        · exact ⟨B, bn, bc, b, HQ0.out.step hbq, by omega, cell_of_row wr g3 0 _ _ _ hrw⟩
        · exact ⟨SA, sn, sc, X1, HQ1.out.step hbq, hn9, cell_of_row wr g3 1 _ _ _ hrw⟩
        · exact ⟨TA, tn, tc, X2, HQ2.out.step hbq, hn10, cell_of_row wr g3 2 _ _ _ hrw⟩
      have b1 : (0 : Int) ≤ (j : Int) := by omega
      have b2 : (j : Int) < 3 := by omega
      clear hrw
      have HD := Lib.hid (dec_p YA yn yc ym wr hY (by omega))
      obtain ⟨R, hR⟩ : ∃ R, R = decS ym := ⟨_, rfl⟩
      rw [← hR] at HD
      obtain ⟨s1, er⟩ := R
      have HRE := Lib.hid hR
      clear hR
      go_wp2_with fail
      refine HD.out.mono ?_
      rintro e w12 ⟨XA, xn, xc, rfl, hps, hb12⟩
      dsimp only at hps ⊢
      have hY12 := hY.step hb12
      have hbb12 := hbq.trans (hb12.mono hbq.size)
      clear HD hY hb12 hbq cY b1 b2
      have hz13 := Bx.zero w12
      have ha13 := (Below.refl w12.heap.size w12).alloc (Nat.le_refl _) (.cells #[.int .u8 0, .int .u8 0, .int .u8 0, .string ⟨#[]⟩, .int .u8 0, .int .u8 0, .bool false, .int .i64 0, .bool false, .int .i64 0, .int .i64 0, .int .i64 0, .int .i64 0, .slice none 0 0, .int .u8 0, .int .u8 0, .int .u8 0, .int .u8 0, .int .u8 0, .int .u8 0, .int .u8 0, .int .u8 0, .int .u8 0, .int .u16 0, .int .u16 0, .int .u16 0, .bool false, .int .i64 0] 59)
      go_wp2_with (refine wpList_store_bx rfl (.tmp 11) (.tmp 62) rfl w12.heap.size s1 noSn (.slice XA xn xc) (.slice none 0 0) rfl rfl rfl hz13 ?_; intro w13 hx13 hg13; refine Hid.out ?_)
      refine Lib.hid ?_
      have hb13 := ha13.grown hg13 ha13.size (fun k hk => by injection hk; omega)
      have hps13 := hps.step hb13
      have hY13 := hY12.step hb13
      have hbb13 := hbb12.trans (hb13.mono hbb12.size)
      clear hz13 ha13 hg13 hps hY12 hbb12 hb13
      by_cases h0 : er = 0
      case neg =>
        have hne : (((er : Nat) : Int) != 0) = true := by rw [bne_iff_ne]; omega
        go_wp2_with fail
        exact ⟨⟨j + 1, by omega, by go_num, hbb13⟩, by simp [intOf]; omega⟩
      subst h0
      obtain ⟨hE, hV⟩ := Um.enc_decS HRE.out.symm
      have hnm1 : s1.nm.size ≤ maxLen := by
        have h := hV
        unfold vs okn at h
        simp only [Bool.and_eq_true] at h
        have h := of_decide_eq_true h.1.1
        rw [bl_len] at h
        unfold maxLen; omega
      have HENC := Lib.hid (encp_p s1 XA xn xc w13 hps13 hV)
      rw [hE] at HENC
      have HVA := Lib.hid fun (u : World) (hu : PSl u XA xn xc s1.c.p) => by have := valid_p s1 XA xn xc u hu hnm1; rw [hV] at this; exact this
      clear hE hV hnm1 HRE
      rw [show ((0 : Nat) : Int) = 0 from rfl]
      go_wp2_with (refine wpList_load_bx rfl (.tmp 11) rfl _ _ _ rfl hx13 ?_)
      refine HENC.out.mono ?_
      rintro e w14 ⟨u14, rfl, ho14, hb14⟩
      obtain ⟨UA, un, uc, rfl, hu14⟩ := Sl.of_own ho14
      have hx14 := hx13.below hb14
      have hps14 := hps13.step hb14
      have hY14 := hY13.step hb14
      have hbb14 := hbb13.trans (hb14.mono hbb13.size)
      clear HENC hx13 hps13 hY13 hb14 hbb13 ho14
      go_wp2_with (refine wpList_load_bx rfl (.tmp 11) rfl _ _ _ rfl hx14 ?_)
      refine (HVA.out _ hps14).mono ?_
      rintro e w15 ⟨rfl, hb15⟩
      have HSM := Lib.hid (Same.same_yes (hu14.step hb15) (hY14.step hb15))
      have hbb15 := hbb14.trans (hb15.mono hbb14.size)
      clear hx14 hps14 hY14 hb15 hbb14 hu14 HVA
      go_wp2_with fail
      refine HSM.out.mono ?_
      rintro e w16 ⟨rfl, hb16⟩
      have hbb16 := hbb15.trans (hb16.mono hbb15.size)
      clear hb16 hbb15 HSM
      go_wp2_with fail
      exact ⟨⟨j + 1, by omega, by go_num, hbb16⟩, by simp [intOf]; omega⟩
    · obtain rfl : j = 3 := by omega
      go_wp2_with fail
      refine (haw.out _).mono ?_
      rintro e w17 ⟨rfl, hb17⟩
      go_wp2_with fail
      go_ret
      exact ⟨rfl, (hbb11.trans (hbq.mono hbb11.size)).trans (hb17.mono (Nat.le_trans hbb11.size hbq.size))⟩

theorem cells_u8 : Try.prog.cellsOf 5 = 1 := by kernel_rfl
theorem cells_int : Try.prog.cellsOf 3 = 1 := by kernel_rfl
theorem own : ownKnob Try.prog.godebug = none := by kernel_rfl
theorem laidOut : laidOutB Try.prog = true := by kernel_rfl
theorem contract (H : Type) (enc : TypeId × Value → H) (W : World) (base : Nat) (args : Array Value) (ds gs : List (DataW H)) (before : List MemPlace)
    (hval : ∀ (j : Nat) t v, Try.f6.params[j]? = some t → args[j]? = some v → Value.okWide Try.prog W .any base t v)
    (hW : DataW.Whole enc Try.prog Try.f6.params.toList Rows.sensorDecodedSpec.vars false W args.toList ds gs before) :
    Calls Try.prog 6 args W fun e W' => ∃ v, e = .returned v ∧ Rows.sensorDecodedSpec.post enc Try.prog Try.f6 false true false false W args v W' := by
  have hW' := hW
  obtain ⟨p, q, hA0, hV, rfl, hfz, hnd⟩ := hW
  have hA : DataW.TrodAll enc Try.prog W 0 (fun _ => true) true Try.f6.params.toList args.toList ds p := hA0
  rw [Try.params6] at hA hval
  obtain ⟨v0, vs0, d0, ds0, p0, q0, hargs, rfl, rfl, h0, r0⟩ := trodAll_cons hA
  obtain ⟨v1, vs1, d1, ds1, p1, q1, rfl, rfl, rfl, h1, r1⟩ := trodAll_cons r0
  obtain ⟨rfl, rfl, rfl⟩ := trodAll_nil r1
  obtain rfl : args = #[v0, v1] := by cases args; simp_all
  obtain ⟨A0, n0, c0, l0, rfl, hn0, hr0, hc0, hm0, hk0⟩ := open_bytes Try.underlying60 Try.underlying5 cells_u8 (hval 0 60 v0 rfl rfl) h0
  obtain ⟨A1, n1, c1, l1, rfl, hn1, hr1, hw1, hc1, hm1, hk1⟩ := open_int_list Try.underlying22 Try.underlying3 cells_int (hval 1 22 v1 rfl rfl) h1
  clear hA0
  refine (walk A0 n0 c0 l0 hn0 hc0 hm0 hk0 A1 n1 c1 l1 hn1 hw1 hc1 hm1 hk1 W hr0 hr1).mono fun e W' ⟨he, hb⟩ => ?_
  subst he
  exact ⟨_, rfl, law_post laidOut (types_fit (by kernel_rfl)) (by kernel_rfl) Try.underlying4 rfl (fun xs hx => by
    match xs, hx with
    | [_, _], _ => rfl) hW' hb⟩

theorem lifted (os : Os) (started : os.Started) (H : Type) (enc : TypeId × Value → H) :
    ReturnsInHanded {} Try.checked os 6 .any (Rows.sensorDecodedSpec.pre6 enc Try.prog Try.f6 Rows.sensorDecodedRow.domain false) (Rows.sensorDecodedSpec.post enc Try.prog Try.f6 false true false false) := by
  refine returnsInHanded_of_change (C := Try.checked) own started (by kernel_rfl) Try.func6
    (ChangeSpec.witness6 (enc := enc) (C := Try.checked) false ⟨#[], #[.slice none 0 0, .slice none 0 0], []⟩ 8 (by kernel_rfl) (by kernel_rfl) (by kernel_rfl) (by kernel_rfl)) ?_
  intro W base args ds gs before hval hW _ _
  exact contract H enc W base args ds gs before hval hW

theorem proved : Rows.SensorDecodedSaid :=
  OpenClaim.holds_of_wide 6 Try.f6 rfl rfl rfl rfl rfl rfl rfl ⟨rfl, rfl, rfl, rfl, rfl⟩ rfl rfl rfl rfl rfl (by kernel_rfl) Try.func6 (by kernel_rfl)
    (of_decide_eq_true (by kernel_rfl)) (by unfold Func.isWrapper; first | (rw [if_pos (by decide +kernel)]; kernel_rfl) | (rw [if_neg (by decide +kernel)]; exact ⟨rfl, rfl⟩))
    (fun os started H enc _ => lifted os started H enc)
end Go.Proofs.Ytafoaonkjcfbaaa.sensorDecoded
