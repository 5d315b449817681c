/- FlashErases holds for every input: what an Erase leaves at which the power fails, and one that is done. No condition. -/
import Derived.Test.YtkmkpidoajfhmaaE5e
import Derived.Test.YtkmkpidoajfhmaaE5q
import Derived.Test.YtkmkpidoajfhmaaLaw
namespace Go.Proofs.Ytkmkpidoajfhmaa.flashErases
open Go.RowKit Go.ChangeShapes Go.WideShapes Go.ChangeAt Go.Proofs.Ytkmkpidoajfhmaa.Mem Go.Proofs.Ytkmkpidoajfhmaa.E5p Go.Proofs.Ytkmkpidoajfhmaa.E5m Go.Proofs.Ytkmkpidoajfhmaa.E5a Go.Proofs.Ytkmkpidoajfhmaa.E5d Go.Proofs.Ytkmkpidoajfhmaa.Made Go.Proofs.Ytkmkpidoajfhmaa.Law
set_option maxRecDepth 100000
set_option maxHeartbeats 1000000

/-- The device behind its erasure, and behind Restore. -/
def gone (b : List UInt8) (k : Nat) (m t : UInt8) (dn : Bool) : Fl := ⟨64, orAt b (k * 64) 64 m, (List.replicate 2 0).set k 1, 129, 0, t, dn⟩
theorem er_no (b : List UInt8) (k : Nat) (hk : k < 2) : (Fl.full b).erase (k : Int) = (gone b k 255 0 false, 0) := by
  have e1 : (Fl.full b).inside (k : Int) = true := by
    have : (Fl.full b).wear.length = 2 := by simp [Fl.full, Fl.new]
    simp [Fl.inside, this]; omega
  have e2 : (List.replicate 2 (0 : Int)).getD k 0 + 1 = 1 := by
    match k, hk with
    | 0, _ => rfl
    | 1, _ => rfl
  unfold Fl.erase
  rw [e1]
  show ((Fl.full b).clear (k : Int).toNat, (0 : Int)) = _
  show ((⟨64, orAt b (k * 64) 64 255, (List.replicate 2 (0 : Int)).set k ((List.replicate 2 (0 : Int)).getD k 0 + 1), 128 + 1, 0 - 1, 0, false⟩ : Fl), (0 : Int)) = _
  rw [e2]
  rfl
theorem er_yes (b : List UInt8) (k : Nat) (hk : k < 2) (t : UInt8) : ((Fl.full b).arm 1 t).erase (k : Int) = (gone b k t t true, 10) := by
  have e1 : ((Fl.full b).arm 1 t).inside (k : Int) = true := by
    have : ((Fl.full b).arm 1 t).wear.length = 2 := by simp [Fl.arm, Fl.full, Fl.new]
    simp [Fl.inside, this]; omega
  have e2 : (List.replicate 2 (0 : Int)).getD k 0 + 1 = 1 := by
    match k, hk with
    | 0, _ => rfl
    | 1, _ => rfl
  unfold Fl.erase
  rw [e1]
  show (((Fl.full b).arm 1 t).clear (k : Int).toNat, (10 : Int)) = _
  show ((⟨64, orAt b (k * 64) 64 t, (List.replicate 2 (0 : Int)).set k ((List.replicate 2 (0 : Int)).getD k 0 + 1), 128 + 1, 1 - 1, t, true⟩ : Fl), (10 : Int)) = _
  rw [e2]
  rfl
theorem gone_read (b : List UInt8) (k : Nat) (m t : UInt8) (h : b.length = 128) : (gone b k m t false).read 0 128 = (orAt b (k * 64) 64 m, 0) := by
  have := Fl.read_up (s := gone b k m t false) rfl 0 128 (by show 0 + 128 ≤ (orAt b (k * 64) 64 m).length; rw [orAt_len]; omega)
  rw [show ((0 : Nat) : Int) = 0 from rfl, show ((128 : Nat) : Int) = 128 from rfl] at this
  rw [this, List.drop_zero, List.take_of_length_le (by show (orAt b (k * 64) 64 m).length ≤ 128; rw [orAt_len]; omega)]
  rfl

theorem walk (A : Option Addr) (n c : Nat) (l : List Int) (hn : n = l.length) (hw : ∀ x ∈ l, -9223372036854775808 ≤ x ∧ x ≤ 9223372036854775807) (hc : n ≤ c) (hm : c ≤ maxLen) (_hA : A = none → c = 0)
    (sec : Int) (hsec : -9223372036854775808 ≤ sec ∧ sec ≤ 9223372036854775807) (tv : Int) (htv : 0 ≤ tv ∧ tv ≤ 255) (fl : Bool)
    (w : World) (hr : IRow w.heap.size w A l) :
    Calls Try.prog 5 #[.slice A n c, .int .i64 sec, .int .u8 tv, .bool fl] w fun e w' => e = .returned (.bool true) ∧ Below w.heap.size w w' := by
  obtain ⟨t, rfl⟩ : ∃ t : UInt8, tv = (t.toNat : Int) := ⟨UInt8.ofNat tv.toNat, by rw [UInt8.toNat_ofNat']; omega⟩
  have hl := lightmade_any A n c
  have hnm : n ≤ maxLen := Nat.le_trans hc hm
  by_cases h600 : n ≤ 600
  · have hd : decide (n ≤ 600) = true := by simpa using h600
    have hmd := made_any A n c l w hn hr hw (by omega)
    have HM := Lib.hid hmd; clear hmd
    have HN := Lib.hid hn; clear hn
    cases fl
    · go_enter Try.func5, Try.ntmps5
      go_wp2_with fail
      refine (hl w hnm).mono ?_
      rintro e w' ⟨rfl, rfl⟩
      rw [hd]
      go_wp2_with fail
      refine HM.out.mono ?_
      rintro e w1 ⟨d, b, g, hlen, rfl, hd1, hob, hg0, n1, n2, n3⟩
      have HB := Lib.hid hlen; clear hlen
      go_wp2_with fail
      refine (mod_any sec 2 w1 hsec.1 hsec.2 (by omega) (by omega)).mono ?_
      rintro e w' ⟨⟨k, hk, rfl, -⟩, rfl⟩
      have hgl := (own_lt hob HB.out).2
      have hob2 := hob
      have he := hd1.erase (by omega) (k : Int) (by omega) (by omega)
      rw [er_no b k hk] at he
      have HE := Lib.hid he; clear he
      have hgl2 := (own_lt hob2 HB.out).2
      go_wp2_with fail
      refine HE.out.mono ?_
      rintro e w3 ⟨rfl, hd3, hk3⟩
      dsimp only at hd3
      have hob3 := own_stays hob2 HB.out (hk3.block g hgl2 n1 n2 n3)
      have hgl3 := (own_lt hob3 HB.out).2
      have hdn := down_p hd3.dev
      rw [show (gone b k 255 0 false).down = false from rfl] at hdn
      have HD := Lib.hid hdn; clear hdn HE
      go_wp2_with fail
      refine HD.out.mono ?_
      rintro e w' ⟨rfl, rfl⟩
      clear HD
      go_wp2_with fail
      refine hd3.restore.mono ?_
      rintro e w4 ⟨rfl, hd4, hk4⟩
      change At w.heap.size w w4 d (gone b k 255 0 false) _ at hd4
      have hob4 := own_stays hob3 HB.out (hk4.block g hgl3 n1 n2 n3)
      have ra := hd4.read 0 128 (by omega) (by omega) (by omega) (by omega)
      rw [gone_read b k 255 0 HB.out] at ra
      have RA := Lib.hid ra; clear ra
      go_wp2_with fail
      refine RA.out.mono ?_
      rintro e w5 ⟨C, cn, cc, rfl, hco, hcs, hb5, hd5⟩
      clear RA
      dsimp only at hcs
      have hob5 := own_stays hob4 HB.out (hb5.block g (own_lt hob4 HB.out).2)
      go_wp2_with fail
      refine (wear_p hd5.dev hd5.ok).mono ?_
      rintro e w6 ⟨v0, rfl, hwo, hb6⟩
      obtain ⟨V, vn, vc, rfl, hvs⟩ := ISl.of_own hwo
      change ISl w6 V vn vc ((List.replicate 2 0).set k 1) at hvs
      have hd6 := hd5.step hb6
      have hcs6 := hcs.step hb6
      have hob6 := own_stays hob5 HB.out (hb6.block g (own_lt hob5 HB.out).2)
      have hvn : vn = 2 := by rw [hvs.len]; simp
      have hcn : cn = 128 := by rw [hcs6.len, orAt_len]; exact HB.out
      subst hvn hcn
      clear hob hob2 hob3 hob4 hob5 hd1 hd3 hd4 hd5 hco hwo hcs hgl hgl2 hgl3
      obtain ⟨va, rfl, hva, hv0⟩ := irow_at hvs.row (k := k) (by simp; omega)
      obtain ⟨va', hva2, hvb, hv1⟩ := irow_at hvs.row (k := 1 - k) (by simp; omega)
      injection hva2 with hva2
      subst hva2
      have q0 : ((List.replicate 2 (0 : Int)).set k 1)[k]'(by simp; omega) = 1 := by simp
      have q1 : ((List.replicate 2 (0 : Int)).set k 1)[1 - k]'(by simp; omega) = 0 := by
        rw [List.getElem_set, if_neg (by omega), List.getElem_replicate]
      rw [q0] at hv0
      rw [q1] at hv1
      clear q0 q1
      have b1 : (0 : Int) ≤ (k : Int) := by omega
      have b2 : (k : Int) < 2 := by omega
      have b3 : (0 : Int) ≤ 1 - (k : Int) := by omega
      have b4 : (1 : Int) - (k : Int) < 2 := by omega
      have b5 : ((1 : Int) - (k : Int)).toNat = 1 - k := by omega
      go_wp2_with fail
      clear b5
      go_loop [18, 19] (fun i _ => ∃ j : Nat, j ≤ 128 ∧ i = .int .i64 j) (fun i _ => 128 - (intOf i).toNat)
      case atStart => exact ⟨0, by omega, rfl⟩
      case round =>
        obtain ⟨j, hj, rfl⟩ := hrel
        by_cases hlt : j < 128
        · have hjb : j < b.length := by have := HB.out; omega
          have hjo : j < (orAt b (k * 64) 64 255).length := by rw [orAt_len]; exact hjb
          have hcell := own_cell hob6 HB.out.symm hjb
          obtain ⟨ca, rfl, hca, hcc⟩ := row_at hcs6.row hjo
          rw [orAt_get] at hcc
          have b6 : (0 : Int) ≤ (j : Int) := by omega
          have b7 : (j : Int) < 128 := by omega
          by_cases hjk : j / 64 = k
          · rw [if_pos (by omega)] at hcc
            have g1 : ((j : Int) / 64 == (k : Int)) = true := by simp; omega
            rw [or_255] at hcc
            replace hcc : w6.cell? (ca.add j) = some (.int .u8 255) := hcc
            clear hjk
            go_wp2_with fail
            go_round
            case rel => exact ⟨j + 1, by omega, by go_num⟩
            case measure => simp [intOf]; omega
          · rw [if_neg (by omega)] at hcc
            have g1 : ((j : Int) / 64 == (k : Int)) = false := by simp; omega
            clear hjk
            go_wp2_with fail
            go_round
            case rel => exact ⟨j + 1, by omega, by go_num⟩
            case measure => simp [intOf]; omega
        · obtain rfl : j = 128 := by omega
          go_wp2_with fail
          refine (awake_any _).mono ?_
          rintro e w7 ⟨rfl, hb7⟩
          go_wp2_with fail
          go_ret
          exact ⟨rfl, (hd6.step hb7).low⟩
    · go_enter Try.func5, Try.ntmps5
      go_wp2_with fail
      refine (hl w hnm).mono ?_
      rintro e w' ⟨rfl, rfl⟩
      rw [hd]
      go_wp2_with fail
      refine HM.out.mono ?_
      rintro e w1 ⟨d, b, g, hlen, rfl, hd1, hob, hg0, n1, n2, n3⟩
      have HB := Lib.hid hlen; clear hlen
      go_wp2_with fail
      refine (mod_any sec 2 w1 hsec.1 hsec.2 (by omega) (by omega)).mono ?_
      rintro e w' ⟨⟨k, hk, rfl, -⟩, rfl⟩
      have hgl := (own_lt hob HB.out).2
      go_wp2_with fail
      refine (hd1.arm 1 t (by omega) (by omega)).mono ?_
      rintro e w2 ⟨rfl, hd2, hk2⟩
      have hob2 := own_stays hob HB.out (hk2.block g hgl n1 n2 n3)
      have he := hd2.erase (by omega) (k : Int) (by omega) (by omega)
      rw [er_yes b k hk t] at he
      have HE := Lib.hid he; clear he
      have hgl2 := (own_lt hob2 HB.out).2
      go_wp2_with fail
      refine HE.out.mono ?_
      rintro e w3 ⟨rfl, hd3, hk3⟩
      dsimp only at hd3
      have hob3 := own_stays hob2 HB.out (hk3.block g hgl2 n1 n2 n3)
      have hgl3 := (own_lt hob3 HB.out).2
      have hdn := down_p hd3.dev
      rw [show (gone b k t t true).down = true from rfl] at hdn
      have HD := Lib.hid hdn; clear hdn HE
      go_wp2_with fail
      refine HD.out.mono ?_
      rintro e w' ⟨rfl, rfl⟩
      clear HD
      go_wp2_with fail
      refine hd3.restore.mono ?_
      rintro e w4 ⟨rfl, hd4, hk4⟩
      change At w.heap.size w w4 d (gone b k t t false) _ at hd4
      have hob4 := own_stays hob3 HB.out (hk4.block g hgl3 n1 n2 n3)
      have ra := hd4.read 0 128 (by omega) (by omega) (by omega) (by omega)
      rw [gone_read b k t t HB.out] at ra
      have RA := Lib.hid ra; clear ra
      go_wp2_with fail
      refine RA.out.mono ?_
      rintro e w5 ⟨C, cn, cc, rfl, hco, hcs, hb5, hd5⟩
      clear RA
      dsimp only at hcs
      have hob5 := own_stays hob4 HB.out (hb5.block g (own_lt hob4 HB.out).2)
      go_wp2_with fail
      refine (wear_p hd5.dev hd5.ok).mono ?_
      rintro e w6 ⟨v0, rfl, hwo, hb6⟩
      obtain ⟨V, vn, vc, rfl, hvs⟩ := ISl.of_own hwo
      change ISl w6 V vn vc ((List.replicate 2 0).set k 1) at hvs
      have hd6 := hd5.step hb6
      have hcs6 := hcs.step hb6
      have hob6 := own_stays hob5 HB.out (hb6.block g (own_lt hob5 HB.out).2)
      have hvn : vn = 2 := by rw [hvs.len]; simp
      have hcn : cn = 128 := by rw [hcs6.len, orAt_len]; exact HB.out
      subst hvn hcn
      clear hob hob2 hob3 hob4 hob5 hd1 hd3 hd4 hd5 hco hwo hcs hgl hgl2 hgl3
      obtain ⟨va, rfl, hva, hv0⟩ := irow_at hvs.row (k := k) (by simp; omega)
      obtain ⟨va', hva2, hvb, hv1⟩ := irow_at hvs.row (k := 1 - k) (by simp; omega)
      injection hva2 with hva2
      subst hva2
      have q0 : ((List.replicate 2 (0 : Int)).set k 1)[k]'(by simp; omega) = 1 := by simp
      have q1 : ((List.replicate 2 (0 : Int)).set k 1)[1 - k]'(by simp; omega) = 0 := by
        rw [List.getElem_set, if_neg (by omega), List.getElem_replicate]
      rw [q0] at hv0
      rw [q1] at hv1
      clear q0 q1
      have b1 : (0 : Int) ≤ (k : Int) := by omega
      have b2 : (k : Int) < 2 := by omega
      have b3 : (0 : Int) ≤ 1 - (k : Int) := by omega
      have b4 : (1 : Int) - (k : Int) < 2 := by omega
      have b5 : ((1 : Int) - (k : Int)).toNat = 1 - k := by omega
      go_wp2_with fail
      clear b5
      go_loop [18, 19] (fun i _ => ∃ j : Nat, j ≤ 128 ∧ i = .int .i64 j) (fun i _ => 128 - (intOf i).toNat)
      case atStart => exact ⟨0, by omega, rfl⟩
      case round =>
        obtain ⟨j, hj, rfl⟩ := hrel
        by_cases hlt : j < 128
        · have hjb : j < b.length := by have := HB.out; omega
          have hjo : j < (orAt b (k * 64) 64 t).length := by rw [orAt_len]; exact hjb
          have hcell := own_cell hob6 HB.out.symm hjb
          obtain ⟨ca, rfl, hca, hcc⟩ := row_at hcs6.row hjo
          rw [orAt_get] at hcc
          have b6 : (0 : Int) ≤ (j : Int) := by omega
          have b7 : (j : Int) < 128 := by omega
          by_cases hjk : j / 64 = k
          · rw [if_pos (by omega)] at hcc
            have g1 : ((j : Int) / 64 == (k : Int)) = true := by simp; omega
            have hor : bits .or .u8 (b[j].toNat : Int) (t.toNat : Int) = ((b[j] ||| t).toNat : Int) := or_int _ _
            clear hjk
            go_wp2_with fail
            go_round
            case rel => exact ⟨j + 1, by omega, by go_num⟩
            case measure => simp [intOf]; omega
          · rw [if_neg (by omega)] at hcc
            have g1 : ((j : Int) / 64 == (k : Int)) = false := by simp; omega
            clear hjk
            go_wp2_with fail
            go_round
            case rel => exact ⟨j + 1, by omega, by go_num⟩
            case measure => simp [intOf]; omega
        · obtain rfl : j = 128 := by omega
          go_wp2_with fail
          refine (awake_any _).mono ?_
          rintro e w7 ⟨rfl, hb7⟩
          go_wp2_with fail
          go_ret
          exact ⟨rfl, (hd6.step hb7).low⟩
  · have hd : decide (n ≤ 600) = false := by simpa using h600
    have HN := Lib.hid hn; clear hn
    go_enter Try.func5, Try.ntmps5
    go_wp2_with fail
    refine (hl w hnm).mono ?_
    rintro e w' ⟨rfl, rfl⟩
    rw [hd]
    go_wp2_with fail
    refine (awake_any w).mono ?_
    rintro e w1 ⟨rfl, hb⟩
    go_wp2_with fail
    go_ret
    exact ⟨rfl, hb⟩

theorem cells_u8 : Try.prog.cellsOf 5 = 1 := by kernel_rfl
theorem cells_int : Try.prog.cellsOf 3 = 1 := by kernel_rfl
theorem own : ownKnob Try.prog.godebug = none := by kernel_rfl
theorem laidOut : laidOutB Try.prog = true := by kernel_rfl
theorem contract (H : Type) (enc : TypeId × Value → H) (W : World) (base : Nat) (args : Array Value) (ds gs : List (DataW H)) (before : List MemPlace)
    (hval : ∀ (j : Nat) t v, Try.f5.params[j]? = some t → args[j]? = some v → Value.okWide Try.prog W .any base t v)
    (hW : DataW.Whole enc Try.prog Try.f5.params.toList Rows.flashErasesSpec.vars false W args.toList ds gs before) :
    Calls Try.prog 5 args W fun e W' => ∃ v, e = .returned v ∧ Rows.flashErasesSpec.post enc Try.prog Try.f5 false true false false W args v W' := by
  have hW' := hW
  obtain ⟨p, q, hA0, hV, rfl, hfz, hnd⟩ := hW
  have hA : DataW.TrodAll enc Try.prog W 0 (fun _ => true) true Try.f5.params.toList args.toList ds p := hA0
  rw [Try.params5] at hA hval
  obtain ⟨v0, vs0, d0, ds0, p0, q0, hargs, rfl, rfl, h0, r0⟩ := trodAll_cons hA
  obtain ⟨v1, vs1, d1, ds1, p1, q1, rfl, rfl, rfl, h1, r1⟩ := trodAll_cons r0
  obtain ⟨v2, vs2, d2, ds2, p2, q2, rfl, rfl, rfl, h2, r2⟩ := trodAll_cons r1
  obtain ⟨v3, vs3, d3, ds3, p3, q3, rfl, rfl, rfl, h3, r3⟩ := trodAll_cons r2
  obtain ⟨rfl, rfl, rfl⟩ := trodAll_nil r3
  obtain rfl : args = #[v0, v1, v2, v3] := by cases args; simp_all
  obtain ⟨A0, n0, c0, l0, rfl, hn0, hr0, hw0, hc0, hm0, hk0⟩ := open_int_list Try.underlying46 Try.underlying3 cells_int (hval 0 46 v0 rfl rfl) h0
  obtain ⟨a1, rfl, -, -, w1⟩ := open_int Try.underlying3 (hval 1 3 v1 rfl rfl) h1
  obtain ⟨a2, rfl, -, -, w2⟩ := open_int Try.underlying5 (hval 2 5 v2 rfl rfl) h2
  obtain ⟨b3, rfl, -, -⟩ := open_bool Try.underlying4 (hval 3 4 v3 rfl rfl) h3
  clear hA0
  refine (walk A0 n0 c0 l0 hn0 hw0 hc0 hm0 hk0 a1 (bounds_i64 w1) a2 (bounds_u8 w2) b3 W hr0).mono fun e W' ⟨he, hb⟩ => ?_
  subst he
  exact ⟨_, rfl, law_post laidOut (types_fit (by kernel_rfl)) (by kernel_rfl) Try.underlying4 rfl (fun xs hx => by
    match xs, hx with
    | [_, _, _, _], _ => rfl) hW' hb⟩

theorem lifted (os : Os) (started : os.Started) (H : Type) (enc : TypeId × Value → H) :
    ReturnsInHanded {} Try.checked os 5 .any (Rows.flashErasesSpec.pre6 enc Try.prog Try.f5 Rows.flashErasesRow.domain false) (Rows.flashErasesSpec.post enc Try.prog Try.f5 false true false false) := by
  refine returnsInHanded_of_change (C := Try.checked) own started (by kernel_rfl) Try.func5
    (ChangeSpec.witness6 (enc := enc) (C := Try.checked) false ⟨#[], #[.slice none 0 0, .int .i64 0, .int .u8 0, .bool false], []⟩ 8 (by kernel_rfl) (by kernel_rfl) (by kernel_rfl) (by kernel_rfl)) ?_
  intro W base args ds gs before hval hW _ _
  exact contract H enc W base args ds gs before hval hW

theorem proved : Rows.FlashErasesSaid :=
  OpenClaim.holds_of_wide 5 Try.f5 rfl rfl rfl rfl rfl rfl rfl ⟨rfl, rfl, rfl, rfl, rfl⟩ rfl rfl rfl rfl rfl (by kernel_rfl) Try.func5 (by kernel_rfl)
    (of_decide_eq_true (by kernel_rfl)) (by unfold Func.isWrapper; first | (rw [if_pos (by decide +kernel)]; kernel_rfl) | (rw [if_neg (by decide +kernel)]; exact ⟨rfl, rfl⟩))
    (fun os started H enc _ => lifted os started H enc)
end Go.Proofs.Ytkmkpidoajfhmaa.flashErases
