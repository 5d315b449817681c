/- MicroDecimals holds for every input: the number of a decimal text by its digits. Condition: the tables of the standard library that the row lists hold what the program lays in them, which the card ties to its text. -/
import Derived.Test.YtnkhmhcgcmacgaaDoorLaid
import Derived.Test.YtnkhmhcgcmacgaaDoorAw3
import Derived.Test.YtnkhmhcgcmacgaaDoorMn
import Derived.Test.YtnkhmhcgcmacgaaDoorM3z
namespace Go.Proofs.YtnkhmhcgcmacgaaDoor.microDecimals
open Go.RowKit Go.ChangeShapes Go.WideShapes Go.ChangeAt Go.Proofs.YtnkhmhcgcmacgaaDoor.Mem Go.Proofs.YtnkhmhcgcmacgaaDoor.M3p Go.Proofs.YtnkhmhcgcmacgaaDoor.M3r Go.Proofs.YtnkhmhcgcmacgaaDoor.M3w Go.Proofs.YtnkhmhcgcmacgaaDoor.F2p Go.Proofs.YtnkhmhcgcmacgaaDoor.Made Go.Proofs.YtnkhmhcgcmacgaaDoor.Law Go.Proofs.YtnkhmhcgcmacgaaDoor.Laid
set_option maxRecDepth 100000
set_option maxHeartbeats 4000000

theorem digits_l (n : Nat) (w : World) (hn : n ≤ 1000000000000000000) :
    Calls Tryd.prog 36 #[.int .i64 (n : Int)] w fun e w' => e = .returned (.string ⟨(dgs n).toArray⟩) ∧ w = w' := by
  have hl := dgs_len n 19 (by omega) (by omega)
  go_enter Tryd.func36, Tryd.ntmps36
  go_wp2_with fail
  go_loop [0, 3] (fun v0 v3 => ∃ (m : Nat) (t : ByteArray), m ≤ n ∧ v0 = .int .i64 m ∧ v3 = .string t ∧ dgs n = dgs m ++ bl t) (fun v0 _ => (intOf v0).toNat)
  case atStart => exact ⟨n, ⟨#[]⟩, Nat.le_refl _, rfl, rfl, by simp [bl]⟩
  case round =>
    obtain ⟨m, t, hm, rfl, rfl, ht⟩ := hrel
    obtain ⟨d, hd⟩ : ∃ d : Nat, d = m % 10 := ⟨_, rfl⟩
    have hd10 : d < 10 := by omega
    have hdI : (m : Int) % 10 = (d : Int) := by omega
    have hts : t.size ≤ 19 := by
      have := congrArg List.length ht
      rw [List.length_append, bl_len] at this
      omega
    have hcut := digit_cut d hd10
    have hcs : ((⟨#[48, 49, 50, 51, 52, 53, 54, 55, 56, 57]⟩ : ByteArray).extract d (d + 1)).size = 1 := by
      have := congrArg List.length hcut
      rw [bl_len] at this
      exact this
    have HT := Lib.hid ht
    have HD := Lib.hid hd
    have HC := Lib.hid hcut
    have b1 : (d : Int) + 1 ≤ 10 := by omega
    clear ht hd hcut
    by_cases h10 : m < 10
    · have hq : (((m : Int) / 10) == 0) = true := by rw [beq_iff_eq]; omega
      go_wp2_with fail
      go_ret
      have hs : (⟨#[48, 49, 50, 51, 52, 53, 54, 55, 56, 57]⟩ : ByteArray).extract d (d + 1) ++ t = ⟨(dgs n).toArray⟩ := str_eq (by rw [bl_app, HC.out, HT.out, dgs_small h10, HD.out, Nat.mod_eq_of_lt h10])
      exact ⟨congrArg (fun z => Ending.returned (.string z)) hs, rfl⟩
    · have hq : (((m : Int) / 10) == 0) = false := by rw [beq_eq_false_iff_ne]; omega
      go_wp2_with fail
      refine ⟨⟨m / 10, _, by omega, vi (by omega), rfl, ?_⟩, by simp [intOf]; omega⟩
      rw [bl_app, HC.out, HT.out, dgs_big h10, HD.out, List.append_assoc]
theorem walk (x : Int) (hx : -9223372036854775808 ≤ x ∧ x ≤ 9223372036854775807) (y : Int) (hy : -9223372036854775808 ≤ y ∧ y ≤ 9223372036854775807) (neg : Bool) (w : World) (htab : PowTab w) :
    Calls Tryd.prog 12 #[.int .i64 x, .int .i64 y, .bool neg] w fun e w' => e = .returned (.bool true) ∧ Below w.heap.size w w' := by
  have haw := Lib.hid (fun u hu => awake_any u hu)
  have HT := htab.start
  go_enter Tryd.func12, Tryd.ntmps12
  go_wp2_with fail
  refine (mod_at x 1000000 1000000 _ rfl hx.1 hx.2 (by omega) (by omega)).mono ?_
  rintro e w' ⟨m, hm, rfl, rfl⟩
  go_wp2_with fail
  refine (mod_at y 1000000 1000000 _ rfl hy.1 hy.2 (by omega) (by omega)).mono ?_
  rintro e w' ⟨p, hp, rfl, rfl⟩
  obtain ⟨f, hf7, hf6, hfv, hfa⟩ := dgs_seven p hp
  have hm7 := dgs_len m 6 (by omega) (by omega)
  obtain ⟨D, hD⟩ : ∃ D : ByteArray, D = ⟨(dgs m).toArray⟩ := ⟨_, rfl⟩
  obtain ⟨B, hB⟩ : ∃ B : ByteArray, B = ⟨(49 :: f).toArray⟩ := ⟨_, rfl⟩
  obtain ⟨G, hG⟩ : ∃ G : ByteArray, G = ⟨f.toArray⟩ := ⟨_, rfl⟩
  have hDb : bl D = dgs m := by rw [hD]; rfl
  have hBb : bl B = 49 :: f := by rw [hB]; rfl
  have hGb : bl G = f := by rw [hG]; rfl
  have hBs1 : 1 ≤ B.size := by rw [← bl_len, hBb]; simp
  have hBs : B.size ≤ 7 := by rw [← bl_len, hBb, List.length_cons]; omega
  have hDs : D.size ≤ 6 := by rw [← bl_len, hDb]; exact hm7
  have hGs : G.size ≤ 6 := by rw [← bl_len, hGb]; omega
  have hBG : B.extract 1 B.size = G := bl_inj (by rw [bl_extract, ← bl_len, hBb, hGb, List.drop_one, List.tail_cons, List.length_cons, Nat.add_sub_cancel, List.take_length])
  have d1 := Lib.hid (fun u => by have := digits_l m u (by omega); rw [← hD] at this; exact this)
  have d2 := Lib.hid (fun u => by have := digits_l (1000000 + p) u (by omega); rw [hf7, ← hB, show ((1000000 + p : Nat) : Int) = 1000000 + (p : Int) by omega] at this; exact this)
  have hps : psr (decT neg m f) = (if neg then -((m : Int) * 1000000 + (p : Int)) else (m : Int) * 1000000 + (p : Int), 0) := by
    rw [psr_dec neg m p f hm hf6 hfv hp hfa, show ((m * 1000000 + p : Nat) : Int) = (m : Int) * 1000000 + (p : Int) by omega]
  have HPSR := Lib.hid hps
  clear hps
  have p1 := Lib.hid (fun u T (hT : bl T = decT neg m f) (hs : T.size ≤ 100000) => by have := parse_p T u hs; rw [hT, HPSR.out] at this; exact this)
  have p2 := Lib.hid (fun u T (hT : bl T = 48 :: decT neg m f) (hs : T.size ≤ 100000) => by have := parse_p T u hs; rw [hT, psr_dec_zero neg m f] at this; exact this)
  have p3 := Lib.hid (fun u T (hT : bl T = decT neg m f ++ [48]) (hs : T.size ≤ 100000) => by have := parse_p T u hs; rw [hT, psr_dec_long neg m f hf6 48] at this; exact this)
  have HD := Lib.hid hDb
  have HG := Lib.hid hGb
  have q1 : (⟨#[45]⟩ : ByteArray).size = 1 := by decide
  have q2 : (⟨#[46]⟩ : ByteArray).size = 1 := by decide
  have q3 : (⟨#[48]⟩ : ByteArray).size = 1 := by decide
  have Q1 := Lib.hid q1
  have Q2 := Lib.hid q2
  have Q3 := Lib.hid q3
  have hsz : (D ++ ⟨#[46]⟩ ++ G).size ≤ 13 := by rw [ByteArray.size_append, ByteArray.size_append]; omega
  have HSZ := Lib.hid hsz
  clear hD hB hG hDb hBb hGb hf7 hf6 hfv hfa q1 q2 q3 hsz
  go_wp2_with fail
  refine (d1.out _).mono ?_
  rintro e w' ⟨rfl, rfl⟩
  go_wp2_with fail
  refine (d2.out _).mono ?_
  rintro e w' ⟨rfl, rfl⟩
  cases neg
  · skip
    have hT : bl (D ++ ⟨#[46]⟩ ++ G) = decT false m f := by
      skip
      rw [bl_app, bl_app, HD.out, HG.out]
      unfold decT
      simp [bl]
    have hTs : (D ++ ⟨#[46]⟩ ++ G).size ≤ 14 := by
      skip
      have := HSZ.out
      omega
    have HT2 := Lib.hid hT
    clear hT
    go_wp2_with fail
    refine (p1.out _ _ HT2.out (by omega)).mono ?_
    rintro e w1 ⟨rfl, hb1⟩
    go_wp2_with fail
    refine (p2.out _ _ (by rw [bl_app, HT2.out]; rfl) (by rw [ByteArray.size_append, Q3.out]; omega)).mono ?_
    rintro e w2 ⟨rfl, hb2⟩
    have hb2 : Below w.heap.size w w2 := hb1.trans (hb2.mono hb1.size)
    go_wp2_with fail
    refine (p3.out _ _ (by rw [bl_app, HT2.out]; rfl) (by rw [ByteArray.size_append, Q3.out]; omega)).mono ?_
    rintro e w3 ⟨rfl, hb3⟩
    have hb3 : Below w.heap.size w w3 := hb2.trans (hb3.mono hb2.size)
    go_wp2_with fail
    refine (haw.out _ (HT.at_ hb3)).mono ?_
    rintro e w4 ⟨rfl, hb4⟩
    go_wp2_with fail
    go_ret
    exact ⟨rfl, hb3.trans (hb4.mono hb3.size)⟩
  · skip
    have hT : bl ((⟨#[45]⟩ : ByteArray) ++ (D ++ ⟨#[46]⟩ ++ G)) = decT true m f := by
      rw [bl_app]
      rw [bl_app, bl_app, HD.out, HG.out]
      unfold decT
      simp [bl]
    have hTs : ((⟨#[45]⟩ : ByteArray) ++ (D ++ ⟨#[46]⟩ ++ G)).size ≤ 14 := by
      rw [ByteArray.size_append, Q1.out]
      have := HSZ.out
      omega
    have HT2 := Lib.hid hT
    clear hT
    go_wp2_with fail
    refine (p1.out _ _ HT2.out (by omega)).mono ?_
    rintro e w1 ⟨rfl, hb1⟩
    go_wp2_with fail
    refine (p2.out _ _ (by rw [bl_app, HT2.out]; rfl) (by rw [ByteArray.size_append, Q3.out]; omega)).mono ?_
    rintro e w2 ⟨rfl, hb2⟩
    have hb2 : Below w.heap.size w w2 := hb1.trans (hb2.mono hb1.size)
    go_wp2_with fail
    refine (p3.out _ _ (by rw [bl_app, HT2.out]; rfl) (by rw [ByteArray.size_append, Q3.out]; omega)).mono ?_
    rintro e w3 ⟨rfl, hb3⟩
    have hb3 : Below w.heap.size w w3 := hb2.trans (hb3.mono hb2.size)
    go_wp2_with fail
    refine (haw.out _ (HT.at_ hb3)).mono ?_
    rintro e w4 ⟨rfl, hb4⟩
    go_wp2_with fail
    go_ret
    exact ⟨rfl, hb3.trans (hb4.mono hb3.size)⟩

theorem cells_u8 : Tryd.prog.cellsOf 5 = 1 := by kernel_rfl
theorem own : ownKnob Tryd.prog.godebug = none := by kernel_rfl
theorem laidOut : laidOutB Tryd.prog = true := by kernel_rfl
theorem contract (H : Type) (enc : TypeId × Value → H) (W : World) (base : Nat) (args : Array Value) (ds gs : List (DataW H)) (before : List MemPlace)
    (hval : ∀ (j : Nat) t v, Tryd.f12.params[j]? = some t → args[j]? = some v → Value.okWide Tryd.prog W .any base t v)
    (hW : DataW.Whole enc Tryd.prog Tryd.f12.params.toList Rows.microDecimalsSpec.vars false W args.toList ds gs before) (htab : M3w.PowTab W) :
    Calls Tryd.prog 12 args W fun e W' => ∃ v, e = .returned v ∧ Rows.microDecimalsSpec.post enc Tryd.prog Tryd.f12 false true false false W args v W' := by
  have hW' := hW
  obtain ⟨p, q, hA0, hV, rfl, hfz, hnd⟩ := hW
  have hA : DataW.TrodAll enc Tryd.prog W 0 (fun _ => true) true Tryd.f12.params.toList args.toList ds p := hA0
  rw [Tryd.params12] at hA hval
  obtain ⟨v0, vs0, d0, ds0, p0, q0, hargs, rfl, rfl, h0, r0⟩ := trodAll_cons hA
  obtain ⟨v1, vs1, d1, ds1, p1, q1, rfl, rfl, rfl, h1, r1⟩ := trodAll_cons r0
  obtain ⟨v2, vs2, d2, ds2, p2, q2, rfl, rfl, rfl, h2, r2⟩ := trodAll_cons r1
  obtain ⟨rfl, rfl, rfl⟩ := trodAll_nil r2
  obtain rfl : args = #[v0, v1, v2] := by cases args; simp_all
  obtain ⟨a0, rfl, -, -, w0⟩ := open_int Tryd.underlying3 (hval 0 3 v0 rfl rfl) h0
  obtain ⟨a1, rfl, -, -, w1⟩ := open_int Tryd.underlying3 (hval 1 3 v1 rfl rfl) h1
  obtain ⟨b2, rfl, -, -⟩ := open_bool Tryd.underlying4 (hval 2 4 v2 rfl rfl) h2
  clear hA0
  refine (walk a0 (bounds_i64 w0) a1 (bounds_i64 w1) b2 W  htab).mono fun e W' ⟨he, hb⟩ => ?_
  subst he
  exact ⟨_, rfl, law_post laidOut (types_fit (by kernel_rfl)) (by kernel_rfl) Tryd.underlying4 rfl (fun xs hx => by
    match xs, hx with
    | [_, _, _], _ => rfl) hW' hb⟩

theorem lifted (os : Os) (started : os.Started) (H : Type) (enc : TypeId × Value → H) :
    ReturnsInHanded {} Tryd.checked os 12 .any (fun w args => (Rows.microDecimalsSpec.pre enc Tryd.prog Tryd.f12 Rows.microDecimalsRow.domain false w args ∧ laidMetH Tryd.prog Laid.laid3 w) ∧ sizedMet enc Tryd.prog Tryd.f12 (OpenSpec.ofChange Rows.microDecimalsSpec) false w args) (Rows.microDecimalsSpec.post enc Tryd.prog Tryd.f12 false true false false) := by
  refine returnsInHanded_of_change_and (C := Tryd.checked) (X := fun w _ => laidMetH Tryd.prog Laid.laid3 w) (fun _ _ _ hh h => h.of_heap hh) own started (by kernel_rfl) Tryd.func12
    (ChangeSpec.witness_shaped (enc := enc) (C := Tryd.checked) (os := os) (X := fun w _ => laidMetH Tryd.prog Laid.laid3 w) false (World.doorLaid Tryd.prog 400 os) #[.int .i64 0, .int .i64 0, .bool false] 8 rfl (World.shaped_of_RefB (by kernel_rfl) (by kernel_rfl)) (by kernel_rfl) (by kernel_rfl) (by kernel_rfl) (Laid.door_met os _)) ?_
  intro W base args ds gs before hval hW _ _ hL _
  exact contract H enc W base args ds gs before hval hW (Laid.tab_of hL)

theorem bare : Rows.MicroDecimalsSaid :=
  OpenClaim.holds_of_wide 12 Tryd.f12 rfl rfl rfl rfl rfl rfl rfl ⟨rfl, rfl, rfl, rfl, rfl⟩ rfl rfl rfl rfl rfl (by kernel_rfl) Tryd.func12 (by kernel_rfl)
    (of_decide_eq_true (by kernel_rfl)) (by unfold Func.isWrapper; first | (rw [if_pos (by decide +kernel)]; kernel_rfl) | (rw [if_neg (by decide +kernel)]; exact ⟨rfl, rfl⟩))
    (fun os started H enc _ => lifted os started H enc)
theorem proved : Rows.MicroDecimalsCardSaid :=
  Claim7.holds_tied_plain_at .later [] [.data, .data, .data] true (true, Rows.microDecimalsCard.stood.harness.2) false
    bare (fun _ h => by cases h) (by kernel_rfl) (fun _ h => by cases h) microDecimals_row_tie rfl ⟨rfl, rfl⟩ (by kernel_rfl) rfl
    (fun f fn hf hfn => by
      obtain rfl : f = 12 := Option.some.inj ((show Tryd.prog.funcNamed "baseboard/baseboardlaw03.MicroDecimals" = some 12 by kernel_rfl).symm.trans hf) |>.symm
      obtain rfl : fn = Tryd.f12 := (Option.some.inj (Tryd.func12.symm.trans hfn)).symm
      exact ⟨by kernel_rfl, fun j t ht => by
        rw [Tryd.params12] at ht
        have hm : t ∈ [3, 3, 4] := by simpa using Array.mem_of_getElem? ht
        have hall : ([3, 3, 4].all fun u => !Tryd.prog.wantsStandIn u) = true := by kernel_rfl
        exact (show Tryd.prog.wantsStandIn t = false by simpa using List.all_eq_true.1 hall t hm)⟩)
    (by kernel_rfl)
end Go.Proofs.YtnkhmhcgcmacgaaDoor.microDecimals
