/- The statement EventlogRefuses: which places of a log there are, and which events are refused without writing, for all numbers. -/
import Derived.Test.YtncpbgmbneobiaaGr
import Derived.Test.YtncpbgmbneobiaaLaw
namespace Go.Proofs.Ytncpbgmbneobiaa.eventlogRefuses
open Go.RowKit Go.ChangeShapes Go.WideShapes Go.ChangeAt Go.Proofs.Ytncpbgmbneobiaa.Mem Go.Proofs.Ytncpbgmbneobiaa.Law Go.Proofs.Ytncpbgmbneobiaa.E5p Go.Proofs.Ytncpbgmbneobiaa.E5m Go.Proofs.Ytncpbgmbneobiaa.E5a Go.Proofs.Ytncpbgmbneobiaa.E5d Go.Proofs.Ytncpbgmbneobiaa.V7 Go.Proofs.Ytncpbgmbneobiaa.G9 Go.Proofs.Ytncpbgmbneobiaa.Made
set_option maxRecDepth 100000
set_option maxHeartbeats 4000000

theorem first_add (s : Fl) (K C : Nat) (hC : 2 ≤ C) (e : Ev) : (madd (slots s) (fresh K C false (slots s)) e).2 = (1, 0) := by
  have h1 : ¬ (slots s < slots s) := Nat.lt_irrefl _
  have h2 : ¬ ((C : Int) - 2 < ((0 : Nat) : Int) + 1 - ((1 : Nat) : Int)) := by omega
  have h3 : mroom (slots s) (fresh K C false (slots s)) = ((fresh K C false (slots s)).opened 1, 0) := by
    unfold mroom
    rw [if_neg (show ¬ ((fresh K C false (slots s)).used < slots s) from h1), if_neg (show ¬ (((fresh K C false (slots s)).S : Int) - 2 < ((fresh K C false (slots s)).newest : Int) + 1 - ((fresh K C false (slots s)).tail : Int)) from h2)]
    rfl
  unfold madd
  rw [h3]
  rfl
theorem walk (a : Int) (ha : -9223372036854775808 ≤ a ∧ a ≤ 9223372036854775807) (b : Int) (hb : -9223372036854775808 ≤ b ∧ b ≤ 9223372036854775807) (c : Int) (hc : -9223372036854775808 ≤ c ∧ c ≤ 9223372036854775807)
    (i : Int) (hi : 0 ≤ i ∧ i ≤ 65535) (k : Int) (hk : 0 ≤ k ∧ k ≤ 255) (W : World) :
    Calls Try.prog 9 #[.int .i64 a, .int .i64 b, .int .i64 c, .int .u16 i, .int .u8 k] W fun e W' => e = .returned (.bool true) ∧ Below W.heap.size W W' := by
  have haw := Lib.hid (fun u => awake_any u)
  have HM1 := Lib.hid (fun u => mod_any a 5 u ha.1 ha.2 (by omega) (by omega))
  have HM2 := Lib.hid (fun u => mod_any b 8 u hb.1 hb.2 (by omega) (by omega))
  have HM3 := Lib.hid (fun u => mod_any c 8 u hc.1 hc.2 (by omega) (by omega))
  clear ha hb hc
  obtain ⟨I, rfl⟩ := Int.eq_ofNat_of_zero_le hi.1
  obtain ⟨T, rfl⟩ := Int.eq_ofNat_of_zero_le hk.1
  have hI : I < 65536 := by omega
  have hT : T < 256 := by omega
  clear hi hk
  go_enter Try.func9, Try.ntmps9
  go_wp2_with fail
  refine (HM1.out _).mono ?_
  rintro e w0 ⟨⟨k1, hk1, rfl, -⟩, hw0⟩
  rw [← hw0]
  clear hw0 w0 HM1
  have HNEW : Hid (Calls Try.prog 36 #[.int .i64 (1 + (k1 : Int)), .int .i64 64] W fun e w' => ∃ d, e = .returned (.tuple #[.pointer (some ⟨d.g, 0, none⟩), .int .i64 0]) ∧ At W.heap.size W w' d (Fl.new (1 + k1) 64) 0 ∧ Below W.heap.size W w' ∧ PDev W.heap.size w' d (Fl.new (1 + k1) 64)) := Lib.hid (by
    have := At.new (1 + k1) 64 (by omega) (by omega) (by omega) (by omega) W.heap.size W W (Below.refl _ _) (Nat.le_refl _)
    rw [show ((1 + k1 : Nat) : Int) = 1 + (k1 : Int) by omega] at this
    exact this)
  go_wp2_with fail
  refine HNEW.out.mono ?_
  rintro e w1 ⟨d, rfl, h1, -, -⟩
  have H1 := Lib.hid h1
  clear h1 HNEW
  go_wp2_with fail
  refine (HM2.out _).mono ?_
  rintro e w2 ⟨⟨k2, hk2, rfl, -⟩, hw2⟩
  rw [← hw2]
  clear hw2 w2 HM2
  go_wp2_with fail
  refine (HM3.out _).mono ?_
  rintro e w3 ⟨⟨k3, hk3, rfl, -⟩, hw3⟩
  rw [← hw3]
  clear hw3 w3 HM3
  have hwear : (Fl.new (1 + k1) 64).wear.length = 1 + k1 := by show (List.replicate (1 + k1) (0 : Int)).length = _; exact List.length_replicate
  rcases Classical.em (1 ≤ k2 ∧ 2 ≤ k3 ∧ k2 - 1 + k3 ≤ 1 + k1) with hfit | hfit
  · obtain ⟨f1, f2, f3⟩ := hfit
    obtain ⟨K, rfl⟩ : ∃ K, k2 = K + 1 := ⟨k2 - 1, by omega⟩
    have HO := openl_p H1.out rfl (fun x hx => List.eq_of_mem_replicate hx) K k3 f2 (by rw [hwear]; omega) false
    replace HO := Lib.hid HO
    have g0 : decide ((K : Int) + (k3 : Int) ≤ 1 + (k1 : Int)) = true := by simp; omega
    have g1 : decide ((2 : Int) ≤ (k3 : Int)) = true := by simp; omega
    have F2 := Lib.hid f2
    clear hwear f1 f3 H1
    go_wp2_with fail
    refine HO.out.mono ?_
    rintro e w4 ⟨g, rfl, h4, -, -⟩
    have hev : (⟨I, 0, 0, 0, 0, T, false, 0, 0, 0⟩ : Ev).Fit := ⟨hI, (by decide : (0 : Nat) < 4294967296), (by decide : (0 : Nat) < 65536), (by decide : (0 : Nat) < 256), (by decide : (0 : Nat) < 256), hT, (by decide : (0 : Nat) < 256), (by decide : (0 : Nat) < 256), (by decide : (0 : Nat) < 256)⟩
    have hadd := add_p h4 (by omega) (by omega) ⟨I, 0, 0, 0, 0, T, false, 0, 0, 0⟩ hev
    have HADD := Lib.hid (show Calls Try.prog 25 #[.pointer (some ⟨g, 0, none⟩), .agg #[.int .u16 (I : Int), .int .u32 0, .int .u16 0, .int .u8 0, .int .u8 0, .int .u8 (T : Int), .bool false, .int .u8 0, .int .u8 0, .int .u8 0]] w4 _ from hadd)
    rcases Classical.em (I = 0 ∧ T ≤ 127) with hgood | hbad
    · obtain ⟨rfl, hT7⟩ := hgood
      obtain ⟨a1, a2, a3⟩ := add_calm ⟨rfl, rfl⟩ h4.ok h4.dev.ok (by show (0 : Nat) < 2147483648; decide) ⟨0, 0, 0, 0, 0, T, false, 0, 0, 0⟩ (by simp [V7.vld]; exact hT7) rfl
      have a4 := first_add (Fl.new (1 + k1) 64) K k3 F2.out ⟨0, 0, 0, 0, 0, T, false, 0, 0, 0⟩
      rw [a4] at a1
      have A1 := Lib.hid a1
      have g2 : decide ((T : Int) ≤ 127) = true := by simp; omega
      clear a1 a2 a3 a4 hadd h4 hev hI hT hT7
      go_wp2_with fail
      refine HADD.out.mono ?_
      rintro e w5 ⟨rv5, rfl, h5, -⟩
      rw [A1.out] at h5 ⊢
      have HB5 := Lib.hid ((show LA _ _ _ _ _ _ _ _ _ _ from h5).dev.low)
      clear h5 HADD A1
      go_wp2_with fail
      refine (haw.out _).mono ?_
      rintro e w6 ⟨rfl, hb6⟩
      go_wp2_with fail
      go_ret
      exact ⟨rfl, HB5.out.trans (hb6.mono HB5.out.size)⟩
    · have hno : V7.vld (⟨I, 0, 0, 0, 0, T, false, 0, 0, 0⟩ : Ev) = false ∨ I ≠ 0 := by
        rcases Nat.eq_zero_or_pos I with rfl | h
        · refine .inl ?_
          have : ¬ T ≤ 127 := fun h => hbad ⟨rfl, h⟩
          simp [V7.vld]
          omega
        · exact .inr (Nat.ne_of_gt h)
      have A1 := Lib.hid (add_bad (s := Fl.new (1 + k1) 64) (L := fresh K k3 false (slots (Fl.new (1 + k1) 64))) (e := ⟨I, 0, 0, 0, 0, T, false, 0, 0, 0⟩) rfl hno)
      have HBAD := Lib.hid hbad
      clear hno hadd h4 hev hI hT hbad
      rcases Nat.eq_zero_or_pos I with rfl | hpos
      · have gT : decide ((T : Int) ≤ 127) = false := by
          have : ¬ T ≤ 127 := fun h => HBAD.out ⟨rfl, h⟩
          simp
          omega
        go_wp2_with fail
        refine HADD.out.mono ?_
        rintro e w5 ⟨rv5, rfl, h5, -⟩
        rw [A1.out] at h5 ⊢
        have H5 := Lib.hid (show LA _ _ w5 d (Fl.new (1 + k1) 64) _ _ _ _ _ from h5)
        have HST := Lib.hid (show Calls Try.prog 37 #[.pointer (some ⟨d.g, 0, none⟩)] w5 fun e w' => e = .returned (.int .i64 0) ∧ w5 = w' from steps_p H5.out.dev.dev)
        have HB5 := Lib.hid H5.out.dev.low
        clear h5 HADD A1 H5
        go_wp2_with fail
        refine HST.out.mono ?_
        rintro e w6 ⟨rfl, rfl⟩
        go_wp2_with fail
        refine (haw.out _).mono ?_
        rintro e w7 ⟨rfl, hb7⟩
        go_wp2_with fail
        go_ret
        exact ⟨rfl, HB5.out.trans (hb7.mono HB5.out.size)⟩
      · have gI : ((I : Int) == 0) = false := by simp; omega
        clear hpos
        go_wp2_with fail
        refine HADD.out.mono ?_
        rintro e w5 ⟨rv5, rfl, h5, -⟩
        rw [A1.out] at h5 ⊢
        have H5 := Lib.hid (show LA _ _ w5 d (Fl.new (1 + k1) 64) _ _ _ _ _ from h5)
        have HST := Lib.hid (show Calls Try.prog 37 #[.pointer (some ⟨d.g, 0, none⟩)] w5 fun e w' => e = .returned (.int .i64 0) ∧ w5 = w' from steps_p H5.out.dev.dev)
        have HB5 := Lib.hid H5.out.dev.low
        clear h5 HADD A1 H5
        go_wp2_with fail
        refine HST.out.mono ?_
        rintro e w6 ⟨rfl, rfl⟩
        go_wp2_with fail
        refine (haw.out _).mono ?_
        rintro e w7 ⟨rfl, hb7⟩
        go_wp2_with fail
        go_ret
        exact ⟨rfl, HB5.out.trans (hb7.mono HB5.out.size)⟩
  · have herr : (k3 : Int) < 2 ∨ (k2 : Int) - 1 < 0 ∨ (((Fl.new (1 + k1) 64).wear.length : Nat) : Int) - (k3 : Int) < (k2 : Int) - 1 := by rw [hwear]; omega
    have HO := Lib.hid (openl_no H1.out ((k2 : Int) - 1) (k3 : Int) ⟨by omega, by omega⟩ ⟨by omega, by omega⟩ false herr)
    have HB := Lib.hid H1.out.low
    clear herr hwear
    go_wp2_with fail
    refine HO.out.mono ?_
    rintro e w4 ⟨rfl, hw4⟩
    rw [hw4]
    clear hw4 w4 HO
    rcases Int.lt_or_le ((k2 : Int) - 1) 0 with g1 | g1
    · go_wp2_with fail
      refine (haw.out _).mono ?_
      rintro e w5 ⟨rfl, hb5⟩
      go_wp2_with fail
      go_ret
      exact ⟨rfl, HB.out.trans (hb5.mono HB.out.size)⟩
    · rcases Int.lt_or_le (k3 : Int) 2 with g2 | g2
      · go_wp2_with fail
        refine (haw.out _).mono ?_
        rintro e w5 ⟨rfl, hb5⟩
        go_wp2_with fail
        go_ret
        exact ⟨rfl, HB.out.trans (hb5.mono HB.out.size)⟩
      · have g3 : decide ((k2 : Int) - 1 + (k3 : Int) ≤ 1 + (k1 : Int)) = false := by simp; omega
        go_wp2_with fail
        refine (haw.out _).mono ?_
        rintro e w5 ⟨rfl, hb5⟩
        go_wp2_with fail
        go_ret
        exact ⟨rfl, HB.out.trans (hb5.mono HB.out.size)⟩

theorem cells_u8 : Try.prog.cellsOf 5 = 1 := by kernel_rfl
theorem own : ownKnob Try.prog.godebug = none := by kernel_rfl
theorem laidOut : laidOutB Try.prog = true := by kernel_rfl
theorem contract (H : Type) (enc : TypeId × Value → H) (W : World) (base : Nat) (args : Array Value) (ds gs : List (DataW H)) (before : List MemPlace)
    (hval : ∀ (j : Nat) t v, Try.f9.params[j]? = some t → args[j]? = some v → Value.okWide Try.prog W .any base t v)
    (hW : DataW.Whole enc Try.prog Try.f9.params.toList Rows.eventlogRefusesSpec.vars false W args.toList ds gs before) :
    Calls Try.prog 9 args W fun e W' => ∃ v, e = .returned v ∧ Rows.eventlogRefusesSpec.post enc Try.prog Try.f9 false true false false W args v W' := by
  have hW' := hW
  obtain ⟨p, q, hA0, hV, rfl, hfz, hnd⟩ := hW
  have hA : DataW.TrodAll enc Try.prog W 0 (fun _ => true) true Try.f9.params.toList args.toList ds p := hA0
  rw [Try.params9] at hA hval
  obtain ⟨v0, vs0, d0, ds0, p0, q0, hargs, rfl, rfl, h0, r0⟩ := trodAll_cons hA
  obtain ⟨v1, vs1, d1, ds1, p1, q1, rfl, rfl, rfl, h1, r1⟩ := trodAll_cons r0
  obtain ⟨v2, vs2, d2, ds2, p2, q2, rfl, rfl, rfl, h2, r2⟩ := trodAll_cons r1
  obtain ⟨v3, vs3, d3, ds3, p3, q3, rfl, rfl, rfl, h3, r3⟩ := trodAll_cons r2
  obtain ⟨v4, vs4, d4, ds4, p4, q4, rfl, rfl, rfl, h4, r4⟩ := trodAll_cons r3
  obtain ⟨rfl, rfl, rfl⟩ := trodAll_nil r4
  obtain rfl : args = #[v0, v1, v2, v3, v4] := by cases args; simp_all
  obtain ⟨a0, rfl, -, -, w0⟩ := open_int Try.underlying3 (hval 0 3 v0 rfl rfl) h0
  obtain ⟨a1, rfl, -, -, w1⟩ := open_int Try.underlying3 (hval 1 3 v1 rfl rfl) h1
  obtain ⟨a2, rfl, -, -, w2⟩ := open_int Try.underlying3 (hval 2 3 v2 rfl rfl) h2
  obtain ⟨a3, rfl, -, -, w3⟩ := open_int Try.underlying29 (hval 3 29 v3 rfl rfl) h3
  obtain ⟨a4, rfl, -, -, w4⟩ := open_int Try.underlying5 (hval 4 5 v4 rfl rfl) h4
  clear hA0
  refine (walk a0 (bounds_i64 w0) a1 (bounds_i64 w1) a2 (bounds_i64 w2) a3 (bounds_u16 w3) a4 (bounds_u8 w4) W ).mono fun e W' ⟨he, hb⟩ => ?_
  subst he
  exact ⟨_, rfl, law_post laidOut (types_fit (by kernel_rfl)) (by kernel_rfl) Try.underlying4 rfl (fun xs hx => by
    match xs, hx with
    | [_, _, _, _, _], _ => rfl) hW' hb⟩

theorem lifted (os : Os) (started : os.Started) (H : Type) (enc : TypeId × Value → H) :
    ReturnsInHanded {} Try.checked os 9 .any (Rows.eventlogRefusesSpec.pre6 enc Try.prog Try.f9 Rows.eventlogRefusesRow.domain false) (Rows.eventlogRefusesSpec.post enc Try.prog Try.f9 false true false false) := by
  refine returnsInHanded_of_change (C := Try.checked) own started (by kernel_rfl) Try.func9
    (ChangeSpec.witness6 (enc := enc) (C := Try.checked) false ⟨#[], #[.int .i64 0, .int .i64 0, .int .i64 0, .int .u16 0, .int .u8 0], []⟩ 8 (by kernel_rfl) (by kernel_rfl) (by kernel_rfl) (by kernel_rfl)) ?_
  intro W base args ds gs before hval hW _ _
  exact contract H enc W base args ds gs before hval hW

theorem proved : Rows.EventlogRefusesSaid :=
  OpenClaim.holds_of_wide 9 Try.f9 rfl rfl rfl rfl rfl rfl rfl ⟨rfl, rfl, rfl, rfl, rfl⟩ rfl rfl rfl rfl rfl (by kernel_rfl) Try.func9 (by kernel_rfl)
    (of_decide_eq_true (by kernel_rfl)) (by unfold Func.isWrapper; first | (rw [if_pos (by decide +kernel)]; kernel_rfl) | (rw [if_neg (by decide +kernel)]; exact ⟨rfl, rfl⟩))
    (fun os started H enc _ => lifted os started H enc)
end Go.Proofs.Ytncpbgmbneobiaa.eventlogRefuses
