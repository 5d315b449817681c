/- MicroMonotone holds for every input: results grow with their first argument. Condition: the tables of the standard library that the row lists hold what the program lays in them, which the card ties to its text. -/
import Derived.Test.YtnkhmhcgcmacgaaDoorLaid
import Derived.Test.YtnkhmhcgcmacgaaDoorAw3
namespace Go.Proofs.YtnkhmhcgcmacgaaDoor.microMonotone
open Go.RowKit Go.ChangeShapes Go.WideShapes Go.ChangeAt Go.Proofs.YtnkhmhcgcmacgaaDoor.Mem Go.Proofs.YtnkhmhcgcmacgaaDoor.M3p Go.Proofs.YtnkhmhcgcmacgaaDoor.M3r Go.Proofs.YtnkhmhcgcmacgaaDoor.M3w Go.Proofs.YtnkhmhcgcmacgaaDoor.F2p Go.Proofs.YtnkhmhcgcmacgaaDoor.Law Go.Proofs.YtnkhmhcgcmacgaaDoor.Laid
set_option maxRecDepth 100000
set_option maxHeartbeats 4000000

theorem add_mono {x y : Int} (c : Int) (h : x ≤ y) : addS x c ≤ addS y c := clp_mono (by have := clp_mono h; omega)
theorem sub_mono {x y : Int} (c : Int) (h : x ≤ y) : subS x c ≤ subS y c := clp_mono (by have := clp_mono h; omega)
theorem mul_mono {x y k : Int} (h : x ≤ y) (hk : 0 ≤ k) (hl : k ≤ lim) : mulS x k ≤ mulS y k := by
  unfold mulS
  rw [clp_in (v := k) (by unfold lim at *; omega) hl]
  exact clp_mono (Int.ediv_le_ediv (by decide) (Int.mul_le_mul_of_nonneg_right (clp_mono h) hk))
theorem div_mono {x y k : Int} (h : x ≤ y) (hk : 0 < k) (hl : k ≤ lim) : divS x k ≤ divS y k := by
  unfold divS
  rw [clp_in (v := k) (by unfold lim at *; omega) hl, Int.fdiv_eq_ediv_of_nonneg _ (by omega), Int.fdiv_eq_ediv_of_nonneg _ (by omega)]
  exact clp_mono (Int.ediv_le_ediv hk (Int.mul_le_mul_of_nonneg_right (clp_mono h) (by decide)))
theorem dout_some {a b : Int} (h : 0 < b) (hl : b ≤ lim) : dout a b = .returned (.tuple #[.int .i64 (divS a b), .int .i64 0]) := by
  unfold dout
  rw [clp_in (v := b) (by unfold lim at *; omega) hl, if_neg (by omega), if_neg (by omega)]
theorem dout_none (a : Int) : dout a 0 = .returned (.tuple #[.int .i64 0, .int .i64 12]) := rfl
theorem walk (a : Int) (_ha : -9223372036854775808 ≤ a ∧ a ≤ 9223372036854775807) (b : Int) (_hb : -9223372036854775808 ≤ b ∧ b ≤ 9223372036854775807) (c : Int) (_hc : -9223372036854775808 ≤ c ∧ c ≤ 9223372036854775807) (w : World) (htab : PowTab w) :
    Calls Tryd.prog 8 #[.int .i64 a, .int .i64 b, .int .i64 c] w fun e w' => e = .returned (.bool true) ∧ Below w.heap.size w w' := by
  obtain ⟨k1, k2⟩ := clp_le c
  obtain ⟨X, hX⟩ : ∃ X, min a b = X := ⟨_, rfl⟩
  obtain ⟨Y, hY⟩ : ∃ Y, max a b = Y := ⟨_, rfl⟩
  obtain ⟨X0, hX0⟩ : ∃ Z, max X 0 = Z := ⟨_, rfl⟩
  obtain ⟨Y0, hY0⟩ : ∃ Z, max Y 0 = Z := ⟨_, rfl⟩
  have hxy : X ≤ Y := by omega
  have hxy0 : X0 ≤ Y0 := by omega
  have f1 := clp_mono hxy
  have f2 := add_mono c hxy
  have f3 := sub_mono c hxy
  have hrm : ∀ r s : Nat, isRoot (clp (X0) * 1000000).toNat r → isRoot (clp (Y0) * 1000000).toNat s → r ≤ s := fun r s hr hs =>
    root_mono hr hs (by have := clp_mono hxy0; omega)
  have HRM := Lib.hid hrm
  have c1 := Lib.hid (fun u => clamp_p c u)
  have c4 := Lib.hid (fun u => root_p (X0) u (by omega))
  have c5 := Lib.hid (fun u => root_p (Y0) u (by omega))
  have c6 := Lib.hid (fun u => clamp_p X u)
  have c7 := Lib.hid (fun u => clamp_p Y u)
  have c8 := Lib.hid (fun u => add_p X c u)
  have c9 := Lib.hid (fun u => add_p Y c u)
  have c10 := Lib.hid (fun u => sub_p X c u)
  have c11 := Lib.hid (fun u => sub_p Y c u)
  have haw := Lib.hid (fun u hu => awake_any u hu)
  clear hrm hxy0
  generalize clp c = k at *
  by_cases hk0 : k = 0
  · subst hk0
    have f4 := mul_mono hxy (Int.le_refl 0) (by decide)
    have d1 := Lib.hid (fun u => by have := div_p X 0 u; rw [dout_none] at this; exact this)
    have d2 := Lib.hid (fun u => by have := div_p Y 0 u; rw [dout_none] at this; exact this)
    have m1 := Lib.hid (fun u => mul_p X 0 u)
    have m2 := Lib.hid (fun u => mul_p Y 0 u)
    clear hxy
    generalize mulS X 0 = M1 at *
    generalize mulS Y 0 = M2 at *
    generalize addS X c = A1 at *
    generalize addS Y c = A2 at *
    generalize subS X c = S1 at *
    generalize subS Y c = S2 at *
    generalize clp X = C1 at *
    generalize clp Y = C2 at *
    go_enter Tryd.func8, Tryd.ntmps8
    go_wp2_with fail
    refine (c1.out _).mono ?_
    rintro e w' ⟨rfl, rfl⟩
    go_wp2_with fail
    refine (d1.out _).mono ?_
    rintro e w' ⟨rfl, rfl⟩
    go_wp2_with fail
    refine (d2.out _).mono ?_
    rintro e w' ⟨rfl, rfl⟩
    go_wp2_with fail
    refine (c4.out _).mono ?_
    rintro e w' ⟨⟨r, rfl, hr, hr9⟩, rfl⟩
    have HR := Lib.hid hr
    clear hr
    go_wp2_with fail
    refine (c5.out _).mono ?_
    rintro e w' ⟨⟨q, rfl, hq, hq9⟩, rfl⟩
    have hrq := HRM.out r q HR.out hq
    clear hq
    go_wp2_with fail
    refine (c6.out _).mono ?_
    rintro e w' ⟨rfl, rfl⟩
    go_wp2_with fail
    refine (c7.out _).mono ?_
    rintro e w' ⟨rfl, rfl⟩
    go_wp2_with fail
    refine (c8.out _).mono ?_
    rintro e w' ⟨rfl, rfl⟩
    go_wp2_with fail
    refine (c9.out _).mono ?_
    rintro e w' ⟨rfl, rfl⟩
    go_wp2_with fail
    refine (c10.out _).mono ?_
    rintro e w' ⟨rfl, rfl⟩
    go_wp2_with fail
    refine (c11.out _).mono ?_
    rintro e w' ⟨rfl, rfl⟩
    go_wp2_with fail
    refine (m1.out _).mono ?_
    rintro e w' ⟨rfl, rfl⟩
    go_wp2_with fail
    refine (m2.out _).mono ?_
    rintro e w' ⟨rfl, rfl⟩
    go_wp2_with fail
    refine (haw.out _ htab).mono ?_
    rintro e w' ⟨rfl, hbA⟩
    go_wp2_with fail
    go_ret
    exact ⟨rfl, hbA⟩

  by_cases hkn : k < 0
  · have hkp : 0 < (-k) := by omega
    have hkl : (-k) ≤ lim := by omega
    have hkz : (((-k) : Int) == 0) = false := by rw [beq_eq_false_iff_ne]; omega
    have f4 := mul_mono hxy (Int.le_of_lt hkp) hkl
    have f5 := div_mono hxy hkp hkl
    have d1 := Lib.hid (fun u => by have := div_p X (-k) u; rw [dout_some hkp hkl] at this; exact this)
    have d2 := Lib.hid (fun u => by have := div_p Y (-k) u; rw [dout_some hkp hkl] at this; exact this)
    have m1 := Lib.hid (fun u => mul_p X (-k) u)
    have m2 := Lib.hid (fun u => mul_p Y (-k) u)
    unfold lim at k1 k2
    clear hxy hkl
    generalize mulS X (-k) = M1 at *
    generalize mulS Y (-k) = M2 at *
    generalize addS X c = A1 at *
    generalize addS Y c = A2 at *
    generalize subS X c = S1 at *
    generalize subS Y c = S2 at *
    generalize clp X = C1 at *
    generalize clp Y = C2 at *
    generalize divS X (-k) = D1 at *
    generalize divS Y (-k) = D2 at *
    go_enter Tryd.func8, Tryd.ntmps8
    go_wp2_with fail
    refine (c1.out _).mono ?_
    rintro e w' ⟨rfl, rfl⟩
    go_wp2_with fail
    refine (d1.out _).mono ?_
    rintro e w' ⟨rfl, rfl⟩
    go_wp2_with fail
    refine (d2.out _).mono ?_
    rintro e w' ⟨rfl, rfl⟩
    go_wp2_with fail
    refine (c4.out _).mono ?_
    rintro e w' ⟨⟨r, rfl, hr, hr9⟩, rfl⟩
    have HR := Lib.hid hr
    clear hr
    go_wp2_with fail
    refine (c5.out _).mono ?_
    rintro e w' ⟨⟨q, rfl, hq, hq9⟩, rfl⟩
    have hrq := HRM.out r q HR.out hq
    clear hq
    go_wp2_with fail
    refine (c6.out _).mono ?_
    rintro e w' ⟨rfl, rfl⟩
    go_wp2_with fail
    refine (c7.out _).mono ?_
    rintro e w' ⟨rfl, rfl⟩
    go_wp2_with fail
    refine (c8.out _).mono ?_
    rintro e w' ⟨rfl, rfl⟩
    go_wp2_with fail
    refine (c9.out _).mono ?_
    rintro e w' ⟨rfl, rfl⟩
    go_wp2_with fail
    refine (c10.out _).mono ?_
    rintro e w' ⟨rfl, rfl⟩
    go_wp2_with fail
    refine (c11.out _).mono ?_
    rintro e w' ⟨rfl, rfl⟩
    go_wp2_with fail
    refine (m1.out _).mono ?_
    rintro e w' ⟨rfl, rfl⟩
    go_wp2_with fail
    refine (m2.out _).mono ?_
    rintro e w' ⟨rfl, rfl⟩
    go_wp2_with fail
    refine (haw.out _ htab).mono ?_
    rintro e w' ⟨rfl, hbA⟩
    go_wp2_with fail
    go_ret
    exact ⟨ret_bool (by rw [bne_iff_ne]; omega), hbA⟩

  
  · have hkp : 0 < k := by omega
    have hkl : k ≤ lim := by omega
    have hkz : ((k : Int) == 0) = false := by rw [beq_eq_false_iff_ne]; omega
    have f4 := mul_mono hxy (Int.le_of_lt hkp) hkl
    have f5 := div_mono hxy hkp hkl
    have d1 := Lib.hid (fun u => by have := div_p X k u; rw [dout_some hkp hkl] at this; exact this)
    have d2 := Lib.hid (fun u => by have := div_p Y k u; rw [dout_some hkp hkl] at this; exact this)
    have m1 := Lib.hid (fun u => mul_p X k u)
    have m2 := Lib.hid (fun u => mul_p Y k u)
    unfold lim at k1 k2
    clear hxy hkl
    generalize mulS X k = M1 at *
    generalize mulS Y k = M2 at *
    generalize addS X c = A1 at *
    generalize addS Y c = A2 at *
    generalize subS X c = S1 at *
    generalize subS Y c = S2 at *
    generalize clp X = C1 at *
    generalize clp Y = C2 at *
    generalize divS X k = D1 at *
    generalize divS Y k = D2 at *
    go_enter Tryd.func8, Tryd.ntmps8
    go_wp2_with fail
    refine (c1.out _).mono ?_
    rintro e w' ⟨rfl, rfl⟩
    go_wp2_with fail
    refine (d1.out _).mono ?_
    rintro e w' ⟨rfl, rfl⟩
    go_wp2_with fail
    refine (d2.out _).mono ?_
    rintro e w' ⟨rfl, rfl⟩
    go_wp2_with fail
    refine (c4.out _).mono ?_
    rintro e w' ⟨⟨r, rfl, hr, hr9⟩, rfl⟩
    have HR := Lib.hid hr
    clear hr
    go_wp2_with fail
    refine (c5.out _).mono ?_
    rintro e w' ⟨⟨q, rfl, hq, hq9⟩, rfl⟩
    have hrq := HRM.out r q HR.out hq
    clear hq
    go_wp2_with fail
    refine (c6.out _).mono ?_
    rintro e w' ⟨rfl, rfl⟩
    go_wp2_with fail
    refine (c7.out _).mono ?_
    rintro e w' ⟨rfl, rfl⟩
    go_wp2_with fail
    refine (c8.out _).mono ?_
    rintro e w' ⟨rfl, rfl⟩
    go_wp2_with fail
    refine (c9.out _).mono ?_
    rintro e w' ⟨rfl, rfl⟩
    go_wp2_with fail
    refine (c10.out _).mono ?_
    rintro e w' ⟨rfl, rfl⟩
    go_wp2_with fail
    refine (c11.out _).mono ?_
    rintro e w' ⟨rfl, rfl⟩
    go_wp2_with fail
    refine (m1.out _).mono ?_
    rintro e w' ⟨rfl, rfl⟩
    go_wp2_with fail
    refine (m2.out _).mono ?_
    rintro e w' ⟨rfl, rfl⟩
    go_wp2_with fail
    refine (haw.out _ htab).mono ?_
    rintro e w' ⟨rfl, hbA⟩
    go_wp2_with fail
    go_ret
    exact ⟨ret_bool (by rw [bne_iff_ne]; omega), hbA⟩

theorem cells_u8 : Tryd.prog.cellsOf 5 = 1 := by kernel_rfl
theorem own : ownKnob Tryd.prog.godebug = none := by kernel_rfl
theorem laidOut : laidOutB Tryd.prog = true := by kernel_rfl
theorem contract (H : Type) (enc : TypeId × Value → H) (W : World) (base : Nat) (args : Array Value) (ds gs : List (DataW H)) (before : List MemPlace)
    (hval : ∀ (j : Nat) t v, Tryd.f8.params[j]? = some t → args[j]? = some v → Value.okWide Tryd.prog W .any base t v)
    (hW : DataW.Whole enc Tryd.prog Tryd.f8.params.toList Rows.microMonotoneSpec.vars false W args.toList ds gs before) (htab : M3w.PowTab W) :
    Calls Tryd.prog 8 args W fun e W' => ∃ v, e = .returned v ∧ Rows.microMonotoneSpec.post enc Tryd.prog Tryd.f8 false true false false W args v W' := by
  have hW' := hW
  obtain ⟨p, q, hA0, hV, rfl, hfz, hnd⟩ := hW
  have hA : DataW.TrodAll enc Tryd.prog W 0 (fun _ => true) true Tryd.f8.params.toList args.toList ds p := hA0
  rw [Tryd.params8] at hA hval
  obtain ⟨v0, vs0, d0, ds0, p0, q0, hargs, rfl, rfl, h0, r0⟩ := trodAll_cons hA
  obtain ⟨v1, vs1, d1, ds1, p1, q1, rfl, rfl, rfl, h1, r1⟩ := trodAll_cons r0
  obtain ⟨v2, vs2, d2, ds2, p2, q2, rfl, rfl, rfl, h2, r2⟩ := trodAll_cons r1
  obtain ⟨rfl, rfl, rfl⟩ := trodAll_nil r2
  obtain rfl : args = #[v0, v1, v2] := by cases args; simp_all
  obtain ⟨a0, rfl, -, -, w0⟩ := open_int Tryd.underlying2 (hval 0 2 v0 rfl rfl) h0
  obtain ⟨a1, rfl, -, -, w1⟩ := open_int Tryd.underlying2 (hval 1 2 v1 rfl rfl) h1
  obtain ⟨a2, rfl, -, -, w2⟩ := open_int Tryd.underlying2 (hval 2 2 v2 rfl rfl) h2
  clear hA0
  refine (walk a0 (bounds_i64 w0) a1 (bounds_i64 w1) a2 (bounds_i64 w2) W  htab).mono fun e W' ⟨he, hb⟩ => ?_
  subst he
  exact ⟨_, rfl, law_post laidOut (types_fit (by kernel_rfl)) (by kernel_rfl) Tryd.underlying4 rfl (fun xs hx => by
    match xs, hx with
    | [_, _, _], _ => rfl) hW' hb⟩

theorem lifted (os : Os) (started : os.Started) (H : Type) (enc : TypeId × Value → H) :
    ReturnsInHanded {} Tryd.checked os 8 .any (fun w args => (Rows.microMonotoneSpec.pre enc Tryd.prog Tryd.f8 Rows.microMonotoneRow.domain false w args ∧ laidMetH Tryd.prog Laid.laid3 w) ∧ sizedMet enc Tryd.prog Tryd.f8 (OpenSpec.ofChange Rows.microMonotoneSpec) false w args) (Rows.microMonotoneSpec.post enc Tryd.prog Tryd.f8 false true false false) := by
  refine returnsInHanded_of_change_and (C := Tryd.checked) (X := fun w _ => laidMetH Tryd.prog Laid.laid3 w) (fun _ _ _ hh h => h.of_heap hh) own started (by kernel_rfl) Tryd.func8
    (ChangeSpec.witness_shaped (enc := enc) (C := Tryd.checked) (os := os) (X := fun w _ => laidMetH Tryd.prog Laid.laid3 w) false (World.doorLaid Tryd.prog 400 os) #[.int .i64 0, .int .i64 0, .int .i64 0] 8 rfl (World.shaped_of_RefB (by kernel_rfl) (by kernel_rfl)) (by kernel_rfl) (by kernel_rfl) (by kernel_rfl) (Laid.door_met os _)) ?_
  intro W base args ds gs before hval hW _ _ hL _
  exact contract H enc W base args ds gs before hval hW (Laid.tab_of hL)

theorem bare : Rows.MicroMonotoneSaid :=
  OpenClaim.holds_of_wide 8 Tryd.f8 rfl rfl rfl rfl rfl rfl rfl ⟨rfl, rfl, rfl, rfl, rfl⟩ rfl rfl rfl rfl rfl (by kernel_rfl) Tryd.func8 (by kernel_rfl)
    (of_decide_eq_true (by kernel_rfl)) (by unfold Func.isWrapper; first | (rw [if_pos (by decide +kernel)]; kernel_rfl) | (rw [if_neg (by decide +kernel)]; exact ⟨rfl, rfl⟩))
    (fun os started H enc _ => lifted os started H enc)
theorem proved : Rows.MicroMonotoneCardSaid :=
  Claim7.holds_tied_plain_at .later [] [.data, .data, .data] true (true, Rows.microMonotoneCard.stood.harness.2) false
    bare (fun _ h => by cases h) (by kernel_rfl) (fun _ h => by cases h) microMonotone_row_tie rfl ⟨rfl, rfl⟩ (by kernel_rfl) rfl
    (fun f fn hf hfn => by
      obtain rfl : f = 8 := Option.some.inj ((show Tryd.prog.funcNamed "baseboard/baseboardlaw03.MicroMonotone" = some 8 by kernel_rfl).symm.trans hf) |>.symm
      obtain rfl : fn = Tryd.f8 := (Option.some.inj (Tryd.func8.symm.trans hfn)).symm
      exact ⟨by kernel_rfl, fun j t ht => by
        rw [Tryd.params8] at ht
        have hm : t ∈ [2, 2, 2] := by simpa using Array.mem_of_getElem? ht
        have hall : ([2, 2, 2].all fun u => !Tryd.prog.wantsStandIn u) = true := by kernel_rfl
        exact (show Tryd.prog.wantsStandIn t = false by simpa using List.all_eq_true.1 hall t hm)⟩)
    (by kernel_rfl)
end Go.Proofs.YtnkhmhcgcmacgaaDoor.microMonotone
