/- MicroOrder holds for every input: sums and products do not depend on the order of their arguments, and a difference undoes a sum that was not clamped. Condition: the tables of the standard library that the row lists hold what the program lays in them, which the card ties to its text. -/
import Derived.Test.YtnkhmhcgcmacgaaDoorLaid
import Derived.Test.YtnkhmhcgcmacgaaDoorAw3
namespace Go.Proofs.YtnkhmhcgcmacgaaDoor.microOrder
open Go.RowKit Go.ChangeShapes Go.WideShapes Go.ChangeAt Go.Proofs.YtnkhmhcgcmacgaaDoor.Mem Go.Proofs.YtnkhmhcgcmacgaaDoor.M3p Go.Proofs.YtnkhmhcgcmacgaaDoor.M3r Go.Proofs.YtnkhmhcgcmacgaaDoor.M3w Go.Proofs.YtnkhmhcgcmacgaaDoor.F2p Go.Proofs.YtnkhmhcgcmacgaaDoor.Law
set_option maxRecDepth 100000
set_option maxHeartbeats 4000000

theorem add_neg (a b : Int) : addS (clp a) (-(clp b)) = subS a b := by
  obtain ⟨b1, b2⟩ := clp_le b
  unfold addS subS
  rw [clp_clp, clp_in (v := -(clp b)) (by omega) (by omega), Int.sub_eq_add_neg]
theorem sub_add (a b : Int) (h1 : -lim < addS a b) (h2 : addS a b < lim) : subS (addS a b) b = clp a := by
  have hs : addS a b = clp a + clp b := by
    unfold addS clp lim at *
    split at h1 <;> (try split at h2) <;> (try split) <;> (try split) <;> (try split) <;> (try split) <;> omega
  unfold subS
  rw [hs, clp_in (v := clp a + clp b) (by rw [← hs]; omega) (by rw [← hs]; omega), show clp a + clp b - clp b = clp a by omega, clp_clp]
theorem mul_one (a : Int) : mulS a 1000000 = clp a := by
  unfold mulS
  rw [show clp 1000000 = 1000000 by rfl, show one = 1000000 by rfl, Int.mul_ediv_cancel _ (by decide), clp_clp]
theorem add_zero (a : Int) : addS a 0 = clp a := by
  unfold addS
  rw [show clp 0 = 0 by rfl, Int.add_zero, clp_clp]
theorem walk (a : Int) (_ha : -9223372036854775808 ≤ a ∧ a ≤ 9223372036854775807) (b : Int) (_hb : -9223372036854775808 ≤ b ∧ b ≤ 9223372036854775807) (w : World) (htab : PowTab w) :
    Calls Tryd.prog 7 #[.int .i64 a, .int .i64 b] w fun e w' => e = .returned (.bool true) ∧ Below w.heap.size w w' := by
  obtain ⟨a1, a2⟩ := clp_le a
  obtain ⟨b1, b2⟩ := clp_le b
  have c1 := Lib.hid (fun u => clamp_p a u)
  have c2 := Lib.hid (fun u => clamp_p b u)
  have c3 := Lib.hid (fun u => add_p a b u)
  have c4 := Lib.hid (fun u => by have := add_p b a u; rw [addS_comm] at this; exact this)
  have c5 := Lib.hid (fun u => mul_p a b u)
  have c6 := Lib.hid (fun u => by have := mul_p b a u; rw [mulS_comm] at this; exact this)
  have c7 := Lib.hid (fun u => sub_p a b u)
  have c8 := Lib.hid (fun u => by have := add_p (clp a) (-(clp b)) u; rw [add_neg] at this; exact this)
  have c9 := Lib.hid (fun u (h : -lim < addS a b ∧ addS a b < lim) => by have := sub_p (addS a b) b u; rw [sub_add a b h.1 h.2] at this; exact this)
  have c10 := Lib.hid (fun u => by have := mul_p a 1000000 u; rw [mul_one] at this; exact this)
  have c11 := Lib.hid (fun u => by have := add_p a 0 u; rw [add_zero] at this; exact this)
  have haw := Lib.hid (fun u hu => awake_any u hu)
  generalize clp a = x at *
  generalize clp b = y at *
  generalize addS a b = s at *
  generalize mulS a b = m at *
  generalize subS a b = d at *
  unfold lim at *
  by_cases hw : -1000000000000 < s ∧ s < 1000000000000
  · have hw1 := hw.1
    have hw2 := hw.2
    go_enter Tryd.func7, Tryd.ntmps7
    go_wp2_with fail
    refine (c1.out _).mono ?_
    rintro e w' ⟨rfl, rfl⟩
    go_wp2_with fail
    refine (c2.out _).mono ?_
    rintro e w' ⟨rfl, rfl⟩
    go_wp2_with fail
    refine (c3.out _).mono ?_
    rintro e w' ⟨rfl, rfl⟩
    go_wp2_with fail
    refine (c4.out _).mono ?_
    rintro e w' ⟨rfl, rfl⟩
    go_wp2_with fail
    refine (c5.out _).mono ?_
    rintro e w' ⟨rfl, rfl⟩
    go_wp2_with fail
    refine (c6.out _).mono ?_
    rintro e w' ⟨rfl, rfl⟩
    go_wp2_with fail
    refine (c7.out _).mono ?_
    rintro e w' ⟨rfl, rfl⟩
    go_wp2_with fail
    refine (c8.out _).mono ?_
    rintro e w' ⟨rfl, rfl⟩
    go_wp2_with fail
    refine (c9.out _ hw).mono ?_
    rintro e w' ⟨rfl, rfl⟩
    go_wp2_with fail
    refine (c10.out _).mono ?_
    rintro e w' ⟨rfl, rfl⟩
    go_wp2_with fail
    refine (c11.out _).mono ?_
    rintro e w' ⟨rfl, rfl⟩
    go_wp2_with fail
    refine (haw.out _ htab).mono ?_
    rintro e w' ⟨rfl, hbA⟩
    go_wp2_with fail
    go_ret
    exact ⟨rfl, hbA⟩
  · rcases (show s ≤ -1000000000000 ∨ (-1000000000000 < s ∧ 1000000000000 ≤ s) by omega) with hw1 | ⟨hw1, hw2⟩
    · clear hw
      go_enter Tryd.func7, Tryd.ntmps7
      go_wp2_with fail
      refine (c1.out _).mono ?_
      rintro e w' ⟨rfl, rfl⟩
      go_wp2_with fail
      refine (c2.out _).mono ?_
      rintro e w' ⟨rfl, rfl⟩
      go_wp2_with fail
      refine (c3.out _).mono ?_
      rintro e w' ⟨rfl, rfl⟩
      go_wp2_with fail
      refine (c4.out _).mono ?_
      rintro e w' ⟨rfl, rfl⟩
      go_wp2_with fail
      refine (c5.out _).mono ?_
      rintro e w' ⟨rfl, rfl⟩
      go_wp2_with fail
      refine (c6.out _).mono ?_
      rintro e w' ⟨rfl, rfl⟩
      go_wp2_with fail
      refine (c7.out _).mono ?_
      rintro e w' ⟨rfl, rfl⟩
      go_wp2_with fail
      refine (c8.out _).mono ?_
      rintro e w' ⟨rfl, rfl⟩
      go_wp2_with fail
      refine (c10.out _).mono ?_
      rintro e w' ⟨rfl, rfl⟩
      go_wp2_with fail
      refine (c11.out _).mono ?_
      rintro e w' ⟨rfl, rfl⟩
      go_wp2_with fail
      refine (haw.out _ htab).mono ?_
      rintro e w' ⟨rfl, hbA⟩
      go_wp2_with fail
      go_ret
      exact ⟨rfl, hbA⟩
    · clear hw
      go_enter Tryd.func7, Tryd.ntmps7
      go_wp2_with fail
      refine (c1.out _).mono ?_
      rintro e w' ⟨rfl, rfl⟩
      go_wp2_with fail
      refine (c2.out _).mono ?_
      rintro e w' ⟨rfl, rfl⟩
      go_wp2_with fail
      refine (c3.out _).mono ?_
      rintro e w' ⟨rfl, rfl⟩
      go_wp2_with fail
      refine (c4.out _).mono ?_
      rintro e w' ⟨rfl, rfl⟩
      go_wp2_with fail
      refine (c5.out _).mono ?_
      rintro e w' ⟨rfl, rfl⟩
      go_wp2_with fail
      refine (c6.out _).mono ?_
      rintro e w' ⟨rfl, rfl⟩
      go_wp2_with fail
      refine (c7.out _).mono ?_
      rintro e w' ⟨rfl, rfl⟩
      go_wp2_with fail
      refine (c8.out _).mono ?_
      rintro e w' ⟨rfl, rfl⟩
      go_wp2_with fail
      refine (c10.out _).mono ?_
      rintro e w' ⟨rfl, rfl⟩
      go_wp2_with fail
      refine (c11.out _).mono ?_
      rintro e w' ⟨rfl, rfl⟩
      go_wp2_with fail
      refine (haw.out _ htab).mono ?_
      rintro e w' ⟨rfl, hbA⟩
      go_wp2_with fail
      go_ret
      exact ⟨rfl, hbA⟩

theorem cells_u8 : Tryd.prog.cellsOf 5 = 1 := by kernel_rfl
theorem own : ownKnob Tryd.prog.godebug = none := by kernel_rfl
theorem laidOut : laidOutB Tryd.prog = true := by kernel_rfl
theorem contract (H : Type) (enc : TypeId × Value → H) (W : World) (base : Nat) (args : Array Value) (ds gs : List (DataW H)) (before : List MemPlace)
    (hval : ∀ (j : Nat) t v, Tryd.f7.params[j]? = some t → args[j]? = some v → Value.okWide Tryd.prog W .any base t v)
    (hW : DataW.Whole enc Tryd.prog Tryd.f7.params.toList Rows.microOrderSpec.vars false W args.toList ds gs before) (htab : M3w.PowTab W) :
    Calls Tryd.prog 7 args W fun e W' => ∃ v, e = .returned v ∧ Rows.microOrderSpec.post enc Tryd.prog Tryd.f7 false true false false W args v W' := by
  have hW' := hW
  obtain ⟨p, q, hA0, hV, rfl, hfz, hnd⟩ := hW
  have hA : DataW.TrodAll enc Tryd.prog W 0 (fun _ => true) true Tryd.f7.params.toList args.toList ds p := hA0
  rw [Tryd.params7] at hA hval
  obtain ⟨v0, vs0, d0, ds0, p0, q0, hargs, rfl, rfl, h0, r0⟩ := trodAll_cons hA
  obtain ⟨v1, vs1, d1, ds1, p1, q1, rfl, rfl, rfl, h1, r1⟩ := trodAll_cons r0
  obtain ⟨rfl, rfl, rfl⟩ := trodAll_nil r1
  obtain rfl : args = #[v0, v1] := by cases args; simp_all
  obtain ⟨a0, rfl, -, -, w0⟩ := open_int Tryd.underlying2 (hval 0 2 v0 rfl rfl) h0
  obtain ⟨a1, rfl, -, -, w1⟩ := open_int Tryd.underlying2 (hval 1 2 v1 rfl rfl) h1
  clear hA0
  refine (walk a0 (bounds_i64 w0) a1 (bounds_i64 w1) W  htab).mono fun e W' ⟨he, hb⟩ => ?_
  subst he
  exact ⟨_, rfl, law_post laidOut (types_fit (by kernel_rfl)) (by kernel_rfl) Tryd.underlying4 rfl (fun xs hx => by
    match xs, hx with
    | [_, _], _ => rfl) hW' hb⟩

theorem lifted (os : Os) (started : os.Started) (H : Type) (enc : TypeId × Value → H) :
    ReturnsInHanded {} Tryd.checked os 7 .any (fun w args => (Rows.microOrderSpec.pre enc Tryd.prog Tryd.f7 Rows.microOrderRow.domain false w args ∧ laidMetH Tryd.prog Laid.laid3 w) ∧ sizedMet enc Tryd.prog Tryd.f7 (OpenSpec.ofChange Rows.microOrderSpec) false w args) (Rows.microOrderSpec.post enc Tryd.prog Tryd.f7 false true false false) := by
  refine returnsInHanded_of_change_and (C := Tryd.checked) (X := fun w _ => laidMetH Tryd.prog Laid.laid3 w) (fun _ _ _ hh h => h.of_heap hh) own started (by kernel_rfl) Tryd.func7
    (ChangeSpec.witness_shaped (enc := enc) (C := Tryd.checked) (os := os) (X := fun w _ => laidMetH Tryd.prog Laid.laid3 w) false (World.doorLaid Tryd.prog 400 os) #[.int .i64 0, .int .i64 0] 8 rfl (World.shaped_of_RefB (by kernel_rfl) (by kernel_rfl)) (by kernel_rfl) (by kernel_rfl) (by kernel_rfl) (Laid.door_met os _)) ?_
  intro W base args ds gs before hval hW _ _ hL _
  exact contract H enc W base args ds gs before hval hW (Laid.tab_of hL)

theorem bare : Rows.MicroOrderSaid :=
  OpenClaim.holds_of_wide 7 Tryd.f7 rfl rfl rfl rfl rfl rfl rfl ⟨rfl, rfl, rfl, rfl, rfl⟩ rfl rfl rfl rfl rfl (by kernel_rfl) Tryd.func7 (by kernel_rfl)
    (of_decide_eq_true (by kernel_rfl)) (by unfold Func.isWrapper; first | (rw [if_pos (by decide +kernel)]; kernel_rfl) | (rw [if_neg (by decide +kernel)]; exact ⟨rfl, rfl⟩))
    (fun os started H enc _ => lifted os started H enc)
theorem proved : Rows.MicroOrderCardSaid :=
  Claim7.holds_tied_plain_at .later [] [.data, .data, .data] true (true, Rows.microOrderCard.stood.harness.2) false
    bare (fun _ h => by cases h) (by kernel_rfl) (fun _ h => by cases h) microOrder_row_tie rfl ⟨rfl, rfl⟩ (by kernel_rfl) rfl
    (fun f fn hf hfn => by
      obtain rfl : f = 7 := Option.some.inj ((show Tryd.prog.funcNamed "baseboard/baseboardlaw03.MicroOrder" = some 7 by kernel_rfl).symm.trans hf) |>.symm
      obtain rfl : fn = Tryd.f7 := (Option.some.inj (Tryd.func7.symm.trans hfn)).symm
      exact ⟨by kernel_rfl, fun j t ht => by
        rw [Tryd.params7] at ht
        have hm : t ∈ [2, 2] := by simpa using Array.mem_of_getElem? ht
        have hall : ([2, 2].all fun u => !Tryd.prog.wantsStandIn u) = true := by kernel_rfl
        exact (show Tryd.prog.wantsStandIn t = false by simpa using List.all_eq_true.1 hall t hm)⟩)
    (by kernel_rfl)
end Go.Proofs.YtnkhmhcgcmacgaaDoor.microOrder
