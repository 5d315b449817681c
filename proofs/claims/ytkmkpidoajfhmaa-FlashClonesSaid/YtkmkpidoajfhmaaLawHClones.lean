/- FlashClones holds for every input: a copy goes on as the device would have done, and neither sees what happens to the other one. No condition. -/
import Derived.Test.YtkmkpidoajfhmaaE5f
import Derived.Test.YtkmkpidoajfhmaaLaw5
namespace Go.Proofs.Ytkmkpidoajfhmaa.flashClones
open Go.RowKit Go.ChangeShapes Go.WideShapes Go.ChangeAt Go.Proofs.Ytkmkpidoajfhmaa.Mem Go.Proofs.Ytkmkpidoajfhmaa.E5p Go.Proofs.Ytkmkpidoajfhmaa.E5m Go.Proofs.Ytkmkpidoajfhmaa.E5a Go.Proofs.Ytkmkpidoajfhmaa.E5d Go.Proofs.Ytkmkpidoajfhmaa.Made Go.Proofs.Ytkmkpidoajfhmaa.Law
set_option maxRecDepth 100000
set_option maxHeartbeats 1000000

theorem walk (A : Option Addr) (n c : Nat) (l : List Do1) (A2 : Option Addr) (n2 c2 : Nat) (l2 : List Do1) (A3 : Option Addr) (n3 c3 : Nat) (l3 : List Do1)
    (w : World) (hr : Scr w.heap.size w A n c l) (hr2 : Scr w.heap.size w A2 n2 c2 l2) (hr3 : Scr w.heap.size w A3 n3 c3 l3) :
    Calls Try.prog 7 #[.slice A n c, .slice A2 n2 c2, .slice A3 n3 c3] w fun e w' => e = .returned (.bool true) ∧ Below w.heap.size w w' := by
  have hl := fun u => light_any w.heap.size A n c l u
  have hl2 := fun u => light_any w.heap.size A2 n2 c2 l2 u
  have hl3 := fun u => light_any w.heap.size A3 n3 c3 l3 u
  have HL := Lib.hid hl; have HL2 := Lib.hid hl2; have HL3 := Lib.hid hl3
  clear hl hl2 hl3
  cases h1 : lightB l
  · go_enter Try.func7, Try.ntmps7
    go_wp2_with fail
    refine (HL.out _ hr).mono ?_
    rintro e w' ⟨rfl, q1, rfl⟩
    rw [h1]
    go_wp2_with fail
    refine (awake_any _).mono ?_
    rintro e w1 ⟨rfl, hb⟩
    go_wp2_with fail
    go_ret
    exact ⟨rfl, (show Below w.heap.size w _ from below_of_drawn).trans hb⟩
  · cases h2 : lightB l2
    · go_enter Try.func7, Try.ntmps7
      go_wp2_with fail
      refine (HL.out _ hr).mono ?_
      rintro e w' ⟨rfl, q1, rfl⟩
      rw [h1]
      go_wp2_with fail
      refine (HL2.out _ (hr2.below below_of_drawn)).mono ?_
      rintro e w' ⟨rfl, q2, rfl⟩
      rw [h2]
      go_wp2_with fail
      refine (awake_any _).mono ?_
      rintro e w1 ⟨rfl, hb⟩
      go_wp2_with fail
      go_ret
      exact ⟨rfl, (show Below w.heap.size w _ from below_of_drawn).trans hb⟩
    · cases h3 : lightB l3
      · go_enter Try.func7, Try.ntmps7
        go_wp2_with fail
        refine (HL.out _ hr).mono ?_
        rintro e w' ⟨rfl, q1, rfl⟩
        rw [h1]
        go_wp2_with fail
        refine (HL2.out _ (hr2.below below_of_drawn)).mono ?_
        rintro e w' ⟨rfl, q2, rfl⟩
        rw [h2]
        go_wp2_with fail
        refine (HL3.out _ (hr3.below below_of_drawn)).mono ?_
        rintro e w' ⟨rfl, q3, rfl⟩
        rw [h3]
        go_wp2_with fail
        refine (awake_any _).mono ?_
        rintro e w1 ⟨rfl, hb⟩
        go_wp2_with fail
        go_ret
        exact ⟨rfl, (show Below w.heap.size w _ from below_of_drawn).trans hb⟩
      · obtain ⟨a1, b1⟩ := light_yes h1
        obtain ⟨a2, b2⟩ := light_yes h2
        obtain ⟨a3, b3⟩ := light_yes h3
        have z1 : n ≤ 60 := by have := hr.len; omega
        have z2 : n2 ≤ 60 := by have := hr2.len; omega
        have z3 : n3 ≤ 60 := by have := hr3.len; omega
        have B1 := Lib.hid b1; have B2 := Lib.hid b2; have B3 := Lib.hid b3; clear b1 b2 b3
        go_enter Try.func7, Try.ntmps7
        go_wp2_with fail
        refine (HL.out _ hr).mono ?_
        rintro e w' ⟨rfl, q1, rfl⟩
        rw [h1]
        go_wp2_with fail
        refine (HL2.out _ (hr2.below below_of_drawn)).mono ?_
        rintro e w' ⟨rfl, q2, rfl⟩
        rw [h2]
        go_wp2_with fail
        refine (HL3.out _ (hr3.below below_of_drawn)).mono ?_
        rintro e w' ⟨rfl, q3, rfl⟩
        rw [h3]
        go_wp2_with fail
        have hw0 : Below w.heap.size w (w.drewN (q1 + q2 + q3)) := below_of_drawn
        generalize w.drewN (q1 + q2 + q3) = w0 at *
        clear HL HL2 HL3 h1 h2 h3
        refine (At.new 2 64 (by omega) (by omega) (by omega) (by omega) w.heap.size w w0 hw0 hw0.size).mono ?_
        rintro e w1 ⟨da, rfl, ha, hb1, hna⟩
        go_wp2_with fail
        refine (At.new 2 64 (by omega) (by omega) (by omega) (by omega) w.heap.size w w1 ha.low ha.base).mono ?_
        rintro e w2 ⟨db, rfl, hB, hb2, hnb⟩
        have pab := ha.dev.apart hnb (Nat.le_refl _)
        replace ha := ha.step hb2
        clear hb1 hb2 hna hnb
        go_wp2_with fail
        refine (play_any ha A n c l hr z1 B1.out (by omega)).mono ?_
        rintro e w3 ⟨rfl, ha3, hk3⟩
        replace hB := hB.kept hk3 pab ha3
        clear ha
        go_wp2_with fail
        refine (play_any hB A n c l hr z1 B1.out (by omega)).mono ?_
        rintro e w4 ⟨rfl, hb4, hk4⟩
        have ha4 := ha3.kept hk4 pab.symm hb4
        clear ha3 hB
        go_wp2_with fail
        refine ha4.clone.mono ?_
        rintro e w5 ⟨dc, rfl, hc5, hnc, hbl⟩
        have pac := ha4.dev.apart hnc (Nat.le_refl _)
        have pbc := hb4.dev.apart hnc (Nat.le_refl _)
        have ha5 := ha4.step hbl
        have hb5 := hb4.step hbl
        clear ha4 hb4 hk3 hk4 hnc hbl
        go_wp2_with fail
        refine (equal_yes ha5 hb5).mono ?_
        rintro e w6 ⟨rfl, hbl⟩
        have ha6 := ha5.step hbl
        have hb6 := hb5.step hbl
        have hc6 := hc5.step hbl
        clear ha5 hb5 hc5 hbl
        go_wp2_with fail
        refine (equal_yes ha6 hc6).mono ?_
        rintro e w7 ⟨rfl, hbl⟩
        have ha7 := ha6.step hbl
        have hb7 := hb6.step hbl
        have hc7 := hc6.step hbl
        clear ha6 hb6 hc6 hbl
        go_wp2_with fail
        refine (play_any hc7 A3 n3 c3 l3 hr3 z3 B3.out (by omega)).mono ?_
        rintro e w8 ⟨rfl, hc8, hk8⟩
        have ha8 := ha7.kept hk8 pac.symm hc8
        have hb8 := hb7.kept hk8 pbc.symm hc8
        clear ha7 hb7 hc7
        go_wp2_with fail
        refine (equal_yes ha8 hb8).mono ?_
        rintro e w9 ⟨rfl, hbl⟩
        have ha9 := ha8.step hbl
        have hb9 := hb8.step hbl
        have hc9 := hc8.step hbl
        clear ha8 hb8 hc8 hbl
        go_wp2_with fail
        refine (play_any ha9 A2 n2 c2 l2 hr2 z2 B2.out (by omega)).mono ?_
        rintro e w10 ⟨rfl, ha10, hk10⟩
        have hb10 := hb9.kept hk10 pab ha10
        have hc10 := hc9.kept hk10 pac ha10
        clear ha9 hb9 hc9
        go_wp2_with fail
        refine hb10.clone.mono ?_
        rintro e w11 ⟨dd, rfl, hd11, hnd, hbl⟩
        have pad := ha10.dev.apart hnd (Nat.le_refl _)
        have pbd := hb10.dev.apart hnd (Nat.le_refl _)
        have pcd := hc10.dev.apart hnd (Nat.le_refl _)
        have ha11 := ha10.step hbl
        have hb11 := hb10.step hbl
        have hc11 := hc10.step hbl
        clear ha10 hb10 hc10 hnd hbl
        go_wp2_with fail
        refine (play_any hb11 A2 n2 c2 l2 hr2 z2 B2.out (by omega)).mono ?_
        rintro e w12 ⟨rfl, hb12, hk12⟩
        have ha12 := ha11.kept hk12 pab.symm hb12
        have hc12 := hc11.kept hk12 pbc hb12
        have hd12 := hd11.kept hk12 pbd hb12
        clear ha11 hb11 hc11 hd11
        go_wp2_with fail
        refine (play_any hd12 A3 n3 c3 l3 hr3 z3 B3.out (by omega)).mono ?_
        rintro e w13 ⟨rfl, hd13, hk13⟩
        have ha13 := ha12.kept hk13 pad.symm hd13
        have hb13 := hb12.kept hk13 pbd.symm hd13
        have hc13 := hc12.kept hk13 pcd.symm hd13
        clear ha12 hb12 hc12 hd12
        go_wp2_with fail
        refine (equal_yes ha13 hb13).mono ?_
        rintro e w14 ⟨rfl, hbl⟩
        have hc14 := hc13.step hbl
        have hd14 := hd13.step hbl
        clear ha13 hb13 hc13 hd13 hbl
        go_wp2_with fail
        refine (equal_yes hc14 hd14).mono ?_
        rintro e w15 ⟨rfl, hbl⟩
        have hc15 := hc14.step hbl
        go_wp2_with fail
        refine (awake_any _).mono ?_
        rintro e w16 ⟨rfl, hbl2⟩
        go_wp2_with fail
        go_ret
        exact ⟨rfl, (hc15.step hbl2).low⟩

theorem cells_u8 : Try.prog.cellsOf 5 = 1 := by kernel_rfl
theorem own : ownKnob Try.prog.godebug = none := by kernel_rfl
theorem laidOut : laidOutB Try.prog = true := by kernel_rfl
theorem contract (H : Type) (enc : TypeId × Value → H) (W : World) (base : Nat) (args : Array Value) (ds gs : List (DataW H)) (before : List MemPlace)
    (hval : ∀ (j : Nat) t v, Try.f7.params[j]? = some t → args[j]? = some v → Value.okWide Try.prog W .any base t v)
    (hW : DataW.Whole enc Try.prog Try.f7.params.toList Rows.flashClonesSpec.vars false W args.toList ds gs before) :
    Calls Try.prog 7 args W fun e W' => ∃ v, e = .returned v ∧ Rows.flashClonesSpec.post enc Try.prog Try.f7 false true false false W args v W' := by
  have hW' := hW
  obtain ⟨p, q, hA0, hV, rfl, hfz, hnd⟩ := hW
  have hA : DataW.TrodAll enc Try.prog W 0 (fun _ => true) true Try.f7.params.toList args.toList ds p := hA0
  rw [Try.params7] at hA hval
  obtain ⟨v0, vs0, d0, ds0, p0, q0, hargs, rfl, rfl, h0, r0⟩ := trodAll_cons hA
  obtain ⟨v1, vs1, d1, ds1, p1, q1, rfl, rfl, rfl, h1, r1⟩ := trodAll_cons r0
  obtain ⟨v2, vs2, d2, ds2, p2, q2, rfl, rfl, rfl, h2, r2⟩ := trodAll_cons r1
  obtain ⟨rfl, rfl, rfl⟩ := trodAll_nil r2
  obtain rfl : args = #[v0, v1, v2] := by cases args; simp_all
  obtain ⟨A0, n0, c0, l0, rfl, hr0⟩ := open_script Try.underlying22 Try.underlying37 (by kernel_rfl) ⟨rfl, rfl, rfl, rfl, rfl⟩ ⟨(by kernel_rfl), (by kernel_rfl), (by kernel_rfl), (by kernel_rfl), (by kernel_rfl)⟩ Try.underlying3 Try.underlying3 Try.underlying3 Try.underlying5 Try.underlying35 Try.underlying5 cells_u8 (hval 0 22 v0 rfl rfl) h0
  obtain ⟨A1, n1, c1, l1, rfl, hr1⟩ := open_script Try.underlying22 Try.underlying37 (by kernel_rfl) ⟨rfl, rfl, rfl, rfl, rfl⟩ ⟨(by kernel_rfl), (by kernel_rfl), (by kernel_rfl), (by kernel_rfl), (by kernel_rfl)⟩ Try.underlying3 Try.underlying3 Try.underlying3 Try.underlying5 Try.underlying35 Try.underlying5 cells_u8 (hval 1 22 v1 rfl rfl) h1
  obtain ⟨A2, n2, c2, l2, rfl, hr2⟩ := open_script Try.underlying22 Try.underlying37 (by kernel_rfl) ⟨rfl, rfl, rfl, rfl, rfl⟩ ⟨(by kernel_rfl), (by kernel_rfl), (by kernel_rfl), (by kernel_rfl), (by kernel_rfl)⟩ Try.underlying3 Try.underlying3 Try.underlying3 Try.underlying5 Try.underlying35 Try.underlying5 cells_u8 (hval 2 22 v2 rfl rfl) h2
  clear hA0
  refine (walk A0 n0 c0 l0 A1 n1 c1 l1 A2 n2 c2 l2 W hr0 hr1 hr2).mono fun e W' ⟨he, hb⟩ => ?_
  subst he
  exact ⟨_, rfl, law_post laidOut (types_fit (by kernel_rfl)) (by kernel_rfl) Try.underlying4 rfl (fun xs hx => by
    match xs, hx with
    | [_, _, _], _ => rfl) hW' hb⟩

theorem lifted (os : Os) (started : os.Started) (H : Type) (enc : TypeId × Value → H) :
    ReturnsInHanded {} Try.checked os 7 .any (Rows.flashClonesSpec.pre6 enc Try.prog Try.f7 Rows.flashClonesRow.domain false) (Rows.flashClonesSpec.post enc Try.prog Try.f7 false true false false) := by
  refine returnsInHanded_of_change (C := Try.checked) own started (by kernel_rfl) Try.func7
    (ChangeSpec.witness6 (enc := enc) (C := Try.checked) false ⟨#[], #[.slice none 0 0, .slice none 0 0, .slice none 0 0], []⟩ 8 (by kernel_rfl) (by kernel_rfl) (by kernel_rfl) (by kernel_rfl)) ?_
  intro W base args ds gs before hval hW _ _
  exact contract H enc W base args ds gs before hval hW

theorem proved : Rows.FlashClonesSaid :=
  OpenClaim.holds_of_wide 7 Try.f7 rfl rfl rfl rfl rfl rfl rfl ⟨rfl, rfl, rfl, rfl, rfl⟩ rfl rfl rfl rfl rfl (by kernel_rfl) Try.func7 (by kernel_rfl)
    (of_decide_eq_true (by kernel_rfl)) (by unfold Func.isWrapper; first | (rw [if_pos (by decide +kernel)]; kernel_rfl) | (rw [if_neg (by decide +kernel)]; exact ⟨rfl, rfl⟩))
    (fun os started H enc _ => lifted os started H enc)
end Go.Proofs.Ytkmkpidoajfhmaa.flashClones
