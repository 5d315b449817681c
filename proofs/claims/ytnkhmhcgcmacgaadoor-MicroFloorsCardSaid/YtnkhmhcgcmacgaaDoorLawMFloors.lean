/- MicroFloors holds for every input: products and quotients are rounded down. Condition: the tables of the standard library that the row lists hold what the program lays in them, which the card ties to its text. -/
import Derived.Test.YtnkhmhcgcmacgaaDoorLaid
import Derived.Test.YtnkhmhcgcmacgaaDoorAw3
namespace Go.Proofs.YtnkhmhcgcmacgaaDoor.microFloors
open Go.RowKit Go.ChangeShapes Go.WideShapes Go.ChangeAt Go.Proofs.YtnkhmhcgcmacgaaDoor.Mem Go.Proofs.YtnkhmhcgcmacgaaDoor.M3p Go.Proofs.YtnkhmhcgcmacgaaDoor.M3r Go.Proofs.YtnkhmhcgcmacgaaDoor.M3w Go.Proofs.YtnkhmhcgcmacgaaDoor.F2p Go.Proofs.YtnkhmhcgcmacgaaDoor.Law Go.Proofs.YtnkhmhcgcmacgaaDoor.Laid
set_option maxRecDepth 100000
set_option maxHeartbeats 4000000

theorem dout_some {a b : Int} (h : 0 < b) (hl : b ≤ lim) : dout a b = .returned (.tuple #[.int .i64 (divS a b), .int .i64 0]) := by
  unfold dout
  rw [clp_in (v := b) (by unfold lim at *; omega) hl, if_neg (by omega), if_neg (by omega)]
theorem mul_floor {a b : Int} (ha : -2147483648 ≤ a ∧ a ≤ 2147483647) (hb : -2147483648 ≤ b ∧ b ≤ 2147483647) (h1 : mulS a b ≠ lim) (h2 : mulS a b ≠ -lim) : mulS a b * 1000000 ≤ a * b ∧ a * b < (mulS a b + 1) * 1000000 := by
  have hm : mulS a b = clp (a * b / 1000000) := by
    unfold mulS
    rw [clp_in (v := a) (by unfold lim; omega) (by unfold lim; omega), clp_in (v := b) (by unfold lim; omega) (by unfold lim; omega)]
    rfl
  have hme : mulS a b = a * b / 1000000 := by
    rw [hm] at h1 h2 ⊢
    unfold clp lim at *
    split at h1 <;> (try split at h1) <;> (try split) <;> (try split) <;> omega
  rw [hme]
  omega
theorem div_floor {a b : Int} (ha : -2147483648 ≤ a ∧ a ≤ 2147483647) (hb : 0 < b) (hb2 : b ≤ 2147483647) (h1 : divS a b ≠ lim) (h2 : divS a b ≠ -lim) : divS a b * b ≤ a * 1000000 ∧ a * 1000000 < (divS a b + 1) * b := by
  have hm : divS a b = clp (a * 1000000 / b) := by
    unfold divS
    rw [clp_in (v := a) (by unfold lim; omega) (by unfold lim; omega), clp_in (v := b) (by unfold lim; omega) (by unfold lim; omega), Int.fdiv_eq_ediv_of_nonneg _ (by omega)]
    rfl
  have hme : divS a b = a * 1000000 / b := by
    rw [hm] at h1 h2 ⊢
    unfold clp lim at *
    split at h1 <;> (try split at h1) <;> (try split) <;> (try split) <;> omega
  rw [hme]
  have e := Int.emod_add_mul_ediv (a * 1000000) b
  have r0 := Int.emod_nonneg (a * 1000000) (show b ≠ 0 by omega)
  have r1 := Int.emod_lt_of_pos (a * 1000000) hb
  rw [Int.add_mul, Int.mul_comm _ b, Int.one_mul]
  omega
theorem walk (a : Int) (ha : -2147483648 ≤ a ∧ a ≤ 2147483647) (b : Int) (hb : -2147483648 ≤ b ∧ b ≤ 2147483647) (w : World) (htab : PowTab w) :
    Calls Tryd.prog 9 #[.int .i32 a, .int .i32 b] w fun e w' => e = .returned (.bool true) ∧ Below w.heap.size w w' := by
  have c1 := Lib.hid (fun u => mul_p a b u)
  have c2 := Lib.hid (fun u (h : 0 < b) => by have := div_p a b u; rw [dout_some h (by unfold lim; omega)] at this; exact this)
  have haw := Lib.hid (fun u hu => awake_any u hu)
  obtain ⟨p1, p2⟩ := mul_le (a := a) (b := b) (c := 2147483648) (d := 2147483648) (by omega) (by omega) (by omega) (by omega)
  have hmf := Lib.hid (mul_floor ha hb)
  have hdf := Lib.hid (fun h => div_floor ha h hb.2)
  obtain ⟨m1, m2⟩ := clp_le (clp a * clp b / one)
  have m1 : -lim ≤ mulS a b := m1
  have m2 : mulS a b ≤ lim := m2
  obtain ⟨q1, q2⟩ := clp_le (Int.fdiv (clp a * one) (clp b))
  have q1 : -lim ≤ divS a b := q1
  have q2 : divS a b ≤ lim := q2
  generalize mulS a b = m at *
  generalize divS a b = q at *
  obtain ⟨P, hP⟩ : ∃ P, a * b = P := ⟨_, rfl⟩
  rw [hP] at p1 p2 hmf
  obtain ⟨ha1, ha2⟩ := ha
  obtain ⟨hb1, hb2⟩ := hb
  unfold lim at *
  by_cases e1 : m = 1000000000000
  · subst e1
    go_enter Tryd.func9, Tryd.ntmps9
    go_wp2_with fail
    refine (c1.out _).mono ?_
    rintro e w' ⟨rfl, rfl⟩
    go_wp2_with fail
    refine (haw.out _ htab).mono ?_
    rintro e w' ⟨rfl, hbA⟩
    go_wp2_with fail
    go_ret
    exact ⟨rfl, hbA⟩
  by_cases e2 : m = -1000000000000
  · subst e2
    go_enter Tryd.func9, Tryd.ntmps9
    go_wp2_with fail
    refine (c1.out _).mono ?_
    rintro e w' ⟨rfl, rfl⟩
    go_wp2_with fail
    refine (haw.out _ htab).mono ?_
    rintro e w' ⟨rfl, hbA⟩
    go_wp2_with fail
    go_ret
    exact ⟨rfl, hbA⟩
  obtain ⟨g1, g2⟩ := hmf.out e1 e2
  have e1b : ((m : Int) == 1000000000000) = false := by rw [beq_eq_false_iff_ne]; exact e1
  have e2b : ((m : Int) == -1000000000000) = false := by rw [beq_eq_false_iff_ne]; exact e2
  clear hmf e1 e2
  by_cases hb0 : b ≤ 0
  · skip
    go_enter Tryd.func9, Tryd.ntmps9
    go_wp2_with fail
    refine (c1.out _).mono ?_
    rintro e w' ⟨rfl, rfl⟩
    go_wp2_with fail
    refine (haw.out _ htab).mono ?_
    rintro e w' ⟨rfl, hbA⟩
    go_wp2_with fail
    go_ret
    exact ⟨rfl, hbA⟩
  have hbp : 0 < b := by omega
  by_cases e3 : q = 1000000000000
  · subst e3
    go_enter Tryd.func9, Tryd.ntmps9
    go_wp2_with fail
    refine (c1.out _).mono ?_
    rintro e w' ⟨rfl, rfl⟩
    go_wp2_with fail
    refine (c2.out _ hbp).mono ?_
    rintro e w' ⟨rfl, rfl⟩
    go_wp2_with fail
    refine (haw.out _ htab).mono ?_
    rintro e w' ⟨rfl, hbA⟩
    go_wp2_with fail
    go_ret
    exact ⟨rfl, hbA⟩
  by_cases e4 : q = -1000000000000
  · subst e4
    go_enter Tryd.func9, Tryd.ntmps9
    go_wp2_with fail
    refine (c1.out _).mono ?_
    rintro e w' ⟨rfl, rfl⟩
    go_wp2_with fail
    refine (c2.out _ hbp).mono ?_
    rintro e w' ⟨rfl, rfl⟩
    go_wp2_with fail
    refine (haw.out _ htab).mono ?_
    rintro e w' ⟨rfl, hbA⟩
    go_wp2_with fail
    go_ret
    exact ⟨rfl, hbA⟩
  obtain ⟨g3, g4⟩ := hdf.out hbp e3 e4
  have e3b : ((q : Int) == 1000000000000) = false := by rw [beq_eq_false_iff_ne]; exact e3
  have e4b : ((q : Int) == -1000000000000) = false := by rw [beq_eq_false_iff_ne]; exact e4
  clear hdf e3 e4
  obtain ⟨Q, hQ⟩ : ∃ Q, q * b = Q := ⟨_, rfl⟩
  obtain ⟨Q2, hQ2⟩ : ∃ Q2, (q + 1) * b = Q2 := ⟨_, rfl⟩
  have hQQ : Q2 = Q + b := by rw [← hQ, ← hQ2, Int.add_mul, Int.one_mul]
  rw [hQ] at g3
  rw [hQ2] at g4
  have z1 : -9000000000000000000 ≤ Q := by omega
  have z2 : Q ≤ 9000000000000000000 := by omega
  have z3 : -9000000000000000000 ≤ Q2 := by omega
  have z4 : Q2 ≤ 9000000000000000000 := by omega
  clear hQQ
  go_enter Tryd.func9, Tryd.ntmps9
  go_wp2_with fail
  refine (c1.out _).mono ?_
  rintro e w' ⟨rfl, rfl⟩
  go_wp2_with fail
  refine (c2.out _ hbp).mono ?_
  rintro e w' ⟨rfl, rfl⟩
  go_wp2_with fail
  refine (haw.out _ htab).mono ?_
  rintro e w' ⟨rfl, hbA⟩
  go_wp2_with fail
  go_ret
  exact ⟨rfl, hbA⟩

theorem cells_u8 : Tryd.prog.cellsOf 5 = 1 := by kernel_rfl
theorem own : ownKnob Tryd.prog.godebug = none := by kernel_rfl
theorem laidOut : laidOutB Tryd.prog = true := by kernel_rfl
theorem contract (H : Type) (enc : TypeId × Value → H) (W : World) (base : Nat) (args : Array Value) (ds gs : List (DataW H)) (before : List MemPlace)
    (hval : ∀ (j : Nat) t v, Tryd.f9.params[j]? = some t → args[j]? = some v → Value.okWide Tryd.prog W .any base t v)
    (hW : DataW.Whole enc Tryd.prog Tryd.f9.params.toList Rows.microFloorsSpec.vars false W args.toList ds gs before) (htab : M3w.PowTab W) :
    Calls Tryd.prog 9 args W fun e W' => ∃ v, e = .returned v ∧ Rows.microFloorsSpec.post enc Tryd.prog Tryd.f9 false true false false W args v W' := by
  have hW' := hW
  obtain ⟨p, q, hA0, hV, rfl, hfz, hnd⟩ := hW
  have hA : DataW.TrodAll enc Tryd.prog W 0 (fun _ => true) true Tryd.f9.params.toList args.toList ds p := hA0
  rw [Tryd.params9] at hA hval
  obtain ⟨v0, vs0, d0, ds0, p0, q0, hargs, rfl, rfl, h0, r0⟩ := trodAll_cons hA
  obtain ⟨v1, vs1, d1, ds1, p1, q1, rfl, rfl, rfl, h1, r1⟩ := trodAll_cons r0
  obtain ⟨rfl, rfl, rfl⟩ := trodAll_nil r1
  obtain rfl : args = #[v0, v1] := by cases args; simp_all
  obtain ⟨a0, rfl, -, -, w0⟩ := open_int Tryd.underlying21 (hval 0 21 v0 rfl rfl) h0
  obtain ⟨a1, rfl, -, -, w1⟩ := open_int Tryd.underlying21 (hval 1 21 v1 rfl rfl) h1
  clear hA0
  refine (walk a0 (bounds_i32 w0) a1 (bounds_i32 w1) W  htab).mono fun e W' ⟨he, hb⟩ => ?_
  subst he
  exact ⟨_, rfl, law_post laidOut (types_fit (by kernel_rfl)) (by kernel_rfl) Tryd.underlying4 rfl (fun xs hx => by
    match xs, hx with
    | [_, _], _ => rfl) hW' hb⟩

theorem lifted (os : Os) (started : os.Started) (H : Type) (enc : TypeId × Value → H) :
    ReturnsInHanded {} Tryd.checked os 9 .any (fun w args => (Rows.microFloorsSpec.pre enc Tryd.prog Tryd.f9 Rows.microFloorsRow.domain false w args ∧ laidMetH Tryd.prog Laid.laid3 w) ∧ sizedMet enc Tryd.prog Tryd.f9 (OpenSpec.ofChange Rows.microFloorsSpec) false w args) (Rows.microFloorsSpec.post enc Tryd.prog Tryd.f9 false true false false) := by
  refine returnsInHanded_of_change_and (C := Tryd.checked) (X := fun w _ => laidMetH Tryd.prog Laid.laid3 w) (fun _ _ _ hh h => h.of_heap hh) own started (by kernel_rfl) Tryd.func9
    (ChangeSpec.witness_shaped (enc := enc) (C := Tryd.checked) (os := os) (X := fun w _ => laidMetH Tryd.prog Laid.laid3 w) false (World.doorLaid Tryd.prog 400 os) #[.int .i32 0, .int .i32 0] 8 rfl (World.shaped_of_RefB (by kernel_rfl) (by kernel_rfl)) (by kernel_rfl) (by kernel_rfl) (by kernel_rfl) (Laid.door_met os _)) ?_
  intro W base args ds gs before hval hW _ _ hL _
  exact contract H enc W base args ds gs before hval hW (Laid.tab_of hL)

theorem bare : Rows.MicroFloorsSaid :=
  OpenClaim.holds_of_wide 9 Tryd.f9 rfl rfl rfl rfl rfl rfl rfl ⟨rfl, rfl, rfl, rfl, rfl⟩ rfl rfl rfl rfl rfl (by kernel_rfl) Tryd.func9 (by kernel_rfl)
    (of_decide_eq_true (by kernel_rfl)) (by unfold Func.isWrapper; first | (rw [if_pos (by decide +kernel)]; kernel_rfl) | (rw [if_neg (by decide +kernel)]; exact ⟨rfl, rfl⟩))
    (fun os started H enc _ => lifted os started H enc)
theorem proved : Rows.MicroFloorsCardSaid :=
  Claim7.holds_tied_plain_at .later [] [.data, .data, .data] true (true, Rows.microFloorsCard.stood.harness.2) false
    bare (fun _ h => by cases h) (by kernel_rfl) (fun _ h => by cases h) microFloors_row_tie rfl ⟨rfl, rfl⟩ (by kernel_rfl) rfl
    (fun f fn hf hfn => by
      obtain rfl : f = 9 := Option.some.inj ((show Tryd.prog.funcNamed "baseboard/baseboardlaw03.MicroFloors" = some 9 by kernel_rfl).symm.trans hf) |>.symm
      obtain rfl : fn = Tryd.f9 := (Option.some.inj (Tryd.func9.symm.trans hfn)).symm
      exact ⟨by kernel_rfl, fun j t ht => by
        rw [Tryd.params9] at ht
        have hm : t ∈ [21, 21] := by simpa using Array.mem_of_getElem? ht
        have hall : ([21, 21].all fun u => !Tryd.prog.wantsStandIn u) = true := by kernel_rfl
        exact (show Tryd.prog.wantsStandIn t = false by simpa using List.all_eq_true.1 hall t hm)⟩)
    (by kernel_rfl)
end Go.Proofs.YtnkhmhcgcmacgaaDoor.microFloors
