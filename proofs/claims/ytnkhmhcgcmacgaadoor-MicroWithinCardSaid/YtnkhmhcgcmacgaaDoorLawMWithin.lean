/- MicroWithin holds for every input: all results are within the limit, and clamping twice is clamping once. Condition: the tables of the standard library that the row lists hold what the program lays in them, which the card ties to its text. -/
import Derived.Test.YtnkhmhcgcmacgaaDoorLaid
import Derived.Test.YtnkhmhcgcmacgaaDoorAw3
namespace Go.Proofs.YtnkhmhcgcmacgaaDoor.microWithin
open Go.RowKit Go.ChangeShapes Go.WideShapes Go.ChangeAt Go.Proofs.YtnkhmhcgcmacgaaDoor.Mem Go.Proofs.YtnkhmhcgcmacgaaDoor.M3p Go.Proofs.YtnkhmhcgcmacgaaDoor.M3r Go.Proofs.YtnkhmhcgcmacgaaDoor.M3w Go.Proofs.YtnkhmhcgcmacgaaDoor.F2p Go.Proofs.YtnkhmhcgcmacgaaDoor.Law Go.Proofs.YtnkhmhcgcmacgaaDoor.Laid
set_option maxRecDepth 100000
set_option maxHeartbeats 4000000

theorem six (w : World) (xs : List Int) (t : TypeId) (k : Nat) (hk : k < xs.length) : (w.alloc (.cells (xs.map (Value.int .i64)).toArray t)).cell? ⟨w.heap.size, k, none⟩ = some (.int .i64 xs[k]) := by
  have := cell_of_row (w.alloc (.cells (xs.map (Value.int .i64)).toArray t)) w.heap.size k _ t (0, 0) (heap_alloc_new w _)
  rw [this]
  simp [hk]
theorem dout_is (a b : Int) : ∃ q e : Int, dout a b = .returned (.tuple #[.int .i64 q, .int .i64 e]) ∧ -lim ≤ q ∧ q ≤ lim := by
  refine ⟨_, _, rfl, ?_, ?_⟩
  · split
    · decide
    · exact (clp_le _).1
  · split
    · decide
    · exact (clp_le _).2
theorem root_is (a : Int) (w : World) : Calls Tryd.prog 27 #[.int .i64 a] w fun e w' => (∃ r x : Int, e = .returned (.tuple #[.int .i64 r, .int .i64 x]) ∧ -lim ≤ r ∧ r ≤ lim) ∧ w = w' := by
  by_cases h : a < 0
  · refine (rootn_p a w h).mono ?_
    rintro e w' ⟨rfl, rfl⟩
    exact ⟨⟨0, 2, rfl, by decide, by decide⟩, rfl⟩
  · refine (root_p a w (by omega)).mono ?_
    rintro e w' ⟨⟨r, rfl, -, hr⟩, rfl⟩
    exact ⟨⟨r, 0, rfl, by unfold lim; omega, by unfold lim; omega⟩, rfl⟩
theorem walk (a : Int) (_ha : -9223372036854775808 ≤ a ∧ a ≤ 9223372036854775807) (b : Int) (_hb : -9223372036854775808 ≤ b ∧ b ≤ 9223372036854775807) (w : World) (htab : PowTab w) :
    Calls Tryd.prog 11 #[.int .i64 a, .int .i64 b] w fun e w' => e = .returned (.bool true) ∧ Below w.heap.size w w' := by
  obtain ⟨q, qe, hq, hq1, hq2⟩ := dout_is a b
  have c1 := Lib.hid (fun u => by have := div_p a b u; rw [hq] at this; exact this)
  have c2 := Lib.hid (fun u => root_is a u)
  have c3 := Lib.hid (fun u => clamp_p a u)
  have c4 := Lib.hid (fun u => add_p a b u)
  have c5 := Lib.hid (fun u => sub_p a b u)
  have c6 := Lib.hid (fun u => mul_p a b u)
  have haw := Lib.hid (fun u hu => awake_any u hu)
  clear hq
  have g1 := clp_le a
  have g2 : -lim ≤ addS a b ∧ addS a b ≤ lim := clp_le _
  have g3 : -lim ≤ subS a b ∧ subS a b ≤ lim := clp_le _
  have g4 : -lim ≤ mulS a b ∧ mulS a b ≤ lim := clp_le _
  generalize clp a = x at *
  generalize addS a b = s at *
  generalize subS a b = d at *
  generalize mulS a b = m at *
  go_enter Tryd.func11, Tryd.ntmps11
  go_wp2_with fail
  refine (c1.out _).mono ?_
  rintro e w' ⟨rfl, rfl⟩
  go_wp2_with fail
  refine (c2.out _).mono ?_
  rintro e w' ⟨⟨r, re, rfl, hr1, hr2⟩, rfl⟩
  go_wp2_with fail
  refine (c3.out _).mono ?_
  rintro e w' ⟨rfl, rfl⟩
  go_wp2_with fail
  refine (c4.out _).mono ?_
  rintro e w' ⟨rfl, rfl⟩
  go_wp2_with fail
  refine (c5.out _).mono ?_
  rintro e w' ⟨rfl, rfl⟩
  go_wp2_with fail
  refine (c6.out _).mono ?_
  rintro e w' ⟨rfl, rfl⟩
  have hall : ∀ k (hk : k < [x, s, d, m, q, r].length), -lim ≤ [x, s, d, m, q, r][k] ∧ [x, s, d, m, q, r][k] ≤ lim := by
    intro k hk
    match k, hk with
    | 0, _ => exact g1
    | 1, _ => exact g2
    | 2, _ => exact g3
    | 3, _ => exact g4
    | 4, _ => exact ⟨hq1, hq2⟩
    | 5, _ => exact ⟨hr1, hr2⟩
  have hcl : ∀ k (hk : k < 6), (w.alloc (.cells #[.int .i64 x, .int .i64 s, .int .i64 d, .int .i64 m, .int .i64 q, .int .i64 r] 2)).cell? ⟨w.heap.size, k, none⟩ = some (.int .i64 [x, s, d, m, q, r][k]) := fun k hk => six w [x, s, d, m, q, r] 2 k hk
  have hb : Below w.heap.size w (w.alloc (.cells #[.int .i64 x, .int .i64 s, .int .i64 d, .int .i64 m, .int .i64 q, .int .i64 r] 2)) := (Below.refl _ _).alloc (Nat.le_refl _) _
  have HALL := Lib.hid hall
  have HCL := Lib.hid hcl
  have HB := Lib.hid hb
  clear hall hcl hb g1 g2 g3 g4 hq1 hq2 hr1 hr2
  go_wp2_with fail
  go_loop [37] (fun v => ∃ k : Nat, k ≤ 6 ∧ v = .int .i64 k) (fun v => 6 - (intOf v).toNat)
  case atStart => exact ⟨0, Nat.zero_le _, rfl⟩
  case round =>
    obtain ⟨k, hk, rfl⟩ := hrel
    by_cases hlt : k < 6
    · have hcell := HCL.out k hlt
      obtain ⟨z1, z2⟩ := HALL.out k hlt
      generalize [x, s, d, m, q, r][k] = z at *
      have cz := Lib.hid (fun u => by have := clamp_p z u; rw [clp_in z1 z2] at this; exact this)
      unfold lim at z1 z2
      go_wp2_with fail
      refine (cz.out _).mono ?_
      rintro e w' ⟨rfl, rfl⟩
      go_wp2_with fail
      exact ⟨⟨k + 1, by omega, by go_num⟩, by simp [intOf]; omega⟩
    · go_wp2_with fail
      refine (haw.out _ (htab.start.at_ HB.out)).mono ?_
      rintro e w' ⟨rfl, hbA⟩
      go_wp2_with fail
      go_ret
      exact ⟨rfl, HB.out.trans (hbA.mono HB.out.size)⟩

theorem cells_u8 : Tryd.prog.cellsOf 5 = 1 := by kernel_rfl
theorem own : ownKnob Tryd.prog.godebug = none := by kernel_rfl
theorem laidOut : laidOutB Tryd.prog = true := by kernel_rfl
theorem contract (H : Type) (enc : TypeId × Value → H) (W : World) (base : Nat) (args : Array Value) (ds gs : List (DataW H)) (before : List MemPlace)
    (hval : ∀ (j : Nat) t v, Tryd.f11.params[j]? = some t → args[j]? = some v → Value.okWide Tryd.prog W .any base t v)
    (hW : DataW.Whole enc Tryd.prog Tryd.f11.params.toList Rows.microWithinSpec.vars false W args.toList ds gs before) (htab : M3w.PowTab W) :
    Calls Tryd.prog 11 args W fun e W' => ∃ v, e = .returned v ∧ Rows.microWithinSpec.post enc Tryd.prog Tryd.f11 false true false false W args v W' := by
  have hW' := hW
  obtain ⟨p, q, hA0, hV, rfl, hfz, hnd⟩ := hW
  have hA : DataW.TrodAll enc Tryd.prog W 0 (fun _ => true) true Tryd.f11.params.toList args.toList ds p := hA0
  rw [Tryd.params11] at hA hval
  obtain ⟨v0, vs0, d0, ds0, p0, q0, hargs, rfl, rfl, h0, r0⟩ := trodAll_cons hA
  obtain ⟨v1, vs1, d1, ds1, p1, q1, rfl, rfl, rfl, h1, r1⟩ := trodAll_cons r0
  obtain ⟨rfl, rfl, rfl⟩ := trodAll_nil r1
  obtain rfl : args = #[v0, v1] := by cases args; simp_all
  obtain ⟨a0, rfl, -, -, w0⟩ := open_int Tryd.underlying2 (hval 0 2 v0 rfl rfl) h0
  obtain ⟨a1, rfl, -, -, w1⟩ := open_int Tryd.underlying2 (hval 1 2 v1 rfl rfl) h1
  clear hA0
  refine (walk a0 (bounds_i64 w0) a1 (bounds_i64 w1) W  htab).mono fun e W' ⟨he, hb⟩ => ?_
  subst he
  exact ⟨_, rfl, law_post laidOut (types_fit (by kernel_rfl)) (by kernel_rfl) Tryd.underlying4 rfl (fun xs hx => by
    match xs, hx with
    | [_, _], _ => rfl) hW' hb⟩

theorem lifted (os : Os) (started : os.Started) (H : Type) (enc : TypeId × Value → H) :
    ReturnsInHanded {} Tryd.checked os 11 .any (fun w args => (Rows.microWithinSpec.pre enc Tryd.prog Tryd.f11 Rows.microWithinRow.domain false w args ∧ laidMetH Tryd.prog Laid.laid3 w) ∧ sizedMet enc Tryd.prog Tryd.f11 (OpenSpec.ofChange Rows.microWithinSpec) false w args) (Rows.microWithinSpec.post enc Tryd.prog Tryd.f11 false true false false) := by
  refine returnsInHanded_of_change_and (C := Tryd.checked) (X := fun w _ => laidMetH Tryd.prog Laid.laid3 w) (fun _ _ _ hh h => h.of_heap hh) own started (by kernel_rfl) Tryd.func11
    (ChangeSpec.witness_shaped (enc := enc) (C := Tryd.checked) (os := os) (X := fun w _ => laidMetH Tryd.prog Laid.laid3 w) false (World.doorLaid Tryd.prog 400 os) #[.int .i64 0, .int .i64 0] 8 rfl (World.shaped_of_RefB (by kernel_rfl) (by kernel_rfl)) (by kernel_rfl) (by kernel_rfl) (by kernel_rfl) (Laid.door_met os _)) ?_
  intro W base args ds gs before hval hW _ _ hL _
  exact contract H enc W base args ds gs before hval hW (Laid.tab_of hL)

theorem bare : Rows.MicroWithinSaid :=
  OpenClaim.holds_of_wide 11 Tryd.f11 rfl rfl rfl rfl rfl rfl rfl ⟨rfl, rfl, rfl, rfl, rfl⟩ rfl rfl rfl rfl rfl (by kernel_rfl) Tryd.func11 (by kernel_rfl)
    (of_decide_eq_true (by kernel_rfl)) (by unfold Func.isWrapper; first | (rw [if_pos (by decide +kernel)]; kernel_rfl) | (rw [if_neg (by decide +kernel)]; exact ⟨rfl, rfl⟩))
    (fun os started H enc _ => lifted os started H enc)
theorem proved : Rows.MicroWithinCardSaid :=
  Claim7.holds_tied_plain_at .later [] [.data, .data, .data] true (true, Rows.microWithinCard.stood.harness.2) false
    bare (fun _ h => by cases h) (by kernel_rfl) (fun _ h => by cases h) microWithin_row_tie rfl ⟨rfl, rfl⟩ (by kernel_rfl) rfl
    (fun f fn hf hfn => by
      obtain rfl : f = 11 := Option.some.inj ((show Tryd.prog.funcNamed "baseboard/baseboardlaw03.MicroWithin" = some 11 by kernel_rfl).symm.trans hf) |>.symm
      obtain rfl : fn = Tryd.f11 := (Option.some.inj (Tryd.func11.symm.trans hfn)).symm
      exact ⟨by kernel_rfl, fun j t ht => by
        rw [Tryd.params11] at ht
        have hm : t ∈ [2, 2] := by simpa using Array.mem_of_getElem? ht
        have hall : ([2, 2].all fun u => !Tryd.prog.wantsStandIn u) = true := by kernel_rfl
        exact (show Tryd.prog.wantsStandIn t = false by simpa using List.all_eq_true.1 hall t hm)⟩)
    (by kernel_rfl)
end Go.Proofs.YtnkhmhcgcmacgaaDoor.microWithin
