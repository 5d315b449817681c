/- The statement EventRefuses: which indices there are, for thresholds and for states; what is refused answers the error and an empty event. For every sensor's number and every index. The tables that the row lists start as the program's text lays them. -/
import Derived.Test.YtgbnigbjnbcfeaaDoorLaidV
import Derived.Test.YtgbnigbjnbcfeaaDoorV7f
namespace Go.Proofs.YtgbnigbjnbcfeaaDoor.eventRefuses
open Go.RowKit Go.ChangeShapes Go.WideShapes Go.ChangeAt Go.Proofs.YtgbnigbjnbcfeaaDoor.Mem Go.Proofs.YtgbnigbjnbcfeaaDoor.Law Go.Proofs.YtgbnigbjnbcfeaaDoor.F2p Go.Proofs.YtgbnigbjnbcfeaaDoor.V7 Go.Proofs.YtgbnigbjnbcfeaaDoor.Laid
set_option maxRecDepth 100000
set_option maxHeartbeats 4000000

theorem walk (sn : Int) (hsn : 0 ≤ sn ∧ sn ≤ 255) (ix : Int) (hix : -9223372036854775808 ≤ ix ∧ ix ≤ 9223372036854775807) (W : World) (htab : Tabs W) :
    Calls Tryd.prog 8 #[.int .u8 sn, .int .i64 ix] W fun e W' => e = .returned (.bool true) ∧ Below W.heap.size W W' := by
  obtain ⟨n, rfl⟩ := nat_of hsn.1
  have haw := Lib.hid (fun u hu => awake_any u hu)
  rcases Int.lt_or_le ix 0 with hn | hn
  · have ht := Lib.hid (fun u => threshold_no 1 n ix true 0 0 u (.inl hn))
    have hs := Lib.hid (fun u => state_no 1 n ix true u (.inl hn))
    go_enter Tryd.func8, Tryd.ntmps8
    go_wp2_with fail
    refine (ht.out _).mono ?_
    rintro e w1 ⟨rfl, hb1⟩
    go_wp2_with (refine wpList_store_box rfl (.tmp 5) (.tmp 14) rfl w1.heap.size Ev.none Ev.none rfl rfl (Box.new w1 Ev.none) ?_; intro w2 hB2 hg2)
    have hb2 := (hb1.alloc hb1.size (.cells Ev.none.cells 26)).grown hg2 (by have := hb1.size; simp; omega) (fun k hk => by injection hk; have := hb1.size; omega)
    refine (hs.out _).mono ?_
    rintro e w3 ⟨rfl, hb3⟩
    have hB3 := hB2.below hb3 hB2.lt
    have hb3' := hb2.trans (hb3.mono hb2.size)
    go_wp2_with (refine wpList_store_box rfl (.tmp 7) (.tmp 20) rfl w3.heap.size Ev.none Ev.none rfl rfl (Box.new w3 Ev.none) ?_; intro w4 hB4 hg4; refine Hid.out ?_)
    refine Lib.hid ?_
    have hlt1 := hB2.lt
    have hB5 := (hB3.alloc (.cells Ev.none.cells 26)).grown hg4 (fun e => by injection e; have := hB3.lt; omega)
    have hb4 := (hb3'.alloc hb3'.size (.cells Ev.none.cells 26)).grown hg4 (by have := hb3'.size; simp; omega) (fun k hk => by injection hk; have := hb3'.size; omega)
    have B1 := hB5.alloc (.cells Ev.none.cells 26)
    have B3 := hB4.alloc (.cells Ev.none.cells 26)
    have B5 := Box.new w4 Ev.none
    have hb5 := hb4.alloc hb4.size (.cells Ev.none.cells 26)
    clear hB2 hg2 hB3 hB4 hg4 hB5 hb1 hb2 hb3 hb3'
    replace B1 := Lib.hid B1
    replace B3 := Lib.hid B3
    replace B5 := Lib.hid B5
    replace hb5 := Lib.hid hb5
    go_wp2_with (first
          | (refine wpList_load_box_w (by go_simp) (.tmp 5) rfl w1.heap.size Ev.none rfl B1.out ?_)
          | (refine wpList_eql_w (by go_simp) (.tmp 50) (.tmp 51) rfl Ev.none Ev.none none_fit none_fit rfl rfl ?_)
          | (refine wpList_load_box_w (by go_simp) (.tmp 7) rfl w3.heap.size Ev.none rfl B3.out ?_)
          | (refine wpList_eql_w (by go_simp) (.tmp 63) (.tmp 64) rfl Ev.none Ev.none none_fit none_fit rfl rfl ?_)
          | (refine wpList_load_box_w (by go_simp) (.tmp 9) rfl w4.heap.size Ev.none rfl B5.out ?_))
    refine (haw.out _ (htab.below hb5.out)).mono ?_
    rintro e w6 ⟨rfl, hb6⟩
    go_wp2_with fail
    go_ret
    exact ⟨by first | rfl | exact ret_bool (by simp; omega), hb5.out.trans (hb6.mono hb5.out.size)⟩
  · obtain ⟨i, rfl⟩ := nat_of hn
    by_cases h6 : i < 6
    · have ht := Lib.hid (fun u hu => threshold_p 1 n i true 0 0 u h6 hu)
      have hs := Lib.hid (fun u => state_p 1 n i true u (by omega))
      have g1 : (i : Int) ≤ 5 := by omega
      have g2 : (i : Int) ≤ 14 := by omega
      go_enter Tryd.func8, Tryd.ntmps8
      go_wp2_with fail
      refine (ht.out _ htab.off).mono ?_
      rintro e w1 ⟨rfl, hb1⟩
      go_wp2_with (refine wpList_store_box rfl (.tmp 5) (.tmp 14) rfl w1.heap.size ⟨0, 0, 32, 1, n, 1, !true, 80 + off i, 0, 0⟩ Ev.none rfl rfl (Box.new w1 Ev.none) ?_; intro w2 hB2 hg2)
      have hb2 := (hb1.alloc hb1.size (.cells Ev.none.cells 26)).grown hg2 (by have := hb1.size; simp; omega) (fun k hk => by injection hk; have := hb1.size; omega)
      refine (hs.out _).mono ?_
      rintro e w3 ⟨rfl, hb3⟩
      have hB3 := hB2.below hb3 hB2.lt
      have hb3' := hb2.trans (hb3.mono hb2.size)
      go_wp2_with (refine wpList_store_box rfl (.tmp 7) (.tmp 20) rfl w3.heap.size ⟨0, 0, 32, 1, n, 111, !true, i, 255, 255⟩ Ev.none rfl rfl (Box.new w3 Ev.none) ?_; intro w4 hB4 hg4; refine Hid.out ?_)
      refine Lib.hid ?_
      have hlt1 := hB2.lt
      have hB5 := (hB3.alloc (.cells Ev.none.cells 26)).grown hg4 (fun e => by injection e; have := hB3.lt; omega)
      have hb4 := (hb3'.alloc hb3'.size (.cells Ev.none.cells 26)).grown hg4 (by have := hb3'.size; simp; omega) (fun k hk => by injection hk; have := hb3'.size; omega)
      have B1 := hB5.alloc (.cells Ev.none.cells 26)
      have B3 := hB4.alloc (.cells Ev.none.cells 26)
      have B5 := Box.new w4 Ev.none
      have hb5 := hb4.alloc hb4.size (.cells Ev.none.cells 26)
      clear hB2 hg2 hB3 hB4 hg4 hB5 hb1 hb2 hb3 hb3'
      replace B1 := Lib.hid B1
      replace B3 := Lib.hid B3
      replace B5 := Lib.hid B5
      replace hb5 := Lib.hid hb5
      go_wp2_with fail
      refine (haw.out _ (htab.below hb5.out)).mono ?_
      rintro e w6 ⟨rfl, hb6⟩
      go_wp2_with fail
      go_ret
      exact ⟨by first | rfl | exact ret_bool (by simp; omega), hb5.out.trans (hb6.mono hb5.out.size)⟩
    · by_cases h15 : i ≤ 14
      · have ht := Lib.hid (fun u => threshold_no 1 n (i : Int) true 0 0 u (.inr (by omega)))
        have hs := Lib.hid (fun u => state_p 1 n i true u h15)
        have g1 : 5 < (i : Int) := by omega
        have g2 : (i : Int) ≤ 14 := by omega
        go_enter Tryd.func8, Tryd.ntmps8
        go_wp2_with fail
        refine (ht.out _).mono ?_
        rintro e w1 ⟨rfl, hb1⟩
        go_wp2_with (refine wpList_store_box rfl (.tmp 5) (.tmp 14) rfl w1.heap.size Ev.none Ev.none rfl rfl (Box.new w1 Ev.none) ?_; intro w2 hB2 hg2)
        have hb2 := (hb1.alloc hb1.size (.cells Ev.none.cells 26)).grown hg2 (by have := hb1.size; simp; omega) (fun k hk => by injection hk; have := hb1.size; omega)
        refine (hs.out _).mono ?_
        rintro e w3 ⟨rfl, hb3⟩
        have hB3 := hB2.below hb3 hB2.lt
        have hb3' := hb2.trans (hb3.mono hb2.size)
        go_wp2_with (refine wpList_store_box rfl (.tmp 7) (.tmp 20) rfl w3.heap.size ⟨0, 0, 32, 1, n, 111, !true, i, 255, 255⟩ Ev.none rfl rfl (Box.new w3 Ev.none) ?_; intro w4 hB4 hg4; refine Hid.out ?_)
        refine Lib.hid ?_
        have hlt1 := hB2.lt
        have hB5 := (hB3.alloc (.cells Ev.none.cells 26)).grown hg4 (fun e => by injection e; have := hB3.lt; omega)
        have hb4 := (hb3'.alloc hb3'.size (.cells Ev.none.cells 26)).grown hg4 (by have := hb3'.size; simp; omega) (fun k hk => by injection hk; have := hb3'.size; omega)
        have B1 := hB5.alloc (.cells Ev.none.cells 26)
        have B3 := hB4.alloc (.cells Ev.none.cells 26)
        have B5 := Box.new w4 Ev.none
        have hb5 := hb4.alloc hb4.size (.cells Ev.none.cells 26)
        clear hB2 hg2 hB3 hB4 hg4 hB5 hb1 hb2 hb3 hb3'
        replace B1 := Lib.hid B1
        replace B3 := Lib.hid B3
        replace B5 := Lib.hid B5
        replace hb5 := Lib.hid hb5
        go_wp2_with (first
              | (refine wpList_load_box_w (by go_simp) (.tmp 5) rfl w1.heap.size Ev.none rfl B1.out ?_)
              | (refine wpList_eql_w (by go_simp) (.tmp 50) (.tmp 51) rfl Ev.none Ev.none none_fit none_fit rfl rfl ?_)
              | (refine wpList_load_box_w (by go_simp) (.tmp 9) rfl w4.heap.size Ev.none rfl B5.out ?_))
        refine (haw.out _ (htab.below hb5.out)).mono ?_
        rintro e w6 ⟨rfl, hb6⟩
        go_wp2_with fail
        go_ret
        exact ⟨by first | rfl | exact ret_bool (by simp; omega), hb5.out.trans (hb6.mono hb5.out.size)⟩
      · have ht := Lib.hid (fun u => threshold_no 1 n (i : Int) true 0 0 u (.inr (by omega)))
        have hs := Lib.hid (fun u => state_no 1 n (i : Int) true u (.inr (by omega)))
        have g1 : 5 < (i : Int) := by omega
        have g2 : 14 < (i : Int) := by omega
        go_enter Tryd.func8, Tryd.ntmps8
        go_wp2_with fail
        refine (ht.out _).mono ?_
        rintro e w1 ⟨rfl, hb1⟩
        go_wp2_with (refine wpList_store_box rfl (.tmp 5) (.tmp 14) rfl w1.heap.size Ev.none Ev.none rfl rfl (Box.new w1 Ev.none) ?_; intro w2 hB2 hg2)
        have hb2 := (hb1.alloc hb1.size (.cells Ev.none.cells 26)).grown hg2 (by have := hb1.size; simp; omega) (fun k hk => by injection hk; have := hb1.size; omega)
        refine (hs.out _).mono ?_
        rintro e w3 ⟨rfl, hb3⟩
        have hB3 := hB2.below hb3 hB2.lt
        have hb3' := hb2.trans (hb3.mono hb2.size)
        go_wp2_with (refine wpList_store_box rfl (.tmp 7) (.tmp 20) rfl w3.heap.size Ev.none Ev.none rfl rfl (Box.new w3 Ev.none) ?_; intro w4 hB4 hg4; refine Hid.out ?_)
        refine Lib.hid ?_
        have hlt1 := hB2.lt
        have hB5 := (hB3.alloc (.cells Ev.none.cells 26)).grown hg4 (fun e => by injection e; have := hB3.lt; omega)
        have hb4 := (hb3'.alloc hb3'.size (.cells Ev.none.cells 26)).grown hg4 (by have := hb3'.size; simp; omega) (fun k hk => by injection hk; have := hb3'.size; omega)
        have B1 := hB5.alloc (.cells Ev.none.cells 26)
        have B3 := hB4.alloc (.cells Ev.none.cells 26)
        have B5 := Box.new w4 Ev.none
        have hb5 := hb4.alloc hb4.size (.cells Ev.none.cells 26)
        clear hB2 hg2 hB3 hB4 hg4 hB5 hb1 hb2 hb3 hb3'
        replace B1 := Lib.hid B1
        replace B3 := Lib.hid B3
        replace B5 := Lib.hid B5
        replace hb5 := Lib.hid hb5
        go_wp2_with (first
              | (refine wpList_load_box_w (by go_simp) (.tmp 5) rfl w1.heap.size Ev.none rfl B1.out ?_)
              | (refine wpList_eql_w (by go_simp) (.tmp 50) (.tmp 51) rfl Ev.none Ev.none none_fit none_fit rfl rfl ?_)
              | (refine wpList_load_box_w (by go_simp) (.tmp 7) rfl w3.heap.size Ev.none rfl B3.out ?_)
              | (refine wpList_eql_w (by go_simp) (.tmp 63) (.tmp 64) rfl Ev.none Ev.none none_fit none_fit rfl rfl ?_)
              | (refine wpList_load_box_w (by go_simp) (.tmp 9) rfl w4.heap.size Ev.none rfl B5.out ?_))
        refine (haw.out _ (htab.below hb5.out)).mono ?_
        rintro e w6 ⟨rfl, hb6⟩
        go_wp2_with fail
        go_ret
        exact ⟨by first | rfl | exact ret_bool (by simp; omega), hb5.out.trans (hb6.mono hb5.out.size)⟩

theorem cells_u8 : Tryd.prog.cellsOf 5 = 1 := by kernel_rfl
theorem own : ownKnob Tryd.prog.godebug = none := by kernel_rfl
theorem laidOut : laidOutB Tryd.prog = true := by kernel_rfl
theorem contract (H : Type) (enc : TypeId × Value → H) (W : World) (base : Nat) (args : Array Value) (ds gs : List (DataW H)) (before : List MemPlace)
    (hval : ∀ (j : Nat) t v, Tryd.f8.params[j]? = some t → args[j]? = some v → Value.okWide Tryd.prog W .any base t v)
    (hW : DataW.Whole enc Tryd.prog Tryd.f8.params.toList Rows.eventRefusesSpec.vars false W args.toList ds gs before) (htab : V7.Tabs W) :
    Calls Tryd.prog 8 args W fun e W' => ∃ v, e = .returned v ∧ Rows.eventRefusesSpec.post enc Tryd.prog Tryd.f8 false true false false W args v W' := by
  have hW' := hW
  obtain ⟨p, q, hA0, hV, rfl, hfz, hnd⟩ := hW
  have hA : DataW.TrodAll enc Tryd.prog W 0 (fun _ => true) true Tryd.f8.params.toList args.toList ds p := hA0
  rw [Tryd.params8] at hA hval
  obtain ⟨v0, vs0, d0, ds0, p0, q0, hargs, rfl, rfl, h0, r0⟩ := trodAll_cons hA
  obtain ⟨v1, vs1, d1, ds1, p1, q1, rfl, rfl, rfl, h1, r1⟩ := trodAll_cons r0
  obtain ⟨rfl, rfl, rfl⟩ := trodAll_nil r1
  obtain rfl : args = #[v0, v1] := by cases args; simp_all
  obtain ⟨a0, rfl, -, -, w0⟩ := open_int Tryd.underlying5 (hval 0 5 v0 rfl rfl) h0
  obtain ⟨a1, rfl, -, -, w1⟩ := open_int Tryd.underlying3 (hval 1 3 v1 rfl rfl) h1
  clear hA0
  refine (walk a0 (bounds_u8 w0) a1 (bounds_i64 w1) W  htab).mono fun e W' ⟨he, hb⟩ => ?_
  subst he
  exact ⟨_, rfl, law_post laidOut (types_fit (by kernel_rfl)) (by kernel_rfl) Tryd.underlying4 rfl (fun xs hx => by
    match xs, hx with
    | [_, _], _ => rfl) hW' hb⟩

theorem lifted (os : Os) (started : os.Started) (H : Type) (enc : TypeId × Value → H) :
    ReturnsInHanded {} Tryd.checked os 8 .any (fun w args => (Rows.eventRefusesSpec.pre enc Tryd.prog Tryd.f8 Rows.eventRefusesRow.domain false w args ∧ laidMetH Tryd.prog Laid.laid4 w) ∧ sizedMet enc Tryd.prog Tryd.f8 (OpenSpec.ofChange Rows.eventRefusesSpec) false w args) (Rows.eventRefusesSpec.post enc Tryd.prog Tryd.f8 false true false false) := by
  refine returnsInHanded_of_change_and (C := Tryd.checked) (X := fun w _ => laidMetH Tryd.prog Laid.laid4 w) (fun _ _ _ hh h => h.of_heap hh) own started (by kernel_rfl) Tryd.func8
    (ChangeSpec.witness_shaped (enc := enc) (C := Tryd.checked) (os := os) (X := fun w _ => laidMetH Tryd.prog Laid.laid4 w) false (World.doorLaid Tryd.prog 400 os) #[.int .u8 0, .int .i64 0] 8 rfl (World.shaped_of_RefB (by kernel_rfl) (by kernel_rfl)) (by kernel_rfl) (by kernel_rfl) (by kernel_rfl) (Laid.door_met os _)) ?_
  intro W base args ds gs before hval hW _ _ hL _
  exact contract H enc W base args ds gs before hval hW (Laid.tab_of hL)

theorem bare : Rows.EventRefusesSaid :=
  OpenClaim.holds_of_wide 8 Tryd.f8 rfl rfl rfl rfl rfl rfl rfl ⟨rfl, rfl, rfl, rfl, rfl⟩ rfl rfl rfl rfl rfl (by kernel_rfl) Tryd.func8 (by kernel_rfl)
    (of_decide_eq_true (by kernel_rfl)) (by unfold Func.isWrapper; first | (rw [if_pos (by decide +kernel)]; kernel_rfl) | (rw [if_neg (by decide +kernel)]; exact ⟨rfl, rfl⟩))
    (fun os started H enc _ => lifted os started H enc)
theorem proved : Rows.EventRefusesCardSaid :=
  Claim7.holds_tied_plain_at .later [] [.data, .data, .data, .data] true (true, Rows.eventRefusesCard.stood.harness.2) false
    bare (fun _ h => by cases h) (by kernel_rfl) (fun _ h => by cases h) eventRefuses_row_tie rfl ⟨rfl, rfl⟩ (by kernel_rfl) rfl
    (fun f fn hf hfn => by
      obtain rfl : f = 8 := Option.some.inj ((show Tryd.prog.funcNamed "baseboard/baseboardlaw07.EventRefuses" = some 8 by kernel_rfl).symm.trans hf) |>.symm
      obtain rfl : fn = Tryd.f8 := (Option.some.inj (Tryd.func8.symm.trans hfn)).symm
      exact ⟨by kernel_rfl, fun j t ht => by
        rw [Tryd.params8] at ht
        have hm : t ∈ [5, 3] := by simpa using Array.mem_of_getElem? ht
        have hall : ([5, 3].all fun u => !Tryd.prog.wantsStandIn u) = true := by kernel_rfl
        exact (show Tryd.prog.wantsStandIn t = false by simpa using List.all_eq_true.1 hall t hm)⟩)
    (by kernel_rfl)
end Go.Proofs.YtgbnigbjnbcfeaaDoor.eventRefuses
