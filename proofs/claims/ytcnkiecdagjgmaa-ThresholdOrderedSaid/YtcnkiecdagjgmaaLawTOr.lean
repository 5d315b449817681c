/- ThresholdOrdered holds for every input: more extreme readings reach no fewer thresholds on their side, and no more on the other one. No condition. -/
import Derived.Test.YtcnkiecdagjgmaaYh
import Derived.Test.YtcnkiecdagjgmaaYi
import Derived.Test.YtcnkiecdagjgmaaLaw2
namespace Go.Proofs.Ytcnkiecdagjgmaa.thresholdOrdered
open Go.RowKit Go.ChangeShapes Go.WideShapes Go.ChangeAt Go.Proofs.Ytcnkiecdagjgmaa.Mem Go.Proofs.Ytcnkiecdagjgmaa.F2p Go.Proofs.Ytcnkiecdagjgmaa.C4l Go.Proofs.Ytcnkiecdagjgmaa.Ta Go.Proofs.Ytcnkiecdagjgmaa.Tb Go.Proofs.Ytcnkiecdagjgmaa.Law Go.Proofs.Ytcnkiecdagjgmaa.Made Go.Proofs.Ytcnkiecdagjgmaa.D5 Go.Proofs.Ytcnkiecdagjgmaa.Tl Go.Proofs.Ytcnkiecdagjgmaa.Ya
set_option maxRecDepth 100000
set_option maxHeartbeats 1000000

theorem walk (A : Option Addr) (n c : Nat) (l : List Int) (hn : n = l.length) (hw : ∀ x ∈ l, -9223372036854775808 ≤ x ∧ x ≤ 9223372036854775807) (hc : n ≤ c) (hm : c ≤ maxLen) (_hA : A = none → c = 0)
    (a : Int) (ha : 0 ≤ a ∧ a ≤ 255) (b : Int) (hb : 0 ≤ b ∧ b ≤ 255) (w : World) (hr : IRow w.heap.size w A l) :
    Calls Try.prog 9 #[.slice A n c, .int .u8 a, .int .u8 b] w fun e w' => e = .returned (.bool true) ∧ Below w.heap.size w w' := by
  have hnm : n ≤ maxLen := by omega
  obtain ⟨ra, rfl⟩ : ∃ x : UInt8, a = (x.toNat : Int) := by
    obtain ⟨k, rfl⟩ := Int.eq_ofNat_of_zero_le ha.1
    exact Tl.u8_int k (by omega)
  obtain ⟨rb, rfl⟩ : ∃ x : UInt8, b = (x.toNat : Int) := by
    obtain ⟨k, rfl⟩ := Int.eq_ofNat_of_zero_le hb.1
    exact Tl.u8_int k (by omega)
  clear ha hb
  have HN := Lib.hid hn
  have HW := Lib.hid hw
  clear hn hw hc hm _hA
  have haw := Lib.hid (fun u => awake_q u)
  by_cases h6 : n ≤ 600
  case neg =>
    have d6 : decide (n ≤ 600) = false := decide_eq_false h6
    go_enter Try.func9, Try.ntmps9
    go_wp2_with fail
    refine (Made.lightmade_any A n c _ hnm).mono ?_
    rintro e w' ⟨rfl, rfl⟩
    rw [d6]
    go_wp2_with fail
    refine (haw.out _).mono ?_
    rintro e w3 ⟨rfl, hb3⟩
    go_wp2_with fail
    go_ret
    exact ⟨rfl, hb3⟩
  have d6 : decide (n ≤ 600) = true := decide_eq_true h6
  go_enter Try.func9, Try.ntmps9
  go_wp2_with fail
  refine (Made.lightmade_any A n c _ hnm).mono ?_
  rintro e w' ⟨rfl, rfl⟩
  rw [d6]
  go_wp2_with fail
  refine (Made.roll_any A n c w).mono ?_
  rintro e w1 ⟨rfl, rfl⟩
  have hdz := Dz.start A n c l w hr HN.out HW.out (by omega)
  have hb1 : Below w.heap.size w (w.alloc (.cells #[.slice A n c, .int .i64 0] 104)) := (Below.refl _ _).alloc (Nat.le_refl _) _
  generalize w.alloc (.cells #[.slice A n c, .int .i64 0] 104) = w1 at *
  go_wp2_with fail
  refine (analog_any 1 hdz).mono ?_
  rintro e w2 ⟨s, V, rfl, hv, hfit, hnu, hd, hown, hdz2, hg2⟩
  obtain ⟨PA, pn, pc, rfl, hps⟩ := hown.sl
  have hb2 : Below w.heap.size w w2 := hb1.grown hg2 hb1.size (fun k hk => by injection hk; omega)
  have hz := Bx.zero w2
  have hba := (Below.refl w2.heap.size w2).alloc (Nat.le_refl _) (.cells #[.int .u8 0, .int .u8 0, .int .u8 0, .string ⟨#[]⟩, .int .u8 0, .int .u8 0, .bool false, .int .i64 0, .bool false, .int .i64 0, .int .i64 0, .int .i64 0, .int .i64 0, .slice none 0 0, .int .u8 0, .int .u8 0, .int .u8 0, .int .u8 0, .int .u8 0, .int .u8 0, .int .u8 0, .int .u8 0, .int .u8 0, .int .u16 0, .int .u16 0, .int .u16 0, .bool false, .int .i64 0] 32)
  clear hfit hnu hown hg2 hb1 hdz
  go_wp2_with (refine wpList_store_bx rfl (.tmp 7) (.tmp 18) rfl w2.heap.size s noSn (.slice PA pn pc) (.slice none 0 0) rfl rfl rfl hz ?_; intro w3 hx3 hg3; refine Hid.out ?_)
  refine Lib.hid ?_
  have hba := hba.grown hg3 hba.size (fun k hk => by injection hk; omega)
  have hps := hps.step hba
  have hlt2 := hdz2.lt
  have hdz := hdz2.below hba hlt2
  have hgw : w.heap.size ≤ w2.heap.size := hb2.size
  have hbb := hb2.trans (hba.mono hb2.size)
  clear hba hg3 hz hdz2 hb2
  have c8 : w3.cell? ⟨w2.heap.size, 8, none⟩ = some (.bool s.c.s) := hx3.c 8
  obtain ⟨NA, hNA⟩ : ∃ x, x = C4p.num s.c.s ra := ⟨_, rfl⟩
  obtain ⟨NB, hNB⟩ : ∃ x, x = C4p.num s.c.s rb := ⟨_, rfl⟩
  have HNA := Lib.hid fun (u : World) => by have := C4v.number_r s.c.s ra u; rw [← hNA] at this; exact this
  have HNB := Lib.hid fun (u : World) => by have := C4v.number_r s.c.s rb u; rw [← hNB] at this; exact this
  have HQA := Lib.hid hNA
  have HQB := Lib.hid hNB
  clear hNA hNB
  have HX := Lib.hid hx3
  have HP := Lib.hid hps
  clear hx3 hps
  go_wp2_with fail
  go_quiet (first | (go_at_call 28; with_reducible exact quiet_same (HNA.out _)) | (go_at_call 28; with_reducible exact quiet_same (HNB.out _)))
  have hb4 : Below w3.heap.size w3 (w3.drewN nq) := by
    have h := Below.refl w3.heap.size w3
    exact ⟨h.os, h.tape, h.output, h.size, h.block⟩
  have hx4 := HX.out.below hb4
  have hp4 := HP.out.step hb4
  have hbb4 := hbb.trans (hb4.mono hbb.size)
  clear hb4 c8 hbb HX HP hdz
  generalize w3.drewN nq = w4 at *
  by_cases hlt : NB < NA
  · have hle : C4p.num s.c.s rb ≤ C4p.num s.c.s ra := by rw [← HQB.out, ← HQA.out]; omega
    obtain ⟨f1, f2, f3⟩ := ord_facts hv hd hle
    have HRY := Lib.hid fun (u : World) (hu : PSl u PA pn pc s.c.p) => reached_v s hv hd PA pn pc rb u hu
    have HRX := Lib.hid fun (u : World) (hu : PSl u PA pn pc s.c.p) => reached_v s hv hd PA pn pc ra u hu
    have hlx := wth_lt s (C4p.num s.c.s rb) 0 0
    have hly := wth_lt s (C4p.num s.c.s ra) 0 0
    generalize wth s (C4p.num s.c.s rb) 0 0 = x at *
    generalize wth s (C4p.num s.c.s ra) 0 0 = y at *
    clear hle
    have e1 : bits .and .u8 (y : Int) 7 = ((y &&& 7 : Nat) : Int) := and_u8 y 7 (by omega) (by omega)
    have e2 : bits .and .u8 (x : Int) 56 = ((x &&& 56 : Nat) : Int) := and_u8 x 56 (by omega) (by omega)
    have e3 : bits .and .u8 (x : Int) 7 = ((x &&& 7 : Nat) : Int) := and_u8 x 7 (by omega) (by omega)
    have e4 := andn_u8 (y &&& 7) x
    have e5 := andn_u8 (x &&& 56) y
    rw [f1] at e4
    rw [f2] at e5
    clear f1 f2
    generalize y &&& 7 = y7 at *
    generalize x &&& 56 = x56 at *
    generalize x &&& 7 = x7 at *
    have hq : x7 = 0 ∨ ((x7 : Int) == 0) = false ∧ x56 = 0 := by
      rcases Nat.eq_zero_or_pos x7 with h | h
      · exact .inl h
      · exact .inr ⟨by rw [beq_eq_false_iff_ne]; omega, by omega⟩
    clear f3
    go_wp2_with (refine wpList_load_bx rfl (.tmp 7) rfl _ _ _ rfl hx4 ?_)
    refine (HRY.out _ hp4).mono ?_
    rintro e w5 ⟨rfl, hb5⟩
    have hx5 := hx4.below hb5
    have hp5 := hp4.step hb5
    have hbb5 := hbb4.trans (hb5.mono hbb4.size)
    clear hb5 hx4 hp4 hbb4
    go_wp2_with (refine wpList_load_bx rfl (.tmp 7) rfl _ _ _ rfl hx5 ?_)
    refine (HRX.out _ hp5).mono ?_
    rintro e w6 ⟨rfl, hb6⟩
    have hbb6 := hbb5.trans (hb6.mono hbb5.size)
    clear hb6 hx5 hp5 hbb5
    rcases hq with rfl | ⟨hq1, rfl⟩
    all_goals
      go_wp2_with fail
      refine (haw.out _).mono ?_
      rintro e w7 ⟨rfl, hb7⟩
      go_wp2_with fail
      go_ret
      exact ⟨rfl, hbb6.trans (hb7.mono hbb6.size)⟩
  · have hle : C4p.num s.c.s ra ≤ C4p.num s.c.s rb := by rw [← HQA.out, ← HQB.out]; omega
    obtain ⟨f1, f2, f3⟩ := ord_facts hv hd hle
    have HRY := Lib.hid fun (u : World) (hu : PSl u PA pn pc s.c.p) => reached_v s hv hd PA pn pc ra u hu
    have HRX := Lib.hid fun (u : World) (hu : PSl u PA pn pc s.c.p) => reached_v s hv hd PA pn pc rb u hu
    have hlx := wth_lt s (C4p.num s.c.s ra) 0 0
    have hly := wth_lt s (C4p.num s.c.s rb) 0 0
    generalize wth s (C4p.num s.c.s ra) 0 0 = x at *
    generalize wth s (C4p.num s.c.s rb) 0 0 = y at *
    clear hle
    have e1 : bits .and .u8 (y : Int) 7 = ((y &&& 7 : Nat) : Int) := and_u8 y 7 (by omega) (by omega)
    have e2 : bits .and .u8 (x : Int) 56 = ((x &&& 56 : Nat) : Int) := and_u8 x 56 (by omega) (by omega)
    have e3 : bits .and .u8 (x : Int) 7 = ((x &&& 7 : Nat) : Int) := and_u8 x 7 (by omega) (by omega)
    have e4 := andn_u8 (y &&& 7) x
    have e5 := andn_u8 (x &&& 56) y
    rw [f1] at e4
    rw [f2] at e5
    clear f1 f2
    generalize y &&& 7 = y7 at *
    generalize x &&& 56 = x56 at *
    generalize x &&& 7 = x7 at *
    have hq : x7 = 0 ∨ ((x7 : Int) == 0) = false ∧ x56 = 0 := by
      rcases Nat.eq_zero_or_pos x7 with h | h
      · exact .inl h
      · exact .inr ⟨by rw [beq_eq_false_iff_ne]; omega, by omega⟩
    clear f3
    go_wp2_with (refine wpList_load_bx rfl (.tmp 7) rfl _ _ _ rfl hx4 ?_)
    refine (HRY.out _ hp4).mono ?_
    rintro e w5 ⟨rfl, hb5⟩
    have hx5 := hx4.below hb5
    have hp5 := hp4.step hb5
    have hbb5 := hbb4.trans (hb5.mono hbb4.size)
    clear hb5 hx4 hp4 hbb4
    go_wp2_with (refine wpList_load_bx rfl (.tmp 7) rfl _ _ _ rfl hx5 ?_)
    refine (HRX.out _ hp5).mono ?_
    rintro e w6 ⟨rfl, hb6⟩
    have hbb6 := hbb5.trans (hb6.mono hbb5.size)
    clear hb6 hx5 hp5 hbb5
    rcases hq with rfl | ⟨hq1, rfl⟩
    all_goals
      go_wp2_with fail
      refine (haw.out _).mono ?_
      rintro e w7 ⟨rfl, hb7⟩
      go_wp2_with fail
      go_ret
      exact ⟨rfl, hbb6.trans (hb7.mono hbb6.size)⟩

theorem cells_u8 : Try.prog.cellsOf 5 = 1 := by kernel_rfl
theorem cells_int : Try.prog.cellsOf 3 = 1 := by kernel_rfl
theorem own : ownKnob Try.prog.godebug = none := by kernel_rfl
theorem laidOut : laidOutB Try.prog = true := by kernel_rfl
theorem contract (H : Type) (enc : TypeId × Value → H) (W : World) (base : Nat) (args : Array Value) (ds gs : List (DataW H)) (before : List MemPlace)
    (hval : ∀ (j : Nat) t v, Try.f9.params[j]? = some t → args[j]? = some v → Value.okWide Try.prog W .any base t v)
    (hW : DataW.Whole enc Try.prog Try.f9.params.toList Rows.thresholdOrderedSpec.vars false W args.toList ds gs before) :
    Calls Try.prog 9 args W fun e W' => ∃ v, e = .returned v ∧ Rows.thresholdOrderedSpec.post enc Try.prog Try.f9 false true false false W args v W' := by
  have hW' := hW
  obtain ⟨p, q, hA0, hV, rfl, hfz, hnd⟩ := hW
  have hA : DataW.TrodAll enc Try.prog W 0 (fun _ => true) true Try.f9.params.toList args.toList ds p := hA0
  rw [Try.params9] at hA hval
  obtain ⟨v0, vs0, d0, ds0, p0, q0, hargs, rfl, rfl, h0, r0⟩ := trodAll_cons hA
  obtain ⟨v1, vs1, d1, ds1, p1, q1, rfl, rfl, rfl, h1, r1⟩ := trodAll_cons r0
  obtain ⟨v2, vs2, d2, ds2, p2, q2, rfl, rfl, rfl, h2, r2⟩ := trodAll_cons r1
  obtain ⟨rfl, rfl, rfl⟩ := trodAll_nil r2
  obtain rfl : args = #[v0, v1, v2] := by cases args; simp_all
  obtain ⟨A0, n0, c0, l0, rfl, hn0, hr0, hw0, hc0, hm0, hk0⟩ := open_int_list Try.underlying33 Try.underlying3 cells_int (hval 0 33 v0 rfl rfl) h0
  obtain ⟨a1, rfl, -, -, w1⟩ := open_int Try.underlying5 (hval 1 5 v1 rfl rfl) h1
  obtain ⟨a2, rfl, -, -, w2⟩ := open_int Try.underlying5 (hval 2 5 v2 rfl rfl) h2
  clear hA0
  refine (walk A0 n0 c0 l0 hn0 hw0 hc0 hm0 hk0 a1 (bounds_u8 w1) a2 (bounds_u8 w2) W hr0).mono fun e W' ⟨he, hb⟩ => ?_
  subst he
  exact ⟨_, rfl, law_post laidOut (types_fit (by kernel_rfl)) (by kernel_rfl) Try.underlying4 rfl (fun xs hx => by
    match xs, hx with
    | [_, _, _], _ => rfl) hW' hb⟩

theorem lifted (os : Os) (started : os.Started) (H : Type) (enc : TypeId × Value → H) :
    ReturnsInHanded {} Try.checked os 9 .any (Rows.thresholdOrderedSpec.pre6 enc Try.prog Try.f9 Rows.thresholdOrderedRow.domain false) (Rows.thresholdOrderedSpec.post enc Try.prog Try.f9 false true false false) := by
  refine returnsInHanded_of_change (C := Try.checked) own started (by kernel_rfl) Try.func9
    (ChangeSpec.witness6 (enc := enc) (C := Try.checked) false ⟨#[], #[.slice none 0 0, .int .u8 0, .int .u8 0], []⟩ 8 (by kernel_rfl) (by kernel_rfl) (by kernel_rfl) (by kernel_rfl)) ?_
  intro W base args ds gs before hval hW _ _
  exact contract H enc W base args ds gs before hval hW

theorem proved : Rows.ThresholdOrderedSaid :=
  OpenClaim.holds_of_wide 9 Try.f9 rfl rfl rfl rfl rfl rfl rfl ⟨rfl, rfl, rfl, rfl, rfl⟩ rfl rfl rfl rfl rfl (by kernel_rfl) Try.func9 (by kernel_rfl)
    (of_decide_eq_true (by kernel_rfl)) (by unfold Func.isWrapper; first | (rw [if_pos (by decide +kernel)]; kernel_rfl) | (rw [if_neg (by decide +kernel)]; exact ⟨rfl, rfl⟩))
    (fun os started H enc _ => lifted os started H enc)
end Go.Proofs.Ytcnkiecdagjgmaa.thresholdOrdered
