/- ThresholdPlain holds for every input: without hysteresis the next state is what the reading reaches, and hysteresis only keeps thresholds asserted. No condition. -/
import Derived.Test.YtcnkiecdagjgmaaYj
import Derived.Test.YtcnkiecdagjgmaaLaw2
namespace Go.Proofs.Ytcnkiecdagjgmaa.thresholdPlain
open Go.RowKit Go.ChangeShapes Go.WideShapes Go.ChangeAt Go.Proofs.Ytcnkiecdagjgmaa.Mem Go.Proofs.Ytcnkiecdagjgmaa.F2p Go.Proofs.Ytcnkiecdagjgmaa.C4l Go.Proofs.Ytcnkiecdagjgmaa.Ta Go.Proofs.Ytcnkiecdagjgmaa.Tb Go.Proofs.Ytcnkiecdagjgmaa.Law Go.Proofs.Ytcnkiecdagjgmaa.Made Go.Proofs.Ytcnkiecdagjgmaa.D5 Go.Proofs.Ytcnkiecdagjgmaa.Tl Go.Proofs.Ytcnkiecdagjgmaa.Ya
set_option maxRecDepth 100000
set_option maxHeartbeats 1000000

theorem walk (A : Option Addr) (n c : Nat) (l : List Int) (hn : n = l.length) (hw : ∀ x ∈ l, -9223372036854775808 ≤ x ∧ x ≤ 9223372036854775807) (hc : n ≤ c) (hm : c ≤ maxLen) (_hA : A = none → c = 0)
    (st : Int) (hst : 0 ≤ st ∧ st ≤ 255) (w : World) (hr : IRow w.heap.size w A l) :
    Calls Try.prog 7 #[.slice A n c, .int .u8 st] w fun e w' => e = .returned (.bool true) ∧ Below w.heap.size w w' := by
  have hnm : n ≤ maxLen := by omega
  obtain ⟨st, rfl⟩ := Int.eq_ofNat_of_zero_le hst.1
  have hst8 : st < 256 := by omega
  clear hst
  have HN := Lib.hid hn
  have HW := Lib.hid hw
  clear hn hw hc hm _hA
  have haw := Lib.hid (fun u => awake_q u)
  by_cases h6 : n ≤ 600
  case neg =>
    have d6 : decide (n ≤ 600) = false := decide_eq_false h6
    go_enter Try.func7, Try.ntmps7
    go_wp2_with fail
    refine (Made.lightmade_any A n c _ hnm).mono ?_
    rintro e w' ⟨rfl, rfl⟩
    rw [d6]
    go_wp2_with fail
    refine (haw.out _).mono ?_
    rintro e w3 ⟨rfl, hb3⟩
    go_wp2_with fail
    go_ret
    exact ⟨rfl, hb3⟩
  have d6 : decide (n ≤ 600) = true := decide_eq_true h6
  go_enter Try.func7, Try.ntmps7
  go_wp2_with fail
  refine (Made.lightmade_any A n c _ hnm).mono ?_
  rintro e w' ⟨rfl, rfl⟩
  rw [d6]
  go_wp2_with fail
  refine (Made.roll_any A n c w).mono ?_
  rintro e w1 ⟨rfl, rfl⟩
  have hdz := Dz.start A n c l w hr HN.out HW.out (by omega)
  have hb1 : Below w.heap.size w (w.alloc (.cells #[.slice A n c, .int .i64 0] 104)) := (Below.refl _ _).alloc (Nat.le_refl _) _
  have hs1 : w.heap.size < (w.alloc (.cells #[.slice A n c, .int .i64 0] 104)).heap.size := by rw [World.size_alloc]; omega
  generalize w.alloc (.cells #[.slice A n c, .int .i64 0] 104) = w1 at *
  go_wp2_with fail
  refine (analog_any 1 hdz).mono ?_
  rintro e w2 ⟨s, V, rfl, hv, hfit, hnu, hd, hown, hdz2, hg2⟩
  obtain ⟨PA, pn, pc, rfl, hps⟩ := hown.sl
  have hb2 : Below w.heap.size w w2 := hb1.grown hg2 hb1.size (fun k hk => by injection hk; omega)
  have hz := Bx.zero w2
  have hba := (Below.refl w2.heap.size w2).alloc (Nat.le_refl _) (.cells #[.int .u8 0, .int .u8 0, .int .u8 0, .string ⟨#[]⟩, .int .u8 0, .int .u8 0, .bool false, .int .i64 0, .bool false, .int .i64 0, .int .i64 0, .int .i64 0, .int .i64 0, .slice none 0 0, .int .u8 0, .int .u8 0, .int .u8 0, .int .u8 0, .int .u8 0, .int .u8 0, .int .u8 0, .int .u8 0, .int .u8 0, .int .u16 0, .int .u16 0, .int .u16 0, .bool false, .int .i64 0] 32)
  clear hfit hnu hg2 hb1 hdz
  go_wp2_with (refine wpList_store_bx rfl (.tmp 6) (.tmp 27) rfl w2.heap.size s noSn (.slice PA pn pc) (.slice none 0 0) rfl rfl rfl hz ?_; intro w3 hx3 hg3; refine Hid.out ?_)
  refine Lib.hid ?_
  have hba := hba.grown hg3 hba.size (fun k hk => by injection hk; omega)
  have hps := hps.step hba
  have hown := Tl.pown_far (World.ownsRow.alloc hown _) hz hg3
  have hlt2 := hdz2.lt
  have hdz := hdz2.below hba hlt2
  have hgw : w.heap.size ≤ w2.heap.size := hb2.size
  have hbb := hb2.trans (hba.mono hb2.size)
  clear hba hg3 hz hdz2 hb2
  go_wp2_with (refine wpList_load_bx rfl (.tmp 6) rfl _ _ _ rfl hx3 ?_)
  refine (near_q s (.slice PA pn pc) hdz).mono ?_
  rintro e w4 ⟨X, rfl, -, hg4⟩
  have hx4 := hx3.kept hg4 (fun e => by injection e; omega)
  have hown4 := D5.pown_kept hown hg4 hs1
  have hbb4 := hbb.grown hg4 hbb.size (fun k hk => by injection hk; omega)
  clear hx3 hown hbb hg4 hps hdz hs1 hlt2
  have c14 : w4.cell? ⟨w2.heap.size, 14, none⟩ = some (.int .u8 (s.mx.toNat : Int)) := hx4.c 14
  have hmx := s.mx.toNat_lt
  have ea := and_u8 st s.mx.toNat hst8 (by omega)
  have hin := and_in_mask st s.mx.toNat
  have hwl : st &&& s.mx.toNat < 256 := Nat.and_lt_two_pow (n := 8) _ (by omega)
  generalize st &&& s.mx.toNat = was at *
  have hwz : andn8 0 s.mx.toNat = 0 := andn8_zero fun i _ h => by rw [Nat.zero_testBit] at h; cases h
  have hv2 : vs (noHy s) = true := by rw [vs_noHy s hd]; exact hv
  have f1 := wth_in_nxt s (C4p.num s.c.s X) was
  have f2 := nxt_keeps s (C4p.num s.c.s X) was
  have lw := wth_lt s (C4p.num s.c.s X) 0 0
  have ln := nxt_lt s (C4p.num s.c.s X) was
  have HS1 := Lib.hid fun (u : World) (hu : PSl u PA pn pc s.c.p) => step_v s hv hd PA pn pc was hwl hin X u hu
  have HS2 := Lib.hid fun (u : World) (hu : PSl u PA pn pc s.c.p) => by have := step_v (noHy s) hv2 hd PA pn pc was hwl hin X u hu; rw [nxt_noHy] at this; exact this
  have HS3 := Lib.hid fun (u : World) (hu : PSl u PA pn pc s.c.p) => by have := step_v (noHy s) hv2 hd PA pn pc 0 (by omega) hwz X u hu; rw [nxt_noHy] at this; exact this
  have HR := Lib.hid fun (u : World) (hu : PSl u PA pn pc s.c.p) => by have := reached_v (noHy s) hv2 hd PA pn pc X u hu; rw [wth_noHy] at this; exact this
  have hse : ∀ q : Array Value, q = cells s (.slice PA pn pc) → (q.setIfInBounds 21 (.int .u8 0)).setIfInBounds 22 (.int .u8 0) = cells (noHy s) (.slice PA pn pc) := fun q e => by rw [e]; rfl
  rw [show (noHy s).c = s.c from rfl] at HS2 HS3 HR
  generalize wth s (C4p.num s.c.s X) 0 0 = r at *
  generalize nxt s (C4p.num s.c.s X) was = a at *
  have e1 := andn_u8 r a
  have e2 := or_u8 r was (by omega) hwl
  have e3 := andn_u8 a (r ||| was)
  rw [f1] at e1
  rw [f2] at e3
  clear f1 f2
  generalize r ||| was = rw_ at *
  have HC := Lib.hid hx4
  have HO := Lib.hid hown4
  clear hx4 hown4
  go_wp2_with (refine wpList_load_bx rfl (.tmp 6) rfl _ _ _ rfl HC.out ?_)
  refine (HS1.out _ (psl_own HO.out)).mono ?_
  rintro e w5 ⟨⟨v5, rfl, -⟩, hb5⟩
  have hx5 := HC.out.below hb5
  have hown5 := pown_below HO.out hb5
  have hbb5 := hbb4.trans (hb5.mono hbb4.size)
  have c21 : w5.cell? ⟨w2.heap.size, 21, none⟩ = some (.int .u8 (s.hl.toNat : Int)) := hx5.c 21
  have c22 : w5.cell? ⟨w2.heap.size, 22, none⟩ = some (.int .u8 (s.hu.toNat : Int)) := hx5.c 22
  have z21 := hx5.fz 21
  have z22 := hx5.fz 22
  clear hb5 HC HO hbb4 c14
  have hx6 : Bx (w5.setCell ⟨w2.heap.size, 21, none⟩ (.int .u8 0)) w2.heap.size { s with hl := 0 } (.slice PA pn pc) := hx5.set 21 _ _ _ rfl
  have hown6 := Tl.pown_far hown5 hx5 (set_grown w5 w2.heap.size 21 (.int .u8 0))
  have hx7 : Bx ((w5.setCell ⟨w2.heap.size, 21, none⟩ (.int .u8 0)).setCell ⟨w2.heap.size, 22, none⟩ (.int .u8 0)) w2.heap.size (noHy s) (.slice PA pn pc) := hx6.set 22 _ _ _ rfl
  have hown7 := Tl.pown_far hown6 hx6 (set_grown _ w2.heap.size 22 (.int .u8 0))
  have hbb7 := (hbb5.setCell (p := ⟨w2.heap.size, 21, none⟩) hgw (.int .u8 0)).setCell (p := ⟨w2.heap.size, 22, none⟩) hgw (.int .u8 0)
  clear hx5 hown5 hbb5 hx6 hown6
  go_wp2_with (refine wpList_load_bx rfl (.tmp 6) rfl _ _ _ rfl hx7 ?_)
  generalize (w5.setCell ⟨w2.heap.size, 21, none⟩ (.int .u8 0)).setCell ⟨w2.heap.size, 22, none⟩ (.int .u8 0) = w7 at *
  refine (HS2.out _ (psl_own hown7)).mono ?_
  rintro e w8 ⟨⟨v8, rfl, -⟩, hb8⟩
  have hx8 := hx7.below hb8
  have hown8 := pown_below hown7 hb8
  have hbb8 := hbb7.trans (hb8.mono hbb7.size)
  clear hb8 hx7 hown7 hbb7
  go_wp2_with (refine wpList_load_bx rfl (.tmp 6) rfl _ _ _ rfl hx8 ?_)
  refine (HR.out _ (psl_own hown8)).mono ?_
  rintro e w9 ⟨rfl, hb9⟩
  have hx9 := hx8.below hb9
  have hown9 := pown_below hown8 hb9
  have hbb9 := hbb8.trans (hb9.mono hbb8.size)
  clear hb9 hx8 hown8 hbb8
  go_wp2_with (refine wpList_load_bx rfl (.tmp 6) rfl _ _ _ rfl hx9 ?_)
  refine (HS3.out _ (psl_own hown9)).mono ?_
  rintro e w10 ⟨⟨v10, rfl, -⟩, hb10⟩
  have hbb10 := hbb9.trans (hb10.mono hbb9.size)
  clear hb10 hx9 hown9 hbb9
  go_wp2_with fail
  refine (haw.out _).mono ?_
  rintro e w11 ⟨rfl, hb11⟩
  go_wp2_with fail
  go_ret
  exact ⟨rfl, hbb10.trans (hb11.mono hbb10.size)⟩

theorem cells_u8 : Try.prog.cellsOf 5 = 1 := by kernel_rfl
theorem cells_int : Try.prog.cellsOf 3 = 1 := by kernel_rfl
theorem own : ownKnob Try.prog.godebug = none := by kernel_rfl
theorem laidOut : laidOutB Try.prog = true := by kernel_rfl
theorem contract (H : Type) (enc : TypeId × Value → H) (W : World) (base : Nat) (args : Array Value) (ds gs : List (DataW H)) (before : List MemPlace)
    (hval : ∀ (j : Nat) t v, Try.f7.params[j]? = some t → args[j]? = some v → Value.okWide Try.prog W .any base t v)
    (hW : DataW.Whole enc Try.prog Try.f7.params.toList Rows.thresholdPlainSpec.vars false W args.toList ds gs before) :
    Calls Try.prog 7 args W fun e W' => ∃ v, e = .returned v ∧ Rows.thresholdPlainSpec.post enc Try.prog Try.f7 false true false false W args v W' := by
  have hW' := hW
  obtain ⟨p, q, hA0, hV, rfl, hfz, hnd⟩ := hW
  have hA : DataW.TrodAll enc Try.prog W 0 (fun _ => true) true Try.f7.params.toList args.toList ds p := hA0
  rw [Try.params7] at hA hval
  obtain ⟨v0, vs0, d0, ds0, p0, q0, hargs, rfl, rfl, h0, r0⟩ := trodAll_cons hA
  obtain ⟨v1, vs1, d1, ds1, p1, q1, rfl, rfl, rfl, h1, r1⟩ := trodAll_cons r0
  obtain ⟨rfl, rfl, rfl⟩ := trodAll_nil r1
  obtain rfl : args = #[v0, v1] := by cases args; simp_all
  obtain ⟨A0, n0, c0, l0, rfl, hn0, hr0, hw0, hc0, hm0, hk0⟩ := open_int_list Try.underlying33 Try.underlying3 cells_int (hval 0 33 v0 rfl rfl) h0
  obtain ⟨a1, rfl, -, -, w1⟩ := open_int Try.underlying5 (hval 1 5 v1 rfl rfl) h1
  clear hA0
  refine (walk A0 n0 c0 l0 hn0 hw0 hc0 hm0 hk0 a1 (bounds_u8 w1) W hr0).mono fun e W' ⟨he, hb⟩ => ?_
  subst he
  exact ⟨_, rfl, law_post laidOut (types_fit (by kernel_rfl)) (by kernel_rfl) Try.underlying4 rfl (fun xs hx => by
    match xs, hx with
    | [_, _], _ => rfl) hW' hb⟩

theorem lifted (os : Os) (started : os.Started) (H : Type) (enc : TypeId × Value → H) :
    ReturnsInHanded {} Try.checked os 7 .any (Rows.thresholdPlainSpec.pre6 enc Try.prog Try.f7 Rows.thresholdPlainRow.domain false) (Rows.thresholdPlainSpec.post enc Try.prog Try.f7 false true false false) := by
  refine returnsInHanded_of_change (C := Try.checked) own started (by kernel_rfl) Try.func7
    (ChangeSpec.witness6 (enc := enc) (C := Try.checked) false ⟨#[], #[.slice none 0 0, .int .u8 0], []⟩ 8 (by kernel_rfl) (by kernel_rfl) (by kernel_rfl) (by kernel_rfl)) ?_
  intro W base args ds gs before hval hW _ _
  exact contract H enc W base args ds gs before hval hW

theorem proved : Rows.ThresholdPlainSaid :=
  OpenClaim.holds_of_wide 7 Try.f7 rfl rfl rfl rfl rfl rfl rfl ⟨rfl, rfl, rfl, rfl, rfl⟩ rfl rfl rfl rfl rfl (by kernel_rfl) Try.func7 (by kernel_rfl)
    (of_decide_eq_true (by kernel_rfl)) (by unfold Func.isWrapper; first | (rw [if_pos (by decide +kernel)]; kernel_rfl) | (rw [if_neg (by decide +kernel)]; exact ⟨rfl, rfl⟩))
    (fun os started H enc _ => lifted os started H enc)
end Go.Proofs.Ytcnkiecdagjgmaa.thresholdPlain
