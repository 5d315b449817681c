/- ThresholdStays holds for every input: a second step with the same reading changes nothing, the thresholds that are reached are asserted, and changes are the bits that differ. No condition. -/
import Derived.Test.YtcnkiecdagjgmaaYj
import Derived.Test.YtcnkiecdagjgmaaYk
import Derived.Test.YtcnkiecdagjgmaaLaw2
namespace Go.Proofs.Ytcnkiecdagjgmaa.thresholdStays
open Go.RowKit Go.ChangeShapes Go.WideShapes Go.ChangeAt Go.Proofs.Ytcnkiecdagjgmaa.Mem Go.Proofs.Ytcnkiecdagjgmaa.F2p Go.Proofs.Ytcnkiecdagjgmaa.C4l Go.Proofs.Ytcnkiecdagjgmaa.Ta Go.Proofs.Ytcnkiecdagjgmaa.Tb Go.Proofs.Ytcnkiecdagjgmaa.Law Go.Proofs.Ytcnkiecdagjgmaa.Made Go.Proofs.Ytcnkiecdagjgmaa.D5 Go.Proofs.Ytcnkiecdagjgmaa.Tl Go.Proofs.Ytcnkiecdagjgmaa.Ya
set_option maxRecDepth 100000
set_option maxHeartbeats 1000000

theorem walk (A : Option Addr) (n c : Nat) (l : List Int) (hn : n = l.length) (hw : ∀ x ∈ l, -9223372036854775808 ≤ x ∧ x ≤ 9223372036854775807) (hc : n ≤ c) (hm : c ≤ maxLen) (_hA : A = none → c = 0)
    (st : Int) (hst : 0 ≤ st ∧ st ≤ 255) (w : World) (hr : IRow w.heap.size w A l) :
    Calls Try.prog 4 #[.slice A n c, .int .u8 st] w fun e w' => e = .returned (.bool true) ∧ Below w.heap.size w w' := by
  have hnm : n ≤ maxLen := by omega
  obtain ⟨st, rfl⟩ := Int.eq_ofNat_of_zero_le hst.1
  have hst8 : st < 256 := by omega
  clear hst
  have HN := Lib.hid hn
  have HW := Lib.hid hw
  clear hn hw hc hm _hA
  have haw := Lib.hid (fun u => awake_q u)
  by_cases h6 : n ≤ 600
  case neg =>
    have d6 : decide (n ≤ 600) = false := decide_eq_false h6
    go_enter Try.func4, Try.ntmps4
    go_wp2_with fail
    refine (Made.lightmade_any A n c _ hnm).mono ?_
    rintro e w' ⟨rfl, rfl⟩
    rw [d6]
    go_wp2_with fail
    refine (haw.out _).mono ?_
    rintro e w3 ⟨rfl, hb3⟩
    go_wp2_with fail
    go_ret
    exact ⟨rfl, hb3⟩
  have d6 : decide (n ≤ 600) = true := decide_eq_true h6
  go_enter Try.func4, Try.ntmps4
  go_wp2_with fail
  refine (Made.lightmade_any A n c _ hnm).mono ?_
  rintro e w' ⟨rfl, rfl⟩
  rw [d6]
  go_wp2_with fail
  refine (Made.roll_any A n c w).mono ?_
  rintro e w1 ⟨rfl, rfl⟩
  have hdz := Dz.start A n c l w hr HN.out HW.out (by omega)
  have hb1 : Below w.heap.size w (w.alloc (.cells #[.slice A n c, .int .i64 0] 104)) := (Below.refl _ _).alloc (Nat.le_refl _) _
  have hs1 : w.heap.size < (w.alloc (.cells #[.slice A n c, .int .i64 0] 104)).heap.size := by rw [World.size_alloc]; omega
  generalize w.alloc (.cells #[.slice A n c, .int .i64 0] 104) = w1 at *
  go_wp2_with fail
  refine (analog_any 1 hdz).mono ?_
  rintro e w2 ⟨s, V, rfl, hv, hfit, hnu, hd, hown, hdz2, hg2⟩
  obtain ⟨PA, pn, pc, rfl, hps⟩ := hown.sl
  have hb2 : Below w.heap.size w w2 := hb1.grown hg2 hb1.size (fun k hk => by injection hk; omega)
  have hz := Bx.zero w2
  have hba := (Below.refl w2.heap.size w2).alloc (Nat.le_refl _) (.cells #[.int .u8 0, .int .u8 0, .int .u8 0, .string ⟨#[]⟩, .int .u8 0, .int .u8 0, .bool false, .int .i64 0, .bool false, .int .i64 0, .int .i64 0, .int .i64 0, .int .i64 0, .slice none 0 0, .int .u8 0, .int .u8 0, .int .u8 0, .int .u8 0, .int .u8 0, .int .u8 0, .int .u8 0, .int .u8 0, .int .u8 0, .int .u16 0, .int .u16 0, .int .u16 0, .bool false, .int .i64 0] 32)
  clear hfit hnu hg2 hb1 hdz
  go_wp2_with (refine wpList_store_bx rfl (.tmp 6) (.tmp 27) rfl w2.heap.size s noSn (.slice PA pn pc) (.slice none 0 0) rfl rfl rfl hz ?_; intro w3 hx3 hg3; refine Hid.out ?_)
  refine Lib.hid ?_
  have hba := hba.grown hg3 hba.size (fun k hk => by injection hk; omega)
  have hps := hps.step hba
  have hown := Tl.pown_far (World.ownsRow.alloc hown _) hz hg3
  have hlt2 := hdz2.lt
  have hdz := hdz2.below hba hlt2
  have hgw : w.heap.size ≤ w2.heap.size := hb2.size
  have hbb := hb2.trans (hba.mono hb2.size)
  clear hba hg3 hz hdz2 hb2
  go_wp2_with (refine wpList_load_bx rfl (.tmp 6) rfl _ _ _ rfl hx3 ?_)
  refine (near_q s (.slice PA pn pc) hdz).mono ?_
  rintro e w4 ⟨X, rfl, -, hg4⟩
  have hx4 := hx3.kept hg4 (fun e => by injection e; omega)
  have hown4 := D5.pown_kept hown hg4 hs1
  have hbb4 := hbb.grown hg4 hbb.size (fun k hk => by injection hk; omega)
  clear hx3 hown hbb hg4 hps hdz hs1 hlt2
  have c14 : w4.cell? ⟨w2.heap.size, 14, none⟩ = some (.int .u8 (s.mx.toNat : Int)) := hx4.c 14
  have hmx := mask_lt hv hd
  have ea := and_u8 st s.mx.toNat hst8 (by omega)
  have hin := and_in_mask st s.mx.toNat
  have hwl : st &&& s.mx.toNat < 64 := Nat.and_lt_two_pow (n := 6) _ (by omega)
  generalize st &&& s.mx.toNat = was at *
  have ln := nxt_lt s (C4p.num s.c.s X) was
  have hin2 := nxt_in_mask s (C4p.num s.c.s X) was
  have f1 := wth_in_nxt s (C4p.num s.c.s X) was
  have lw := wth_lt s (C4p.num s.c.s X) 0 0
  have HS1 := Lib.hid fun (u : World) (hu : PSl u PA pn pc s.c.p) => step_v s hv hd PA pn pc was (by omega) hin X u hu
  have HS2 := Lib.hid fun (u : World) (hu : PSl u PA pn pc s.c.p) => by have := step_v s hv hd PA pn pc (nxt s (C4p.num s.c.s X) was) (by omega) hin2 X u hu; rw [nxt_twice, chs_self] at this; exact this
  have HR := Lib.hid fun (u : World) (hu : PSl u PA pn pc s.c.p) => reached_v s hv hd PA pn pc X u hu
  generalize wth s (C4p.num s.c.s X) 0 0 = r at *
  generalize nxt s (C4p.num s.c.s X) was = a at *
  have e1 := andn_u8 r a
  have e2 := andn_u8 a s.mx.toNat
  rw [f1] at e1
  rw [hin2] at e2
  clear f1 hin2
  have HC := Lib.hid hx4
  have HO := Lib.hid hown4
  clear hx4 hown4
  go_wp2_with (refine wpList_load_bx rfl (.tmp 6) rfl _ _ _ rfl HC.out ?_)
  refine (HS1.out _ (psl_own HO.out)).mono ?_
  rintro e w5 ⟨⟨v5, rfl, ho5⟩, hb5⟩
  obtain ⟨MA, mn, mc, rfl, hms⟩ := ho5.sl
  have hx5 := HC.out.below hb5
  have hown5 := pown_below HO.out hb5
  have hbb5 := hbb4.trans (hb5.mono hbb4.size)
  clear hb5 HC HO hbb4 c14 ho5
  go_wp2_with (refine wpList_load_bx rfl (.tmp 6) rfl _ _ _ rfl hx5 ?_)
  refine (HS2.out _ (psl_own hown5)).mono ?_
  rintro e w6 ⟨⟨v6, rfl, ho6⟩, hb6⟩
  obtain ⟨NA, nn, nc, rfl, hns⟩ := ho6.sl
  have hnn : nn = 0 := hns.len
  subst hnn
  have hx6 := hx5.below hb6
  have hown6 := pown_below hown5 hb6
  have hms6 := hms.step hb6
  have hbb6 := hbb5.trans (hb6.mono hbb5.size)
  clear hb6 hx5 hown5 hms hbb5 hns ho6
  go_wp2_with (refine wpList_load_bx rfl (.tmp 6) rfl _ _ _ rfl hx6 ?_)
  refine (HR.out _ (psl_own hown6)).mono ?_
  rintro e w7 ⟨rfl, hb7⟩
  have hx7 := hx6.below hb7
  have hms7 := hms6.step hb7
  have hbb7 := hbb6.trans (hb7.mono hbb6.size)
  clear hb7 hx6 hown6 hms6 hbb6
  have c14 : w7.cell? ⟨w2.heap.size, 14, none⟩ = some (.int .u8 (s.mx.toNat : Int)) := hx7.c 14
  have hmn : mn = (ixs was a 6).length := hms7.len.trans (chs_len2 was a 6)
  have HM := Lib.hid hms7
  have HML := Lib.hid hmn
  have hmx8 : mn ≤ 6 := by rw [hmn]; exact ixs_len was a 6
  clear hx7 hms7 hmn HS1 HS2 HR
  go_wp2_with fail
  clear c14 e1 e2
  go_loopw [8, 17, 18] (fun x y i wr => ∃ k wk : Nat, k ≤ mn ∧ i = .int .i64 (k : Int) ∧ y = .int .i64 (lastOf (ixs was a 6) k) ∧ x = .int .u8 (wk : Int) ∧ Turned was a wk k ∧ wr = w7) (fun _ _ i _ => mn - (intOf i).toNat)
  case atStart => exact ⟨0, was, by omega, rfl, rfl, rfl, turned_zero a hwl, rfl⟩
  case round =>
    obtain ⟨k, wk, hk, rfl, rfl, rfl, htu, rfl⟩ := hrel
    by_cases hkm : k < mn
    · have hki : k < (ixs was a 6).length := by rw [← HML.out]; exact hkm
      have hkc : k < (chs was a 6).length := by rw [chs_len2]; exact hki
      obtain ⟨p, rfl, hpb, h0, h1⟩ := krow_at HM.out.row hkc
      rw [chs_get was a 6 k hkc hki] at h0 h1
      dsimp only at h0 h1
      have h1' : wr.cell? ⟨(p.add (k * 2)).block, (p.add (k * 2)).off + 1, none⟩ = some (.bool (a.testBit (ixs was a 6)[k])) := by rw [← h1, ← add_add]; rfl
      clear h1
      obtain ⟨hj, hdj⟩ := ixs_get was a 6 k hki
      have hla := last_lt was a k hki
      have ho := turned_old htu hki
      have HT := Lib.hid (turned_next htu hki)
      have HLN := Lib.hid (last_next was a k hki)
      have hp2 : 2 ^ (ixs was a 6)[k] < 64 := Nat.pow_lt_pow_right (n := 6) (by omega) hj
      have hpm := pow_mod _ hp2
      have hpn : (((2 : Int) ^ (ixs was a 6)[k] % 256 != 0)) = true := by rw [hpm, bne_iff_ne]; have := Nat.two_pow_pos (ixs was a 6)[k]; omega
      have b1 := and_u8 a (2 ^ (ixs was a 6)[k]) (by omega) (by omega)
      have b2 := and_u8 wk (2 ^ (ixs was a 6)[k]) (by have := htu.1; omega) (by omega)
      have b3 := xor_u8 wk (2 ^ (ixs was a 6)[k]) (by have := htu.1; omega) (by omega)
      rw [and_bit] at b1 b2
      rw [ho] at b2
      rw [← hpm] at b1 b2 b3
      have HPM := Lib.hid hpm
      clear hpm hp2
      generalize (ixs was a 6)[k] = j at *
      generalize lastOf (ixs was a 6) k = L at *
      clear ho
      have k1 : decide ((j : Int) ≤ L) = false := decide_eq_false (by omega)
      have k2 : decide (5 < (j : Int)) = false := decide_eq_false (by omega)
      have hlp : lastOf (ixs was a 6) (k + 1) = (j : Int) := HLN.out
      generalize a.testBit j = ya at *
      generalize was.testBit j = yw at *
      cases ya <;> cases yw
      · exact absurd rfl hdj
      · rw [if_neg Bool.false_ne_true] at b1
        rw [if_pos rfl, ← HPM.out] at b2
        go_wp2_with fail
        exact ⟨⟨k + 1, wk ^^^ 2 ^ j, by omega, by go_num, by rw [hlp], rfl, HT.out, trivial⟩, by simp [intOf]; omega⟩
      · rw [if_pos rfl, ← HPM.out] at b1
        rw [if_neg Bool.false_ne_true] at b2
        go_wp2_with fail
        exact ⟨⟨k + 1, wk ^^^ 2 ^ j, by omega, by go_num, by rw [hlp], rfl, HT.out, trivial⟩, by simp [intOf]; omega⟩
      · exact absurd rfl hdj
    · obtain rfl : k = mn := by omega
      have hEnd := turned_end hwl ln (by rw [← HML.out]; exact htu)
      subst hEnd
      go_wp2_with fail
      refine (haw.out _).mono ?_
      rintro e w8 ⟨rfl, hb8⟩
      go_wp2_with fail
      go_ret
      exact ⟨rfl, hbb7.trans (hb8.mono hbb7.size)⟩

theorem cells_u8 : Try.prog.cellsOf 5 = 1 := by kernel_rfl
theorem cells_int : Try.prog.cellsOf 3 = 1 := by kernel_rfl
theorem own : ownKnob Try.prog.godebug = none := by kernel_rfl
theorem laidOut : laidOutB Try.prog = true := by kernel_rfl
theorem contract (H : Type) (enc : TypeId × Value → H) (W : World) (base : Nat) (args : Array Value) (ds gs : List (DataW H)) (before : List MemPlace)
    (hval : ∀ (j : Nat) t v, Try.f4.params[j]? = some t → args[j]? = some v → Value.okWide Try.prog W .any base t v)
    (hW : DataW.Whole enc Try.prog Try.f4.params.toList Rows.thresholdStaysSpec.vars false W args.toList ds gs before) :
    Calls Try.prog 4 args W fun e W' => ∃ v, e = .returned v ∧ Rows.thresholdStaysSpec.post enc Try.prog Try.f4 false true false false W args v W' := by
  have hW' := hW
  obtain ⟨p, q, hA0, hV, rfl, hfz, hnd⟩ := hW
  have hA : DataW.TrodAll enc Try.prog W 0 (fun _ => true) true Try.f4.params.toList args.toList ds p := hA0
  rw [Try.params4] at hA hval
  obtain ⟨v0, vs0, d0, ds0, p0, q0, hargs, rfl, rfl, h0, r0⟩ := trodAll_cons hA
  obtain ⟨v1, vs1, d1, ds1, p1, q1, rfl, rfl, rfl, h1, r1⟩ := trodAll_cons r0
  obtain ⟨rfl, rfl, rfl⟩ := trodAll_nil r1
  obtain rfl : args = #[v0, v1] := by cases args; simp_all
  obtain ⟨A0, n0, c0, l0, rfl, hn0, hr0, hw0, hc0, hm0, hk0⟩ := open_int_list Try.underlying33 Try.underlying3 cells_int (hval 0 33 v0 rfl rfl) h0
  obtain ⟨a1, rfl, -, -, w1⟩ := open_int Try.underlying5 (hval 1 5 v1 rfl rfl) h1
  clear hA0
  refine (walk A0 n0 c0 l0 hn0 hw0 hc0 hm0 hk0 a1 (bounds_u8 w1) W hr0).mono fun e W' ⟨he, hb⟩ => ?_
  subst he
  exact ⟨_, rfl, law_post laidOut (types_fit (by kernel_rfl)) (by kernel_rfl) Try.underlying4 rfl (fun xs hx => by
    match xs, hx with
    | [_, _], _ => rfl) hW' hb⟩

theorem lifted (os : Os) (started : os.Started) (H : Type) (enc : TypeId × Value → H) :
    ReturnsInHanded {} Try.checked os 4 .any (Rows.thresholdStaysSpec.pre6 enc Try.prog Try.f4 Rows.thresholdStaysRow.domain false) (Rows.thresholdStaysSpec.post enc Try.prog Try.f4 false true false false) := by
  refine returnsInHanded_of_change (C := Try.checked) own started (by kernel_rfl) Try.func4
    (ChangeSpec.witness6 (enc := enc) (C := Try.checked) false ⟨#[], #[.slice none 0 0, .int .u8 0], []⟩ 8 (by kernel_rfl) (by kernel_rfl) (by kernel_rfl) (by kernel_rfl)) ?_
  intro W base args ds gs before hval hW _ _
  exact contract H enc W base args ds gs before hval hW

theorem proved : Rows.ThresholdStaysSaid :=
  OpenClaim.holds_of_wide 4 Try.f4 rfl rfl rfl rfl rfl rfl rfl ⟨rfl, rfl, rfl, rfl, rfl⟩ rfl rfl rfl rfl rfl (by kernel_rfl) Try.func4 (by kernel_rfl)
    (of_decide_eq_true (by kernel_rfl)) (by unfold Func.isWrapper; first | (rw [if_pos (by decide +kernel)]; kernel_rfl) | (rw [if_neg (by decide +kernel)]; exact ⟨rfl, rfl⟩))
    (fun os started H enc _ => lifted os started H enc)
end Go.Proofs.Ytcnkiecdagjgmaa.thresholdStays
