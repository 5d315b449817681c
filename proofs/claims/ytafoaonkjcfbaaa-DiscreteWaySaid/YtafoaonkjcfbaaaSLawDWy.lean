/- DiscreteWay holds for every input: two steps there and back cancel each other, and a step by way of a third state has the same end. No condition. -/
import Derived.Test.YtafoaonkjcfbaaaS46
import Derived.Test.YtafoaonkjcfbaaaS40
import Derived.Test.YtafoaonkjcfbaaaS37
import Derived.Test.YtafoaonkjcfbaaaS41
namespace Go.Proofs.Ytafoaonkjcfbaaa.discreteWay
open Go.RowKit Go.ChangeShapes Go.WideShapes Go.ChangeAt Go.Proofs.Ytafoaonkjcfbaaa.Mem Go.Proofs.Ytafoaonkjcfbaaa.F2p Go.Proofs.Ytafoaonkjcfbaaa.C4l Go.Proofs.Ytafoaonkjcfbaaa.Ta Go.Proofs.Ytafoaonkjcfbaaa.Tb Go.Proofs.Ytafoaonkjcfbaaa.Law Go.Proofs.Ytafoaonkjcfbaaa.Made Go.Proofs.Ytafoaonkjcfbaaa.D5 Go.Proofs.Ytafoaonkjcfbaaa.Tl Go.Proofs.Ytafoaonkjcfbaaa.Ya
set_option maxRecDepth 100000
set_option maxHeartbeats 2000000

theorem walk (A : Option Addr) (n c : Nat) (l : List Int) (hn : n = l.length) (hw : ∀ x ∈ l, -9223372036854775808 ≤ x ∧ x ≤ 9223372036854775807) (hc : n ≤ c) (hm : c ≤ maxLen) (_hA : A = none → c = 0)
    (a : Int) (ha : 0 ≤ a ∧ a ≤ 65535) (b : Int) (hb : 0 ≤ b ∧ b ≤ 65535) (d : Int) (hd : 0 ≤ d ∧ d ≤ 65535)
    (w : World) (hr : IRow w.heap.size w A l) :
    Calls Try.prog 11 #[.slice A n c, .int .u16 a, .int .u16 b, .int .u16 d] w fun e w' => e = .returned (.bool true) ∧ Below w.heap.size w w' := by
  have hnm : n ≤ maxLen := by omega
  obtain ⟨a, rfl⟩ := Int.eq_ofNat_of_zero_le ha.1
  obtain ⟨b, rfl⟩ := Int.eq_ofNat_of_zero_le hb.1
  obtain ⟨d, rfl⟩ := Int.eq_ofNat_of_zero_le hd.1
  have ha8 : a < 65536 := by omega
  have hb8 : b < 65536 := by omega
  have hd8 : d < 65536 := by omega
  have HN := Lib.hid hn
  have HW := Lib.hid hw
  clear hn hw hc hm _hA ha hb hd
  have haw := Lib.hid (fun u => Ya.awake13 u)
  go_enter Try.func11, Try.ntmps11
  by_cases h6 : n ≤ 600
  case neg =>
    have d6 : decide (n ≤ 600) = false := decide_eq_false h6
    go_wp2_with fail
    refine (Made.lightmade_any A n c _ hnm).mono ?_
    rintro e w' ⟨rfl, rfl⟩
    rw [d6]
    go_wp2_with fail
    refine (haw.out _).mono ?_
    rintro e w3 ⟨rfl, hb3⟩
    go_wp2_with fail
    go_ret
    exact ⟨rfl, hb3⟩
  have d6 : decide (n ≤ 600) = true := decide_eq_true h6
  go_wp2_with fail
  refine (Made.lightmade_any A n c _ hnm).mono ?_
  rintro e w' ⟨rfl, rfl⟩
  rw [d6]
  go_wp2_with fail
  refine (Made.roll_any A n c w).mono ?_
  rintro e w1 ⟨rfl, rfl⟩
  have hdz := Dz.start A n c l w hr HN.out HW.out (by omega)
  have hb1 : Below w.heap.size w (w.alloc (.cells #[.slice A n c, .int .i64 0] 105)) := (Below.refl _ _).alloc (Nat.le_refl _) _
  have hs1 : w.heap.size < (w.alloc (.cells #[.slice A n c, .int .i64 0] 105)).heap.size := by rw [World.size_alloc]; omega
  generalize w.alloc (.cells #[.slice A n c, .int .i64 0] 105) = w1 at *
  go_wp2_with fail
  refine (digital_any 1 hdz).mono ?_
  rintro e w2 ⟨s, V, rfl, hv, -, -, hds, hown, -, hg2⟩
  obtain ⟨PA, pn, pc, rfl, -⟩ := hown.sl
  have hnms := name_le hv
  have hb2 : Below w.heap.size w w2 := hb1.grown hg2 hb1.size (fun k hk => by injection hk; omega)
  have hz := Bx.zero w2
  have hba := (Below.refl w2.heap.size w2).alloc (Nat.le_refl _) (.cells #[.int .u8 0, .int .u8 0, .int .u8 0, .string ⟨#[]⟩, .int .u8 0, .int .u8 0, .bool false, .int .i64 0, .bool false, .int .i64 0, .int .i64 0, .int .i64 0, .int .i64 0, .slice none 0 0, .int .u8 0, .int .u8 0, .int .u8 0, .int .u8 0, .int .u8 0, .int .u8 0, .int .u8 0, .int .u8 0, .int .u8 0, .int .u16 0, .int .u16 0, .int .u16 0, .bool false, .int .i64 0] 59)
  clear hg2 hb1 hdz
  go_wp2_with (refine wpList_store_bx rfl (.tmp 9) (.tmp 34) rfl w2.heap.size s noSn (.slice PA pn pc) (.slice none 0 0) rfl rfl rfl hz ?_; intro w3 hx3 hg3; refine Hid.out ?_)
  refine Lib.hid ?_
  have hba := hba.grown hg3 hba.size (fun k hk => by injection hk; omega)
  have hps := psl_own (Tl.pown_far (World.ownsRow.alloc hown _) hz hg3)
  have hbb := hb2.trans (hba.mono hb2.size)
  clear hba hg3 hz hb2 hown
  have hS15 := vs_st hv hds
  have m1 := and_u16m a s.st ha8
  have m2 := and_u16m b s.st hb8
  have m3 := and_u16m d s.st hd8
  rw [Nat.mod_eq_of_lt (show s.st < 65536 by omega)] at m1 m2 m3
  have hx := and_lt15 (a := a) hS15
  have hy := and_lt15 (a := b) hS15
  have hz := and_lt15 (a := d) hS15
  have i1 := and_in a b s.st
  have i2 := and_in b a s.st
  have i3 := and_in a d s.st
  have i4 := and_in d b s.st
  have c23 : w3.cell? ⟨w2.heap.size, 23, none⟩ = some (.int .u16 (s.st : Int)) := hx3.c 23
  generalize a &&& s.st = x at *
  generalize b &&& s.st = y at *
  generalize d &&& s.st = z at *
  have HT1 := Lib.hid fun (u : World) (hu : PSl u PA pn pc s.c.p) => step_w s hv hds PA pn pc x y hx hy i1 hnms u hu
  have HT2 := Lib.hid fun (u : World) (hu : PSl u PA pn pc s.c.p) => step_w s hv hds PA pn pc y x hy hx i2 hnms u hu
  have HT3 := Lib.hid fun (u : World) (hu : PSl u PA pn pc s.c.p) => step_w s hv hds PA pn pc x z hx hz i3 hnms u hu
  have HT4 := Lib.hid fun (u : World) (hu : PSl u PA pn pc s.c.p) => step_w s hv hds PA pn pc z y hz hy i4 hnms u hu
  have HAP := Lib.hid (way_apl hx hy hz)
  obtain ⟨dd, hway⟩ := ixs_way x y z 15
  have hwl : (ixs x y 15).length ≤ 15 := ixs_len x y 15
  have hwl1 : (ixs x z 15).length ≤ 15 := ixs_len x z 15
  have hwl2 : (ixs z y 15).length ≤ 15 := ixs_len z y 15
  have hbk := ixs_back x y 15
  clear i1 i2 i3 i4 hv hds hS15 d6
  go_wp2_with fail
  go_quiet (fail)
  have hx4 : Bx (w3.drewN nq) w2.heap.size s (.slice PA pn pc) := hx3
  have hps4 : PSl (w3.drewN nq) PA pn pc s.c.p := ⟨hps.len, hps.row, hps.cap, hps.max, hps.nil⟩
  have hbb4 : Below w.heap.size w (w3.drewN nq) := ⟨hbb.os, hbb.tape, hbb.output, hbb.size, hbb.block⟩
  generalize w3.drewN nq = w4 at *
  clear hx3 hps hbb c23 m1 m2 m3
  go_wp2_with (refine wpList_load_bx rfl (.tmp 9) rfl _ _ _ rfl hx4 ?_)
  refine (HT1.out _ hps4).mono ?_
  rintro e w5 ⟨B1, bn1, bc1, rfl, k1_5, hb5⟩
  have hx5 := hx4.below hb5
  have hps5 := hps4.step hb5
  have hbb5 := hbb4.trans (hb5.mono hbb4.size)
  clear hx4 hps4 hb5 hbb4 
  go_wp2_with (refine wpList_load_bx rfl (.tmp 9) rfl _ _ _ rfl hx5 ?_)
  refine (HT2.out _ hps5).mono ?_
  rintro e w6 ⟨B2, bn2, bc2, rfl, k2_6, hb6⟩
  have hx6 := hx5.below hb6
  have hps6 := hps5.step hb6
  have k1_6 := k1_5.step hb6
  have hbb6 := hbb5.trans (hb6.mono hbb5.size)
  clear hx5 hps5 hb6 hbb5 k1_5
  go_wp2_with (refine wpList_load_bx rfl (.tmp 9) rfl _ _ _ rfl hx6 ?_)
  refine (HT3.out _ hps6).mono ?_
  rintro e w7 ⟨B3, bn3, bc3, rfl, k3_7, hb7⟩
  have hx7 := hx6.below hb7
  have hps7 := hps6.step hb7
  have k1_7 := k1_6.step hb7
  have k2_7 := k2_6.step hb7
  have hbb7 := hbb6.trans (hb7.mono hbb6.size)
  clear hx6 hps6 hb7 hbb6 k1_6 k2_6
  go_wp2_with (refine wpList_load_bx rfl (.tmp 9) rfl _ _ _ rfl hx7 ?_)
  refine (HT4.out _ hps7).mono ?_
  rintro e w8 ⟨B4, bn4, bc4, rfl, k4_8, hb8⟩
  have hx8 := hx7.below hb8
  have hps8 := hps7.step hb8
  have k1_8 := k1_7.step hb8
  have k2_8 := k2_7.step hb8
  have k3_8 := k3_7.step hb8
  have hbb8 := hbb7.trans (hb8.mono hbb7.size)
  clear hx7 hps7 hb8 hbb7 k1_7 k2_7 k3_7
  have n1 : bn1 = (ixs x y 15).length := k1_8.len.trans (chs_len2 _ _ _)
  have n2 : bn2 = bn1 := by rw [n1]; exact (k2_8.len.trans (chs_len2 _ _ _)).trans (by rw [hbk])
  have n3 : bn3 = (ixs x z 15).length := k3_8.len.trans (chs_len2 _ _ _)
  have n4 : bn4 = (ixs z y 15).length := k4_8.len.trans (chs_len2 _ _ _)
  subst n2
  rw [← n3, ← n4, ← n1] at hway
  rw [← n1] at hwl
  rw [← n3] at hwl1
  rw [← n4] at hwl2
  have HN1 := Lib.hid n1
  have HL3 := Lib.hid n3
  have HL4 := Lib.hid n4
  clear n1 n3 n4 hx8 hps8 HT1 HT2 HT3 HT4
  have eN : (((bn2 : Nat) : Int) != ((bn2 : Nat) : Int)) = false := by simp
  have K1 := Lib.hid k1_8
  have K2 := Lib.hid k2_8
  have K3 := Lib.hid k3_8
  have K4 := Lib.hid k4_8
  clear k1_8 k2_8 k3_8 k4_8
  go_wp2_with fail
  clear eN
  go_loopw [25] (fun i wr => ∃ k : Nat, k ≤ bn2 ∧ i = .int .i64 (k : Int) ∧ Below w8.heap.size w8 wr) (fun i _ => bn2 - (intOf i).toNat)
  case atStart => exact ⟨0, by omega, rfl, Below.refl _ _⟩
  case round =>
    obtain ⟨k, hk, rfl, hbr⟩ := hrel
    by_cases hk2 : k < bn2
    · have hki : k < (ixs x y 15).length := by rw [← HN1.out]; exact hk2
      have hkj : k < (ixs y x 15).length := by rw [hbk]; exact hki
      obtain ⟨p, rfl, -, p0, p1⟩ := krow_at (K1.out.step hbr).row (k := k) (by rw [chs_len2]; exact hki)
      obtain ⟨q, rfl, -, q0, q1⟩ := krow_at (K2.out.step hbr).row (k := k) (by rw [chs_len2]; exact hkj)
      rw [chs_get x y 15 k _ hki] at p0 p1
      rw [chs_get y x 15 k _ hkj] at q0 q1
      have hsame : (ixs y x 15)[k] = (ixs x y 15)[k] := by simp only [hbk]
      rw [hsame] at q0 q1
      have hne := (ixs_get x y 15 k hki).2
      dsimp only at p0 p1 q0 q1
      generalize (ixs x y 15)[k] = j at *
      clear hsame
      have p1' : wr.cell? ⟨(p.add (k * 2)).block, (p.add (k * 2)).off + 1, none⟩ = some (.bool (y.testBit j)) := by rw [← p1, ← add_add]; rfl
      have q1' : wr.cell? ⟨(q.add (k * 2)).block, (q.add (k * 2)).off + 1, none⟩ = some (.bool (x.testBit j)) := by rw [← q1, ← add_add]; rfl
      clear p1 q1 hbk
      have eb : (y.testBit j == x.testBit j) = false := by cases hh : y.testBit j <;> cases hg : x.testBit j <;> first | rfl | (exfalso; apply hne; rw [hh, hg])
      have ei : ((j : Int) != (j : Int)) = false := by simp
      generalize y.testBit j = yb at *
      generalize x.testBit j = xb at *
      have b1 : (k : Int) < (bn2 : Int) := by omega
      have b2 : (0 : Int) ≤ (k : Int) := by omega
      have bk2 : bn2 ≤ 15 := hwl
      go_wp2_with fail
      go_quiet (fail)
      have hbq : Below w8.heap.size w8 (wr.drewN nq) := ⟨hbr.os, hbr.tape, hbr.output, hbr.size, hbr.block⟩
      go_wp2_with fail
      exact ⟨⟨k + 1, by omega, by go_num, hbq⟩, by simp [intOf]; omega⟩
    · obtain rfl : k = bn2 := by omega
      have k3 := K3.out.step hbr
      have k4 := K4.out.step hbr
      have l3 := HL3.out
      have l4 := HL4.out
      have hl3 : (chs x z 15).length ≤ 15 := chs_len _ _ _
      have hl4 : (chs z y 15).length ≤ 15 := chs_len _ _ _
      have HL := Lib.hid (show (chs x z 15 ++ chs z y 15).length ≤ 30 by rw [List.length_append]; omega)
      have hbw := hbb8.trans (hbr.mono hbb8.size)
      clear l3 l4 hbr hbb8
      generalize chs x z 15 = P3 at *
      generalize chs z y 15 = P4 at *
      go_wp2_with (first
        | (at_builtin; refine wpList_append_ks _ rfl (.const (.slice none 0 0)) (.tmp 132) rfl wr.heap.size (.slice none 0 0) [] rfl KOwn.nil P3 B3 bn3 bc3 rfl k3 (by simp; omega) (Nat.le_refl _) ?_; intro v1 u1 ho1 hg1; have hb1 := (Below.refl wr.heap.size wr).grown hg1 (Nat.le_refl _) (fun k hk => by cases hk); have k41 := k4.step hb1)
        | (at_builtin; refine wpList_append_ks _ rfl (.tmp 133) (.tmp 134) rfl wr.heap.size v1 ([] ++ P3) rfl ho1 P4 B4 bn4 bc4 rfl k41 (by simp; omega) hb1.size ?_; intro v2 u2 ho2 hg2; refine Hid.out ?_))
      refine Lib.hid ?_
      have hb2 := hb1.grown hg2 hb1.size (fun k hk => (KOwn.blk ho1 hk).1)
      rw [List.nil_append] at ho2
      obtain ⟨MA, mn, mc, rfl, hms⟩ := ho2.sl
      have hbw2 := hbw.trans (hb2.mono hbw.size)
      have HCALL := Lib.hid (Zb.apply_d x (by omega) MA mn mc _ u2 (Zb.up_sl hms))
      rw [HAP.out] at HCALL
      clear ho1 hg1 hb1 k41 k3 k4 hb2 ho2 hms hg2 HL hl3 hl4 HAP K1 K2 K3 K4
      go_wp2_with fail
      refine HCALL.out.mono ?_
      rintro e u3 ⟨rfl, hu3⟩
      have hbw3 := hbw2.trans (hu3.mono hbw2.size)
      clear hbw hbw2 hu3 HCALL
      have e1 : decide ((k : Int) ≤ (bn3 : Int) + (bn4 : Int)) = true := decide_eq_true (by omega)
      have e2 : ((bn3 : Int) + (bn4 : Int) - (k : Int)) = 2 * (dd : Int) := by omega
      go_wp2_with fail
      refine (haw.out _).mono ?_
      rintro e u4 ⟨rfl, hu4⟩
      go_wp2_with fail
      go_ret
      exact ⟨rfl, hbw3.trans (hu4.mono hbw3.size)⟩

theorem cells_u8 : Try.prog.cellsOf 5 = 1 := by kernel_rfl
theorem cells_int : Try.prog.cellsOf 3 = 1 := by kernel_rfl
theorem own : ownKnob Try.prog.godebug = none := by kernel_rfl
theorem laidOut : laidOutB Try.prog = true := by kernel_rfl
theorem contract (H : Type) (enc : TypeId × Value → H) (W : World) (base : Nat) (args : Array Value) (ds gs : List (DataW H)) (before : List MemPlace)
    (hval : ∀ (j : Nat) t v, Try.f11.params[j]? = some t → args[j]? = some v → Value.okWide Try.prog W .any base t v)
    (hW : DataW.Whole enc Try.prog Try.f11.params.toList Rows.discreteWaySpec.vars false W args.toList ds gs before) :
    Calls Try.prog 11 args W fun e W' => ∃ v, e = .returned v ∧ Rows.discreteWaySpec.post enc Try.prog Try.f11 false true false false W args v W' := by
  have hW' := hW
  obtain ⟨p, q, hA0, hV, rfl, hfz, hnd⟩ := hW
  have hA : DataW.TrodAll enc Try.prog W 0 (fun _ => true) true Try.f11.params.toList args.toList ds p := hA0
  rw [Try.params11] at hA hval
  obtain ⟨v0, vs0, d0, ds0, p0, q0, hargs, rfl, rfl, h0, r0⟩ := trodAll_cons hA
  obtain ⟨v1, vs1, d1, ds1, p1, q1, rfl, rfl, rfl, h1, r1⟩ := trodAll_cons r0
  obtain ⟨v2, vs2, d2, ds2, p2, q2, rfl, rfl, rfl, h2, r2⟩ := trodAll_cons r1
  obtain ⟨v3, vs3, d3, ds3, p3, q3, rfl, rfl, rfl, h3, r3⟩ := trodAll_cons r2
  obtain ⟨rfl, rfl, rfl⟩ := trodAll_nil r3
  obtain rfl : args = #[v0, v1, v2, v3] := by cases args; simp_all
  obtain ⟨A0, n0, c0, l0, rfl, hn0, hr0, hw0, hc0, hm0, hk0⟩ := open_int_list Try.underlying22 Try.underlying3 cells_int (hval 0 22 v0 rfl rfl) h0
  obtain ⟨a1, rfl, -, -, w1⟩ := open_int Try.underlying38 (hval 1 38 v1 rfl rfl) h1
  obtain ⟨a2, rfl, -, -, w2⟩ := open_int Try.underlying38 (hval 2 38 v2 rfl rfl) h2
  obtain ⟨a3, rfl, -, -, w3⟩ := open_int Try.underlying38 (hval 3 38 v3 rfl rfl) h3
  clear hA0
  refine (walk A0 n0 c0 l0 hn0 hw0 hc0 hm0 hk0 a1 (bounds_u16 w1) a2 (bounds_u16 w2) a3 (bounds_u16 w3) W hr0).mono fun e W' ⟨he, hb⟩ => ?_
  subst he
  exact ⟨_, rfl, law_post laidOut (types_fit (by kernel_rfl)) (by kernel_rfl) Try.underlying4 rfl (fun xs hx => by
    match xs, hx with
    | [_, _, _, _], _ => rfl) hW' hb⟩

theorem lifted (os : Os) (started : os.Started) (H : Type) (enc : TypeId × Value → H) :
    ReturnsInHanded {} Try.checked os 11 .any (Rows.discreteWaySpec.pre6 enc Try.prog Try.f11 Rows.discreteWayRow.domain false) (Rows.discreteWaySpec.post enc Try.prog Try.f11 false true false false) := by
  refine returnsInHanded_of_change (C := Try.checked) own started (by kernel_rfl) Try.func11
    (ChangeSpec.witness6 (enc := enc) (C := Try.checked) false ⟨#[], #[.slice none 0 0, .int .u16 0, .int .u16 0, .int .u16 0], []⟩ 8 (by kernel_rfl) (by kernel_rfl) (by kernel_rfl) (by kernel_rfl)) ?_
  intro W base args ds gs before hval hW _ _
  exact contract H enc W base args ds gs before hval hW

theorem proved : Rows.DiscreteWaySaid :=
  OpenClaim.holds_of_wide 11 Try.f11 rfl rfl rfl rfl rfl rfl rfl ⟨rfl, rfl, rfl, rfl, rfl⟩ rfl rfl rfl rfl rfl (by kernel_rfl) Try.func11 (by kernel_rfl)
    (of_decide_eq_true (by kernel_rfl)) (by unfold Func.isWrapper; first | (rw [if_pos (by decide +kernel)]; kernel_rfl) | (rw [if_neg (by decide +kernel)]; exact ⟨rfl, rfl⟩))
    (fun os started H enc _ => lifted os started H enc)
end Go.Proofs.Ytafoaonkjcfbaaa.discreteWay
