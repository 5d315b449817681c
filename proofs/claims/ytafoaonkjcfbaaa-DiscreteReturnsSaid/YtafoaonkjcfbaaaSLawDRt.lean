/- DiscreteReturns holds for every input: the changes of a step lead from the state before to the state behind, for discrete sensors and for thresholds, and there are as many as bits that differ. No condition. -/
import Derived.Test.YtafoaonkjcfbaaaS46
import Derived.Test.YtafoaonkjcfbaaaS40
import Derived.Test.YtafoaonkjcfbaaaS38
import Derived.Test.YtafoaonkjcfbaaaS42
import Derived.Test.YtafoaonkjcfbaaaS39
import Derived.Test.YtafoaonkjcfbaaaS41
namespace Go.Proofs.Ytafoaonkjcfbaaa.discreteReturns
open Go.RowKit Go.ChangeShapes Go.WideShapes Go.ChangeAt Go.Proofs.Ytafoaonkjcfbaaa.Mem Go.Proofs.Ytafoaonkjcfbaaa.F2p Go.Proofs.Ytafoaonkjcfbaaa.C4l Go.Proofs.Ytafoaonkjcfbaaa.Ta Go.Proofs.Ytafoaonkjcfbaaa.Tb Go.Proofs.Ytafoaonkjcfbaaa.Law Go.Proofs.Ytafoaonkjcfbaaa.Made Go.Proofs.Ytafoaonkjcfbaaa.D5 Go.Proofs.Ytafoaonkjcfbaaa.Tl Go.Proofs.Ytafoaonkjcfbaaa.Ya
set_option maxRecDepth 100000
set_option maxHeartbeats 2000000

theorem walk (A : Option Addr) (n c : Nat) (l : List Int) (hn : n = l.length) (hw : ∀ x ∈ l, -9223372036854775808 ≤ x ∧ x ≤ 9223372036854775807) (hc : n ≤ c) (hm : c ≤ maxLen) (_hA : A = none → c = 0)
    (a : Int) (ha : 0 ≤ a ∧ a ≤ 65535) (b : Int) (hb : 0 ≤ b ∧ b ≤ 65535) (low : Int) (hd : 0 ≤ low ∧ low ≤ 255)
    (w : World) (hr : IRow w.heap.size w A l) :
    Calls Try.prog 10 #[.slice A n c, .int .u16 a, .int .u16 b, .int .u8 low] w fun e w' => e = .returned (.bool true) ∧ Below w.heap.size w w' := by
  have hnm : n ≤ maxLen := by omega
  obtain ⟨a, rfl⟩ := Int.eq_ofNat_of_zero_le ha.1
  obtain ⟨b, rfl⟩ := Int.eq_ofNat_of_zero_le hb.1
  obtain ⟨low, rfl⟩ := Int.eq_ofNat_of_zero_le hd.1
  have ha8 : a < 65536 := by omega
  have hb8 : b < 65536 := by omega
  have hd8 : low < 256 := by omega
  have HN := Lib.hid hn
  have HW := Lib.hid hw
  clear hn hw hc hm _hA ha hb hd
  have haw := Lib.hid (fun u => Ya.awake13 u)
  go_enter Try.func10, Try.ntmps10
  by_cases h6 : n ≤ 600
  case neg =>
    have d6 : decide (n ≤ 600) = false := decide_eq_false h6
    go_wp2_with fail
    refine (Made.lightmade_any A n c _ hnm).mono ?_
    rintro e w' ⟨rfl, rfl⟩
    rw [d6]
    go_wp2_with fail
    refine (haw.out _).mono ?_
    rintro e w3 ⟨rfl, hb3⟩
    go_wp2_with fail
    go_ret
    exact ⟨rfl, hb3⟩
  have d6 : decide (n ≤ 600) = true := decide_eq_true h6
  go_wp2_with fail
  refine (Made.lightmade_any A n c _ hnm).mono ?_
  rintro e w' ⟨rfl, rfl⟩
  rw [d6]
  go_wp2_with fail
  refine (Made.roll_any A n c w).mono ?_
  rintro e w1 ⟨rfl, rfl⟩
  have hdz := Dz.start A n c l w hr HN.out HW.out (by omega)
  have hb1 : Below w.heap.size w (w.alloc (.cells #[.slice A n c, .int .i64 0] 105)) := (Below.refl _ _).alloc (Nat.le_refl _) _
  have hs1 : w.heap.size < (w.alloc (.cells #[.slice A n c, .int .i64 0] 105)).heap.size := by rw [World.size_alloc]; omega
  generalize w.alloc (.cells #[.slice A n c, .int .i64 0] 105) = w1 at *
  go_wp2_with fail
  refine (digital_any 1 hdz).mono ?_
  rintro e w2 ⟨s, V, rfl, hv, -, -, hds, hown, hdz2, hg2⟩
  obtain ⟨PA, pn, pc, rfl, -⟩ := hown.sl
  have hnms := name_le hv
  have hb2 : Below w.heap.size w w2 := hb1.grown hg2 hb1.size (fun k hk => by injection hk; omega)
  have hs2 : w.heap.size < w2.heap.size := hdz2.lt
  clear hg2 hb1 hdz
  go_wp2_with fail
  refine (analog_any 2 hdz2).mono ?_
  rintro e w3 ⟨p, V, rfl, hvp, -, -, hdp, hownp, hdz3, hg3⟩
  obtain ⟨DA, dn, dc, rfl, -⟩ := hownp.sl
  have hown3 := D5.pown_kept hown hg3 hs1
  have hb3 := hb2.grown hg3 hb2.size (fun k hk => by injection hk; omega)
  clear hdz2 hb2 hg3 hown
  have z8 := (Bx.zero w3).alloc (.cells #[.int .u8 0, .int .u8 0, .int .u8 0, .string ⟨#[]⟩, .int .u8 0, .int .u8 0, .bool false, .int .i64 0, .bool false, .int .i64 0, .int .i64 0, .int .i64 0, .int .i64 0, .slice none 0 0, .int .u8 0, .int .u8 0, .int .u8 0, .int .u8 0, .int .u8 0, .int .u8 0, .int .u8 0, .int .u8 0, .int .u8 0, .int .u16 0, .int .u16 0, .int .u16 0, .bool false, .int .i64 0] 59)
  have z9 := Bx.zero (w3.alloc (.cells #[.int .u8 0, .int .u8 0, .int .u8 0, .string ⟨#[]⟩, .int .u8 0, .int .u8 0, .bool false, .int .i64 0, .bool false, .int .i64 0, .int .i64 0, .int .i64 0, .int .i64 0, .slice none 0 0, .int .u8 0, .int .u8 0, .int .u8 0, .int .u8 0, .int .u8 0, .int .u8 0, .int .u8 0, .int .u8 0, .int .u8 0, .int .u16 0, .int .u16 0, .int .u16 0, .bool false, .int .i64 0] 59))
  rw [World.size_alloc] at z9
  have hba := ((Below.refl w3.heap.size w3).alloc (Nat.le_refl _) (.cells #[.int .u8 0, .int .u8 0, .int .u8 0, .string ⟨#[]⟩, .int .u8 0, .int .u8 0, .bool false, .int .i64 0, .bool false, .int .i64 0, .int .i64 0, .int .i64 0, .int .i64 0, .slice none 0 0, .int .u8 0, .int .u8 0, .int .u8 0, .int .u8 0, .int .u8 0, .int .u8 0, .int .u8 0, .int .u8 0, .int .u8 0, .int .u16 0, .int .u16 0, .int .u16 0, .bool false, .int .i64 0] 59)).alloc (by simp) (.cells #[.int .u8 0, .int .u8 0, .int .u8 0, .string ⟨#[]⟩, .int .u8 0, .int .u8 0, .bool false, .int .i64 0, .bool false, .int .i64 0, .int .i64 0, .int .i64 0, .int .i64 0, .slice none 0 0, .int .u8 0, .int .u8 0, .int .u8 0, .int .u8 0, .int .u8 0, .int .u8 0, .int .u8 0, .int .u8 0, .int .u8 0, .int .u16 0, .int .u16 0, .int .u16 0, .bool false, .int .i64 0] 59)
  have o5 : POwn w1.heap.size ((w3.alloc (.cells #[.int .u8 0, .int .u8 0, .int .u8 0, .string ⟨#[]⟩, .int .u8 0, .int .u8 0, .bool false, .int .i64 0, .bool false, .int .i64 0, .int .i64 0, .int .i64 0, .int .i64 0, .slice none 0 0, .int .u8 0, .int .u8 0, .int .u8 0, .int .u8 0, .int .u8 0, .int .u8 0, .int .u8 0, .int .u8 0, .int .u8 0, .int .u16 0, .int .u16 0, .int .u16 0, .bool false, .int .i64 0] 59)).alloc (.cells #[.int .u8 0, .int .u8 0, .int .u8 0, .string ⟨#[]⟩, .int .u8 0, .int .u8 0, .bool false, .int .i64 0, .bool false, .int .i64 0, .int .i64 0, .int .i64 0, .int .i64 0, .slice none 0 0, .int .u8 0, .int .u8 0, .int .u8 0, .int .u8 0, .int .u8 0, .int .u8 0, .int .u8 0, .int .u8 0, .int .u8 0, .int .u16 0, .int .u16 0, .int .u16 0, .bool false, .int .i64 0] 59)) (.slice PA pn pc) s.c.p := World.ownsRow.alloc (World.ownsRow.alloc hown3 _) _
  have ob5 : POwn w2.heap.size ((w3.alloc (.cells #[.int .u8 0, .int .u8 0, .int .u8 0, .string ⟨#[]⟩, .int .u8 0, .int .u8 0, .bool false, .int .i64 0, .bool false, .int .i64 0, .int .i64 0, .int .i64 0, .int .i64 0, .slice none 0 0, .int .u8 0, .int .u8 0, .int .u8 0, .int .u8 0, .int .u8 0, .int .u8 0, .int .u8 0, .int .u8 0, .int .u8 0, .int .u16 0, .int .u16 0, .int .u16 0, .bool false, .int .i64 0] 59)).alloc (.cells #[.int .u8 0, .int .u8 0, .int .u8 0, .string ⟨#[]⟩, .int .u8 0, .int .u8 0, .bool false, .int .i64 0, .bool false, .int .i64 0, .int .i64 0, .int .i64 0, .int .i64 0, .slice none 0 0, .int .u8 0, .int .u8 0, .int .u8 0, .int .u8 0, .int .u8 0, .int .u8 0, .int .u8 0, .int .u8 0, .int .u8 0, .int .u16 0, .int .u16 0, .int .u16 0, .bool false, .int .i64 0] 59)) (.slice DA dn dc) p.c.p := World.ownsRow.alloc (World.ownsRow.alloc hownp _) _
  clear hown3 hownp
  go_wp2_with (refine wpList_store_bx rfl (.tmp 10) (.tmp 32) rfl w3.heap.size s noSn (.slice PA pn pc) (.slice none 0 0) rfl rfl rfl z8 ?_; intro w4 hx4 hg4; refine Hid.out ?_)
  refine Lib.hid ?_
  have z9 := z9.kept hg4 (fun e => by injection e; omega)
  have o6 := Tl.pown_far o5 z8 hg4
  have ob6 := Tl.pown_far ob5 z8 hg4
  have hba := hba.grown hg4 hba.size (fun k hk => by injection hk; omega)
  clear z8 o5 ob5 hg4
  go_wp2_with (refine wpList_store_bx rfl (.tmp 11) (.tmp 34) rfl (w3.heap.size + 1) p noSn (.slice DA dn dc) (.slice none 0 0) rfl rfl rfl z9 ?_; intro w5 hy5 hg5; refine Hid.out ?_)
  refine Lib.hid ?_
  have hx5 := hx4.kept hg5 (fun e => by injection e; omega)
  have o7 := Tl.pown_far o6 z9 hg5
  have hownp5 := Tl.pown_far ob6 z9 hg5
  have hba := hba.grown hg5 hba.size (fun k hk => by injection hk; omega)
  have hdz5 := hdz3.below hba hdz3.lt
  have hbb5 := hb3.trans (hba.mono hb3.size)
  have hF := hdz3.lt
  obtain ⟨F10, hF10⟩ : ∃ F, F = w3.heap.size := ⟨_, rfl⟩
  obtain ⟨F11, hF11⟩ : ∃ F, F = w3.heap.size + 1 := ⟨_, rfl⟩
  rw [← hF11] at hy5 ⊢
  rw [← hF10] at hx5 ⊢
  have hlo10 : w.heap.size < F10 ∧ w.heap.size < F11 := by omega
  clear hF10 hF11 hF z9 o6 ob6 hba hg5 hx4 hb3 hdz3
  have hps := psl_own o7
  clear o7
  have hS15 := vs_st hv hds
  have m1 := and_u16m a s.st ha8
  have m2 := and_u16m b s.st hb8
  rw [Nat.mod_eq_of_lt (show s.st < 65536 by omega)] at m1 m2
  have hx := and_lt15 (a := a) hS15
  have hy := and_lt15 (a := b) hS15
  have i1 := and_in a b s.st
  have ex := xor_u16 a b ha8 hb8
  have exl : a ^^^ b < 65536 := Nat.xor_lt_two_pow (n := 16) (by omega) (by omega)
  have em := and_u16m (a ^^^ b) s.st exl
  rw [Nat.mod_eq_of_lt (show s.st < 65536 by omega), and_xor] at em
  have hmp := mask_lt hvp hdp
  have ea := and_u8 low p.mx.toNat hd8 (by omega)
  have hinp := and_in_mask low p.mx.toNat
  have hwl : low &&& p.mx.toNat < 64 := Nat.and_lt_two_pow (n := 6) _ (by omega)
  generalize a &&& s.st = x at *
  generalize b &&& s.st = y at *
  generalize a ^^^ b = XX at *
  generalize low &&& p.mx.toNat = was at *
  have hXl : x ^^^ y < 2 ^ 15 := Nat.xor_lt_two_pow (n := 15) hx hy
  have HPC := Lib.hid (ixs_pc x y 15)
  generalize x ^^^ y = X at *
  have HT1 := Lib.hid fun (u : World) (hu : PSl u PA pn pc s.c.p) => step_w s hv hds PA pn pc x y hx hy i1 hnms u hu
  have HAP := Lib.hid (Zb.apl_step x y 15 (by omega) hx hy)
  have HTS := Lib.hid fun (r : UInt8) (u : World) (hu : PSl u DA dn dc p.c.p) => step_v p hvp hdp DA dn dc was (by omega) hinp r u hu
  have c23 : w5.cell? ⟨F10, 23, none⟩ = some (.int .u16 (s.st : Int)) := hx5.c 23
  clear i1 hv hds hS15 d6 hinp hvp hdp
  have EM := Lib.hid em
  have EX := Lib.hid ex
  clear em ex
  go_wp2_with (refine wpList_load_bx rfl (.tmp 10) rfl _ _ _ rfl hx5 ?_)
  refine (HT1.out _ hps).mono ?_
  rintro e w6 ⟨B1, bn1, bc1, rfl, hm6, hb6⟩
  have hx6 := hx5.below hb6
  have hy6 := hy5.below hb6
  have hdz6 := hdz5.below hb6 hdz5.lt
  have hownp6 := pown_below hownp5 hb6
  have hbb6 := hbb5.trans (hb6.mono hbb5.size)
  clear hx5 hy5 hdz5 hownp5 hb6 hbb5 hps c23 HT1
  have c23 : w6.cell? ⟨F10, 23, none⟩ = some (.int .u16 (s.st : Int)) := hx6.c 23
  have HCALL := Lib.hid (Zb.apply_d x (by omega) B1 bn1 bc1 _ w6 (Zb.up_sl hm6))
  rw [HAP.out] at HCALL
  have hn1 : bn1 = Ya.pc X 15 := (hm6.len.trans (chs_len2 _ _ _)).trans HPC.out
  have HN1 := Lib.hid hn1
  clear HAP hn1 HPC
  go_wp2_with fail
  refine HCALL.out.mono ?_
  rintro e w7 ⟨rfl, hb7⟩
  have hx7 := hx6.below hb7
  have hy7 := hy6.below hb7
  have hdz7 := hdz6.below hb7 hdz6.lt
  have hownp7 := pown_below hownp6 hb7
  have hbb7 := hbb6.trans (hb7.mono hbb6.size)
  clear hx6 hy6 hdz6 hownp6 hb7 hbb6 c23 HCALL hm6
  have c14 : w7.cell? ⟨F11, 14, none⟩ = some (.int .u8 (p.mx.toNat : Int)) := hy7.c 14
  go_wp2_with fail
  clear c14 ea
  have hx7 : Bx w7.drew F10 s (.slice PA pn pc) := hx7
  have hy7 : Bx w7.drew F11 p (.slice DA dn dc) := hy7
  have hdz7 := dz_drew hdz7
  have hownp7 : POwn w2.heap.size w7.drew (.slice DA dn dc) p.c.p := hownp7
  have hbb7 := below_drew hbb7
  refine wp_region_held_drew (S := (fun W => Bx W F11 p (.slice DA dn dc))) (by kernel_rfl) ?_ (fun hHeld => ?_)
  · (try dsimp only); exact hy7
  refine wpAnyH_take (i := 0) (oi := _) (v := ?vq1_0) rfl (by kernel_rfl) (by kernel_rfl) (by kernel_rfl) (fun _ _ _ h => h) (Or.inl ⟨rfl, ?yq1_0⟩) (by assumption) ?_
  case yq1_0 => intro w hSw; (try dsimp only at hSw); ((refine exec_load_bx2 (.tmp 11) ?_ ?_ hSw) <;> rfl)
  (try simp only [Act.put, List.getElem_toArray, List.getElem_cons_zero, List.setIfInBounds_toArray, List.set_cons_zero, List.set_cons_succ])
  refine wpAnyH_take (i := 1) (oi := _) (v := ?vq2_1) rfl (by kernel_rfl) (by kernel_rfl) (by kernel_rfl) (fun _ _ _ h => h) (Or.inl ⟨rfl, ?yq2_1⟩) (by assumption) ?_
  case yq2_1 => intro w hSw; (try dsimp only at hSw); go_simp; (try with_reducible rfl)
  (try simp only [Act.put, List.getElem_toArray, List.getElem_cons_succ, List.getElem_cons_zero, List.setIfInBounds_toArray, List.set_cons_zero, List.set_cons_succ])
  refine wpAnyH_take (i := 2) (oi := _) (v := ?vq3_2) rfl (by kernel_rfl) (by kernel_rfl) (by kernel_rfl) (fun _ _ _ h => h) (Or.inl ⟨rfl, ?yq3_2⟩) (by assumption) ?_
  case yq3_2 => intro w hSw; (try dsimp only at hSw); go_simp; (try with_reducible rfl)
  (try simp only [Act.put, List.getElem_toArray, List.getElem_cons_succ, List.getElem_cons_zero, List.setIfInBounds_toArray, List.set_cons_zero, List.set_cons_succ])
  refine wpAnyH_take (i := 3) (oi := _) (v := ?vq4_3) rfl (by kernel_rfl) (by kernel_rfl) (by kernel_rfl) (fun _ _ _ h => h) (Or.inl ⟨rfl, ?yq4_3⟩) (by assumption) ?_
  case yq4_3 => intro w hSw; (try dsimp only at hSw); ((refine exec_load_bx2 (.tmp 11) ?_ ?_ hSw) <;> rfl)
  (try simp only [Act.put, List.getElem_toArray, List.getElem_cons_succ, List.getElem_cons_zero, List.setIfInBounds_toArray, List.set_cons_zero, List.set_cons_succ])
  refine wpAnyH_ready (rs := [4]) (by kernel_rfl) (by simp) ?_
  refine AllReadyH.cons (o := _) rfl (fun K hK => ?_) AllReadyH.nil
  go_simp
  go_at_call 49; refine (near_q p (.slice DA dn dc) hdz7).mono ?_; rintro e u8 ⟨X8, rfl, -, hgu⟩
  have hy8 := hy7.kept hgu (fun e => by injection e; omega)
  have hx8 := hx7.kept hgu (fun e => by injection e; omega)
  have hpb8 := D5.pown_kept hownp7 hgu hs2
  have hbb8 := hbb7.grown hgu hbb7.size (fun k hk => by injection hk; omega)
  clear hy7 hx7 hownp7 hbb7 hdz7 hgu
  refine hK.out _ _ ?_ (fun hHeld => ?_)
  · (try dsimp only); exact hy8
  clear hK K
  (try simp only [Act.put, List.getElem_toArray, List.getElem_cons_succ, List.getElem_cons_zero, List.setIfInBounds_toArray, List.set_cons_zero, List.set_cons_succ])
  refine wpAnyH_ready (rs := [5]) (by kernel_rfl) (by simp) ?_
  refine AllReadyH.cons (o := _) rfl (fun K hK => ?_) AllReadyH.nil
  go_simp
  go_at_call 48; refine (HTS.out X8 _ (psl_own hpb8)).mono ?_; rintro e u9 ⟨⟨v9, rfl, ho9⟩, hb9⟩
  have hy9 := hy8.below hb9
  refine hK.out _ _ ?_ (fun hHeld => ?_)
  · (try dsimp only); exact hy9
  clear hK K
  (try simp only [Act.put, List.getElem_toArray, List.getElem_cons_succ, List.getElem_cons_zero, List.setIfInBounds_toArray, List.set_cons_zero, List.set_cons_succ])
  refine wpAnyH_take (i := 6) (oi := _) (v := ?vq5_6) rfl (by kernel_rfl) (by kernel_rfl) (by kernel_rfl) (fun _ _ _ h => h) (Or.inl ⟨rfl, ?yq5_6⟩) (by assumption) ?_
  case yq5_6 => intro w hSw; (try dsimp only at hSw); go_simp; (try with_reducible rfl)
  (try simp only [Act.put, List.getElem_toArray, List.getElem_cons_succ, List.getElem_cons_zero, List.setIfInBounds_toArray, List.set_cons_zero, List.set_cons_succ])
  refine wpAnyH_take (i := 7) (oi := _) (v := ?vq6_7) rfl (by kernel_rfl) (by kernel_rfl) (by kernel_rfl) (fun _ _ _ h => h) (Or.inl ⟨rfl, ?yq6_7⟩) (by assumption) ?_
  case yq6_7 => intro w hSw; (try dsimp only at hSw); go_simp; (try with_reducible rfl)
  (try simp only [Act.put, List.getElem_toArray, List.getElem_cons_succ, List.getElem_cons_zero, List.setIfInBounds_toArray, List.set_cons_zero, List.set_cons_succ])
  refine wpAnyH_take (i := 8) (oi := _) (v := ?vq7_8) rfl (by kernel_rfl) (by kernel_rfl) (by kernel_rfl) (fun _ _ _ h => h) (Or.inl ⟨rfl, ?yq7_8⟩) (by assumption) ?_
  case yq7_8 => intro w hSw; (try dsimp only at hSw); go_simp; (try with_reducible rfl)
  (try simp only [Act.put, List.getElem_toArray, List.getElem_cons_succ, List.getElem_cons_zero, List.setIfInBounds_toArray, List.set_cons_zero, List.set_cons_succ])
  refine wpAnyH_take (i := 9) (oi := _) (v := ?vq8_9) rfl (by kernel_rfl) (by kernel_rfl) (by kernel_rfl) (fun _ _ _ h => h) (Or.inl ⟨rfl, ?yq8_9⟩) (by assumption) ?_
  case yq8_9 => intro w hSw; (try dsimp only at hSw); go_simp; (try with_reducible rfl)
  (try simp only [Act.put, List.getElem_toArray, List.getElem_cons_succ, List.getElem_cons_zero, List.setIfInBounds_toArray, List.set_cons_zero, List.set_cons_succ])
  refine wpAnyH_take (i := 10) (oi := _) (v := ?vq9_10) rfl (by kernel_rfl) (by kernel_rfl) (by kernel_rfl) (fun _ _ _ h => h) (Or.inl ⟨rfl, ?yq9_10⟩) (by assumption) ?_
  case yq9_10 => intro w hSw; (try dsimp only at hSw); go_simp; (try with_reducible rfl)
  (try simp only [Act.put, List.getElem_toArray, List.getElem_cons_succ, List.getElem_cons_zero, List.setIfInBounds_toArray, List.set_cons_zero, List.set_cons_succ])
  refine wpAnyH_take (i := 11) (oi := _) (v := ?vq10_11) rfl (by kernel_rfl) (by kernel_rfl) (by kernel_rfl) (fun _ _ _ h => h) (Or.inl ⟨rfl, ?yq10_11⟩) (by assumption) ?_
  case yq10_11 => intro w hSw; (try dsimp only at hSw); go_simp; (try with_reducible rfl)
  (try simp only [Act.put, List.getElem_toArray, List.getElem_cons_succ, List.getElem_cons_zero, List.setIfInBounds_toArray, List.set_cons_zero, List.set_cons_succ])
  refine wpAnyH_take (i := 12) (oi := _) (v := ?vq11_12) rfl (by kernel_rfl) (by kernel_rfl) (by kernel_rfl) (fun _ _ _ h => h) (Or.inl ⟨rfl, ?yq11_12⟩) (by assumption) ?_
  case yq11_12 => intro w hSw; (try dsimp only at hSw); go_simp; (try with_reducible rfl)
  (try simp only [Act.put, List.getElem_toArray, List.getElem_cons_succ, List.getElem_cons_zero, List.setIfInBounds_toArray, List.set_cons_zero, List.set_cons_succ])
  refine wpAnyH_done (by kernel_rfl) ?_ _
  have hbb9 := hbb8.trans (hb9.mono hbb8.size)
  have hx9 := hx8.below hb9
  have hnl := nxt_lt p (C4p.num p.c.s X8) was
  obtain ⟨NA, nn, nc, rfl, hns⟩ := ho9.sl
  have HC2 := Lib.hid (Zb.apply_d was (by omega) NA nn nc _ u9 (Zb.up_sl hns))
  rw [Zb.apl_step was _ 6 (by omega) (by omega) (by omega)] at HC2
  generalize nxt p (C4p.num p.c.s X8) was = N at *
  clear hy9 hy8 hx8 hpb8 hbb8 hb9 ho9 hns HTS hHeld
  have cw : IntKind.u16.wrap ((was : Nat) : Int) = ((was : Nat) : Int) := IntWalk.u16_in _ ⟨by omega, by omega⟩
  have cn : IntKind.u16.wrap ((N : Nat) : Int) = ((N : Nat) : Int) := IntWalk.u16_in _ ⟨by omega, by omega⟩
  have c23 : u9.cell? ⟨F10, 23, none⟩ = some (.int .u16 (s.st : Int)) := hx9.c 23
  go_wp2_with fail
  refine HC2.out.mono ?_
  rintro e w10 ⟨rfl, hb10⟩
  have hx10 := hx9.below hb10
  have hbb10 := hbb9.trans (hb10.mono hbb9.size)
  clear hx9 hbb9 hb10 c23 HC2
  have c23 : w10.cell? ⟨F10, 23, none⟩ = some (.int .u16 (s.st : Int)) := hx10.c 23
  have em := EM.out
  have ex := EX.out
  go_wp2_with fail
  clear em ex c23
  go_loopw [23, 24] (fun v k wr => ∃ r : Nat, r ≤ 15 ∧ v = .int .i64 ((Ya.pc X r : Nat) : Int) ∧ k = .int .u16 ((X / 2 ^ r : Nat) : Int) ∧ wr = w10) (fun _ k _ => (intOf k).toNat)
  case atStart => exact ⟨0, by omega, rfl, by simp, rfl⟩
  case round =>
    obtain ⟨r, hr15, rfl, rfl, rfl⟩ := hrel
    have hYl : X / 2 ^ r < 65536 := Nat.lt_of_le_of_lt (Nat.div_le_self _ _) (by omega)
    have hpb := pc_bit X r
    have hpl := pc_le X r
    have hdd : X / 2 ^ (r + 1) = X / 2 ^ r / 2 := by rw [Nat.pow_succ, Nat.div_div_eq_div_mul]
    by_cases h0 : 0 < X / 2 ^ r
    · have hr : r < 15 := by
        rcases Nat.lt_or_ge r 15 with h | h
        · exact h
        · obtain rfl : r = 15 := by omega
          rw [Nat.div_eq_of_lt hXl] at h0; omega
      have HPB := Lib.hid hpb
      have HDD := Lib.hid hdd
      clear hpb hdd
      generalize X / 2 ^ r = Y at *
      generalize Ya.pc X r = R at *
      have k1 : decide (0 < (Y : Int)) = true := decide_eq_true (by omega)
      obtain ⟨z2, hz2⟩ : ∃ z, z = Y / 2 := ⟨_, rfl⟩
      have k2 : (Y : Int) / 2 = (z2 : Int) := by omega
      have hzl : z2 < Y := by omega
      rw [← hz2] at HDD
      clear hz2
      have k5 : IntKind.u16.wrap (z2 : Int) = (z2 : Int) := IntWalk.u16_in _ ⟨by omega, by omega⟩
      obtain ⟨q, hq⟩ : ∃ q, q = Y % 2 := ⟨_, rfl⟩
      have k3 : (Y : Int) % 2 = (q : Int) := by omega
      have hq2 : q < 2 := by omega
      rw [← hq] at HPB
      clear hq
      have k4 : IntKind.i64.wrap (q : Int) = (q : Int) := IntWalk.i64_in _ ⟨by omega, by omega⟩
      go_wp2_with fail
      exact ⟨⟨r + 1, by omega, by rw [HPB.out]; go_num, by rw [HDD.out], trivial⟩, by simp [intOf]; omega⟩
    · have h0' : X / 2 ^ r = 0 := Nat.eq_zero_of_not_pos h0
      have hend : Ya.pc X 15 = Ya.pc X r := pc_end X r 15 ((Nat.div_eq_zero_iff_lt (Nat.two_pow_pos r)).1 h0') hr15
      have hb1n := HN1.out
      rw [hend] at hb1n
      rw [h0', ← hb1n]
      clear hpb hdd hYl h0 h0' hend hb1n
      have m2' := m2
      have c23 : wr.cell? ⟨F10, 23, none⟩ = some (.int .u16 (s.st : Int)) := hx10.c 23
      rw [show ((0 : Nat) : Int) = 0 from rfl]
      go_wp2_with fail
      refine (haw.out _).mono ?_
      rintro e w11 ⟨rfl, hb11⟩
      go_wp2_with fail
      go_ret
      exact ⟨rfl, hbb10.trans (hb11.mono hbb10.size)⟩

theorem cells_u8 : Try.prog.cellsOf 5 = 1 := by kernel_rfl
theorem cells_int : Try.prog.cellsOf 3 = 1 := by kernel_rfl
theorem own : ownKnob Try.prog.godebug = none := by kernel_rfl
theorem laidOut : laidOutB Try.prog = true := by kernel_rfl
theorem contract (H : Type) (enc : TypeId × Value → H) (W : World) (base : Nat) (args : Array Value) (ds gs : List (DataW H)) (before : List MemPlace)
    (hval : ∀ (j : Nat) t v, Try.f10.params[j]? = some t → args[j]? = some v → Value.okWide Try.prog W .any base t v)
    (hW : DataW.Whole enc Try.prog Try.f10.params.toList Rows.discreteReturnsSpec.vars false W args.toList ds gs before) :
    Calls Try.prog 10 args W fun e W' => ∃ v, e = .returned v ∧ Rows.discreteReturnsSpec.post enc Try.prog Try.f10 false true false false W args v W' := by
  have hW' := hW
  obtain ⟨p, q, hA0, hV, rfl, hfz, hnd⟩ := hW
  have hA : DataW.TrodAll enc Try.prog W 0 (fun _ => true) true Try.f10.params.toList args.toList ds p := hA0
  rw [Try.params10] at hA hval
  obtain ⟨v0, vs0, d0, ds0, p0, q0, hargs, rfl, rfl, h0, r0⟩ := trodAll_cons hA
  obtain ⟨v1, vs1, d1, ds1, p1, q1, rfl, rfl, rfl, h1, r1⟩ := trodAll_cons r0
  obtain ⟨v2, vs2, d2, ds2, p2, q2, rfl, rfl, rfl, h2, r2⟩ := trodAll_cons r1
  obtain ⟨v3, vs3, d3, ds3, p3, q3, rfl, rfl, rfl, h3, r3⟩ := trodAll_cons r2
  obtain ⟨rfl, rfl, rfl⟩ := trodAll_nil r3
  obtain rfl : args = #[v0, v1, v2, v3] := by cases args; simp_all
  obtain ⟨A0, n0, c0, l0, rfl, hn0, hr0, hw0, hc0, hm0, hk0⟩ := open_int_list Try.underlying22 Try.underlying3 cells_int (hval 0 22 v0 rfl rfl) h0
  obtain ⟨a1, rfl, -, -, w1⟩ := open_int Try.underlying38 (hval 1 38 v1 rfl rfl) h1
  obtain ⟨a2, rfl, -, -, w2⟩ := open_int Try.underlying38 (hval 2 38 v2 rfl rfl) h2
  obtain ⟨a3, rfl, -, -, w3⟩ := open_int Try.underlying5 (hval 3 5 v3 rfl rfl) h3
  clear hA0
  refine (walk A0 n0 c0 l0 hn0 hw0 hc0 hm0 hk0 a1 (bounds_u16 w1) a2 (bounds_u16 w2) a3 (bounds_u8 w3) W hr0).mono fun e W' ⟨he, hb⟩ => ?_
  subst he
  exact ⟨_, rfl, law_post laidOut (types_fit (by kernel_rfl)) (by kernel_rfl) Try.underlying4 rfl (fun xs hx => by
    match xs, hx with
    | [_, _, _, _], _ => rfl) hW' hb⟩

theorem lifted (os : Os) (started : os.Started) (H : Type) (enc : TypeId × Value → H) :
    ReturnsInHanded {} Try.checked os 10 .any (Rows.discreteReturnsSpec.pre6 enc Try.prog Try.f10 Rows.discreteReturnsRow.domain false) (Rows.discreteReturnsSpec.post enc Try.prog Try.f10 false true false false) := by
  refine returnsInHanded_of_change (C := Try.checked) own started (by kernel_rfl) Try.func10
    (ChangeSpec.witness6 (enc := enc) (C := Try.checked) false ⟨#[], #[.slice none 0 0, .int .u16 0, .int .u16 0, .int .u8 0], []⟩ 8 (by kernel_rfl) (by kernel_rfl) (by kernel_rfl) (by kernel_rfl)) ?_
  intro W base args ds gs before hval hW _ _
  exact contract H enc W base args ds gs before hval hW

theorem proved : Rows.DiscreteReturnsSaid :=
  OpenClaim.holds_of_wide 10 Try.f10 rfl rfl rfl rfl rfl rfl rfl ⟨rfl, rfl, rfl, rfl, rfl⟩ rfl rfl rfl rfl rfl (by kernel_rfl) Try.func10 (by kernel_rfl)
    (of_decide_eq_true (by kernel_rfl)) (by unfold Func.isWrapper; first | (rw [if_pos (by decide +kernel)]; kernel_rfl) | (rw [if_neg (by decide +kernel)]; exact ⟨rfl, rfl⟩))
    (fun os started H enc _ => lifted os started H enc)
end Go.Proofs.Ytafoaonkjcfbaaa.discreteReturns
