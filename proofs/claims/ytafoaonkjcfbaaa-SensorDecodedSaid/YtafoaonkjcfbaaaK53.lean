/- Walks: the reference's Encode of sensor records. -/
import Derived.Test.YtafoaonkjcfbaaaK39
import Derived.Test.YtafoaonkjcfbaaaK24
import Derived.Test.YtafoaonkjcfbaaaK52
import Derived.Test.YtafoaonkjcfbaaaK31
namespace Go.Proofs.Ytafoaonkjcfbaaa.Va
open Go.RowKit Go.Proofs.Ytafoaonkjcfbaaa.Mem Go.Proofs.Ytafoaonkjcfbaaa.F2p Go.Proofs.Ytafoaonkjcfbaaa.C4l Go.Proofs.Ytafoaonkjcfbaaa.Ta Go.Proofs.Ytafoaonkjcfbaaa.Tb
set_option maxRecDepth 100000
set_option maxHeartbeats 2000000

theorem lit_mod (v : Nat) : lit (v % 18446744073709551616) 2 = lit v 2 := by
  show [UInt8.ofNat (v % 18446744073709551616 % 256), UInt8.ofNat (v % 18446744073709551616 / 256 % 256)] = [UInt8.ofNat (v % 256), UInt8.ofNat (v / 256 % 256)]
  rw [show v % 18446744073709551616 % 256 = v % 256 by omega, show v % 18446744073709551616 / 256 % 256 = v / 256 % 256 by omega]
theorem encr_n (s : Sn) (A : Option Addr) (n cp : Nat) (w : World) (hsl : PSl w A n cp s.c.p) (hnm : s.nm.size ≤ maxLen) (hv : vs s = false) :
    Calls Try.prog 30 #[.agg (cells s (.slice A n cp))] w fun e w' => e = .returned (.tuple #[.slice none 0 0, .int .i64 1]) ∧ Below w.heap.size w w' := by
  have hb0 : Below w.heap.size w (w.alloc (.cells (cells s (.slice A n cp)) 59)) := (Below.refl _ _).alloc (Nat.le_refl _) _
  have hx0 : Bx (w.alloc (.cells (cells s (.slice A n cp)) 59)) w.heap.size s (.slice A n cp) := heap_alloc_new w _
  have HV := Tb.vld10 s A n cp _ (hsl.step hb0) hnm
  rw [hv] at HV
  replace HV := Lib.hid HV
  clear hsl hnm hv
  go_enter Try.func30, Try.ntmps30
  go_wp2_with (refine wpList_load_bx rfl (.tmp 1) rfl _ _ _ rfl hx0 ?_)
  refine HV.out.mono ?_
  rintro e w2 ⟨rfl, hb2⟩
  go_wp2_with fail
  go_ret2
  exact ⟨rfl, hb0.trans (hb2.mono hb0.size)⟩
theorem encr_p (s : Sn) (A : Option Addr) (n cp : Nat) (w : World) (hsl : PSl w A n cp s.c.p) (hv : vs s = true) :
    Calls Try.prog 30 #[.agg (cells s (.slice A n cp))] w fun e w' => ∃ u, e = .returned (.tuple #[u, .int .i64 0]) ∧ Mem.Own w.heap.size w' u (encS s) ∧ Below w.heap.size w w' := by
  have hb0 : Below w.heap.size w (w.alloc (.cells (cells s (.slice A n cp)) 59)) := (Below.refl _ _).alloc (Nat.le_refl _) _
  have hx0 : Bx (w.alloc (.cells (cells s (.slice A n cp)) 59)) w.heap.size s (.slice A n cp) := heap_alloc_new w _
  have hv2 := hv
  unfold vs okn at hv2
  simp only [Bool.and_eq_true, decide_eq_true_eq, bl_len] at hv2
  obtain ⟨⟨⟨hn1, hn16⟩, -⟩, hw, hda⟩ := hv2
  have HVA := Tb.vld10 s A n cp _ (hsl.step hb0) (by unfold maxLen; omega)
  rw [hv] at HVA
  replace HVA := Lib.hid HVA
  have hana : s.d = false → C4p.vld s.c = true := fun hd => by rw [hd] at hda; unfold ana at hda; simp only [Bool.false_eq_true, if_false, Bool.and_eq_true] at hda; exact hda.1
  have hmid : s.d = true → mid s = lit s.st 2 := fun h => by unfold mid; rw [if_pos h]
  have hmid2 : s.d = false → mid s = ext s := fun h => by unfold mid; rw [if_neg (by rw [h]; simp)]
  obtain ⟨k, hk5, hsm⟩ : ∃ k : Nat, k ≤ 5 ∧ s.sm = (k : Int) := by
    unfold wid at hw
    rw [decide_eq_true_eq] at hw
    rcases hw with h | h | h
    · exact ⟨1, by omega, h⟩
    · exact ⟨3, by omega, h⟩
    · exact ⟨5, by omega, h⟩
  have hfl : flg s.d s.on s.sm = 4 * k + (if s.d = true then 1 else 0) + (if s.on = true then 2 else 0) := by unfold flg; rw [hsm]; rfl
  have hHD : head s = [1, s.nu, s.ty, s.un, s.ei, s.en, UInt8.ofNat (flg s.d s.on s.sm), UInt8.ofNat s.nm.size] := rfl
  rw [hfl] at hHD
  have HENC := Lib.hid fun (hd : s.d = false) (u : World) (hu : PSl u A n cp s.c.p) => C4v.enc_r s.c.f s.c.m s.c.b s.c.k1 s.c.k2 s.c.s A n cp s.c.p u hu (hana hd)
  have hel : s.d = false → (C4p.enc s.c).length ≤ 86 := fun hd => enc_most (hana hd)
  have hex : ext s = C4p.enc s.c ++ ([s.mx] ++ (s.raw ++ [s.hl, s.hu])) := rfl
  unfold encS pay
  have HSL := Lib.hid (hsl.step hb0)
  have HM := Lib.hid hmid; have HM2 := Lib.hid hmid2; have HE := Lib.hid hel; have HX := Lib.hid hex
  generalize head s = HS at *
  generalize mid s = MD at *
  generalize ext s = EX at *
  clear hmid hmid2 hel hda hw hv hsl hfl hex hana
  obtain ⟨nu, ty, un, nm, ei, en, d, ⟨f, sg, m, b, k1, k2, p⟩, mx, r0, r1, r2, r3, r4, r5, hl, hu, st, av, dv, on, sm⟩ := s
  dsimp only [Sn.raw] at hn1 hn16 hHD HM HM2 HE HSL hx0 HENC hsm HX ⊢
  subst hsm
  have HHD := Lib.hid hHD
  clear hHD
  generalize C4p.enc ⟨f, sg, m, b, k1, k2, p⟩ = E at *
  rw [show cells ⟨nu, ty, un, nm, ei, en, d, ⟨f, sg, m, b, k1, k2, p⟩, mx, r0, r1, r2, r3, r4, r5, hl, hu, st, av, dv, on, (k : Int)⟩ (.slice A n cp) = #[.int .u8 (nu.toNat : Int), .int .u8 (ty.toNat : Int), .int .u8 (un.toNat : Int), .string nm, .int .u8 (ei.toNat : Int), .int .u8 (en.toNat : Int), .bool d, .int .i64 f, .bool sg, .int .i64 m, .int .i64 b, .int .i64 k1, .int .i64 k2, .slice A n cp, .int .u8 (mx.toNat : Int), .int .u8 (r0.toNat : Int), .int .u8 (r1.toNat : Int), .int .u8 (r2.toNat : Int), .int .u8 (r3.toNat : Int), .int .u8 (r4.toNat : Int), .int .u8 (r5.toNat : Int), .int .u8 (hl.toNat : Int), .int .u8 (hu.toNat : Int), .int .u16 (st : Int), .int .u16 (av : Int), .int .u16 (dv : Int), .bool on, .int .i64 (k : Int)] from rfl] at hb0 ⊢
  obtain ⟨i0, hi, hz0, hz1, hz2⟩ := info_parts info5
  go_enter Try.func30, Try.ntmps30
  go_wp2_with (refine wpList_load_bx rfl (.tmp 1) rfl _ _ _ rfl hx0 ?_)
  refine HVA.out.mono ?_
  rintro e w2 ⟨rfl, hb2⟩
  have hx2 := (hx0.below hb2)
  have HB := hb0.trans (hb2.mono hb0.size)
  have HP := HSL.out.step hb2
  clear hx0 hb0 hb2 HSL HVA
  have hsz8 : IntKind.u8.wrap (nm.size : Int) = (nm.size : Int) := IntWalk.u8_in _ ⟨by omega, by omega⟩
  obtain ⟨F0, hF0⟩ : ∃ F, F = 4 * k := ⟨_, rfl⟩
  have hF0l : F0 ≤ 20 := by omega
  have hfk : IntKind.u8.wrap (4 * (k : Int)) = (F0 : Int) := by rw [show (4 * (k : Int)) = (F0 : Int) by omega]; exact IntWalk.u8_in _ ⟨by omega, by omega⟩
  rw [← hF0] at HHD
  clear hF0
  have cst : IntKind.u64.wrap (st : Int) = ((st % 18446744073709551616 : Nat) : Int) := by rw [Int.natCast_emod]; rfl
  have HLst := Lib.hid (lit_mod st)
  have bst : st % 18446744073709551616 < 18446744073709551616 := Nat.mod_lt _ (by omega)
  generalize st % 18446744073709551616 = stx at *
  have cav : IntKind.u64.wrap (av : Int) = ((av % 18446744073709551616 : Nat) : Int) := by rw [Int.natCast_emod]; rfl
  have HLav := Lib.hid (lit_mod av)
  have bav : av % 18446744073709551616 < 18446744073709551616 := Nat.mod_lt _ (by omega)
  generalize av % 18446744073709551616 = avx at *
  have cdv : IntKind.u64.wrap (dv : Int) = ((dv % 18446744073709551616 : Nat) : Int) := by rw [Int.natCast_emod]; rfl
  have HLdv := Lib.hid (lit_mod dv)
  have bdv : dv % 18446744073709551616 < 18446744073709551616 := Nat.mod_lt _ (by omega)
  generalize dv % 18446744073709551616 = dvx at *
  obtain ⟨z0, z1, z2, z3, z4, z5, z6, z7, z8, z9, z10, z11, z12, z13, z14, z15, z16, z17, z18, z19, z20, z21, z22, z23, z24, z25, z26, z27⟩ := hx2.all
  cases d <;> cases on
  · skip
    have hb3 := (Below.refl w2.heap.size w2).alloc (Nat.le_refl _) (.cells #[.int .u8 1, .int .u8 (nu.toNat : Int), .int .u8 (ty.toNat : Int), .int .u8 (un.toNat : Int), .int .u8 (ei.toNat : Int), .int .u8 (en.toNat : Int), .int .u8 ((F0 : Int)), .int .u8 (nm.size : Int)] 5)
    have hfe : (F0 : Int) = ((F0 : Nat) : Int) := by omega
    have ho3 : Mem.Own w2.heap.size (w2.alloc (.cells #[.int .u8 1, .int .u8 (nu.toNat : Int), .int .u8 (ty.toNat : Int), .int .u8 (un.toNat : Int), .int .u8 (ei.toNat : Int), .int .u8 (en.toNat : Int), .int .u8 ((F0 : Int)), .int .u8 (nm.size : Int)] 5)) (.slice (some ⟨w2.heap.size, 0, none⟩) 8 8) HS := by
      rw [HHD.out]
      refine own_block (heap_alloc_new w2 _) ?_ (Nat.le_refl _) (by unfold maxLen; simp)
      rw [hfe]
      simp [bvs, bv, Nat.mod_eq_of_lt (show nm.size < 256 by omega)]
      omega
    have hslen : HS.length = 8 := by rw [HHD.out]; rfl
    have hx3 := hx2.alloc (.cells #[.int .u8 1, .int .u8 (nu.toNat : Int), .int .u8 (ty.toNat : Int), .int .u8 (un.toNat : Int), .int .u8 (ei.toNat : Int), .int .u8 (en.toNat : Int), .int .u8 ((F0 : Int)), .int .u8 (nm.size : Int)] 5)
    have hz3 := hb3.size
    clear hfe
    go_upto_region 9 with fail
    generalize w2.alloc (.cells #[.int .u8 1, .int .u8 (nu.toNat : Int), .int .u8 (ty.toNat : Int), .int .u8 (un.toNat : Int), .int .u8 (ei.toNat : Int), .int .u8 (en.toNat : Int), .int .u8 ((F0 : Int)), .int .u8 (nm.size : Int)] 5) = w3 at *
    clear z0 z1 z2 z3 z4 z5 z6 z7 z8 z9 z10 z11 z12 z13 z14 z15 z16 z17 z18 z19 z20 z21 z22 z23 z24 z25 z26 z27
    obtain ⟨z0, z1, z2, z3, z4, z5, z6, z7, z8, z9, z10, z11, z12, z13, z14, z15, z16, z17, z18, z19, z20, z21, z22, z23, z24, z25, z26, z27⟩ := hx3.all
    clear hx2 HHD hfk hsz8
    go_wp2_with (at_builtin; go_loud (refine Lib.wpList_append_own_string _ rfl (.tmp 42) (.tmp 44) 60 9 rfl w2.heap.size 5 i0 Try.underlying60 Try.underlying9 hi hz0 hz1 hz2 _ 8 (bvs HS) rfl (by have := ho3; unfold Mem.Own at this; rw [hslen] at this; exact this) nm rfl (by unfold maxLen; omega) (by omega) hz3 ?_); intro v4 w4 ho4 hg4 _; refine Hid.out ?_)
    refine Lib.hid ?_
    have ho4' : Mem.Own w2.heap.size w4 v4 (HS ++ bl nm) := own_of ho4 (by rw [List.length_append, hslen, bl_len]) (by rw [bvs_app]; rfl)
    have hx4 := hx3.grown ho3 hg4
    have hb4 := below_grown hb3 ho3 hg4 hz3
    have hl4 : (HS ++ bl nm).length ≤ 24 := by rw [List.length_append, hslen, bl_len]; omega
    have hz4 := hb4.size
    clear z0 z1 z2 z3 z4 z5 z6 z7 z8 z9 z10 z11 z12 z13 z14 z15 z16 z17 z18 z19 z20 z21 z22 z23 z24 z25 z26 z27
    clear ho4 hx3 hg4 ho3 hz3 hslen hb3
    generalize hqL4 : HS ++ bl nm = L4 at *
    have HQ4 := Lib.hid hqL4
    clear hqL4
    obtain ⟨z0, z1, z2, z3, z4, z5, z6, z7, z8, z9, z10, z11, z12, z13, z14, z15, z16, z17, z18, z19, z20, z21, z22, z23, z24, z25, z26, z27⟩ := hx4.all
    have HBW4 := hb4
    clear hb4
    have hm := HM2.out (by first | exact rfl | exact trivial)
    rw [HX.out] at hm
    have he := HE.out (by first | exact rfl | exact trivial)
    have HC := Lib.hid (HENC.out (by first | exact rfl | exact trivial) w4 (HP.step HBW4))
    go_wp2_with fail
    refine HC.out.mono ?_
    rintro e w5 ⟨u5, rfl, hou5, hb5⟩
    obtain ⟨UA5, un5, uc5, rfl, hsu5⟩ := Sl.of_own hou5
    have hun5 := hsu5.len
    have ho5 := ho4'.below hb5 (Nat.le_refl _)
    have hx5 := hx4.below hb5
    have hbb5 := HBW4.trans (hb5.mono HBW4.size)
    have hz5 := hbb5.size
    clear z0 z1 z2 z3 z4 z5 z6 z7 z8 z9 z10 z11 z12 z13 z14 z15 z16 z17 z18 z19 z20 z21 z22 z23 z24 z25 z26 z27
    clear hou5 hb5 ho4' hx4 HBW4 HC
    obtain ⟨z0, z1, z2, z3, z4, z5, z6, z7, z8, z9, z10, z11, z12, z13, z14, z15, z16, z17, z18, z19, z20, z21, z22, z23, z24, z25, z26, z27⟩ := hx5.all
    have HUN := Lib.hid hun5
    have hune : un5 ≤ 86 := by rw [hun5]; exact he
    clear hun5
    go_wp2_with (at_builtin; go_loud (refine wpList_append_rd _ rfl (.tmp 60) (.tmp 61) _ rfl w2.heap.size 5 i0 _ 1 Try.underlying60 hi hz0 hz1 hz2 rfl v4 L4.length (bvs L4) rfl ho5 _ UA5 un5 uc5 (bvs E) rfl (by rw [len_bvs, HUN.out]) hsu5.row hsu5.nil (bvs_one _) (by unfold maxLen; omega) (by omega) hz5 ?_); intro v6 w6 hoo6 hg6; refine Hid.out ?_)
    refine Lib.hid ?_
    have ho6' : Mem.Own w2.heap.size w6 v6 (L4 ++ E) := own_of hoo6 (by rw [List.length_append, HUN.out]) (by rw [bvs_app])
    have hx6 := hx5.grown ho5 hg6
    have HBW6 := below_grown hbb5 ho5 hg6 hz5
    have hlL5 : (L4 ++ E).length ≤ 110 := by rw [List.length_append]; omega
    have hz6 := HBW6.size
    clear z0 z1 z2 z3 z4 z5 z6 z7 z8 z9 z10 z11 z12 z13 z14 z15 z16 z17 z18 z19 z20 z21 z22 z23 z24 z25 z26 z27
    clear hoo6 hx5 hg6 ho5 hz5 hbb5 hsu5 he HUN hune
    generalize hqL5 : L4 ++ E = L5 at *
    have HQL5 := Lib.hid hqL5
    clear hqL5
    obtain ⟨z0, z1, z2, z3, z4, z5, z6, z7, z8, z9, z10, z11, z12, z13, z14, z15, z16, z17, z18, z19, z20, z21, z22, z23, z24, z25, z26, z27⟩ := hx6.all
    have ho6a := World.ownsRow.alloc ho6' (.cells #[.int .u8 (mx.toNat : Int)] 5)
    go_wp2_with (at_builtin; go_loud (refine wpList_append_rd _ rfl (.tmp 63) (.tmp 67) _ rfl w2.heap.size 5 i0 _ 1 Try.underlying60 hi hz0 hz1 hz2 rfl v6 L5.length (bvs L5) rfl ho6a _ _ 1 1 [.int .u8 (mx.toNat : Int)] rfl rfl (Rd.new w6 _ _) (fun hh => by cases hh) one_int (by unfold maxLen; omega) (by omega) (by simp; omega) ?_); intro v7 w7 hoo7 hg7; refine Hid.out ?_)
    refine Lib.hid ?_
    have ho7 : Mem.Own w2.heap.size w7 v7 (L5 ++ [mx]) := own_of hoo7 (by simp) (by rw [bvs_app]; rfl)
    have hx7 := (hx6.alloc (.cells #[.int .u8 (mx.toNat : Int)] 5)).grown ho6a hg7
    have HBW7 := below_grown (HBW6.alloc (by omega) (.cells #[.int .u8 (mx.toNat : Int)] 5)) ho6a hg7 (by simp; omega)
    have hlL6 : (L5 ++ [mx]).length ≤ 111 := by simp; omega
    clear z0 z1 z2 z3 z4 z5 z6 z7 z8 z9 z10 z11 z12 z13 z14 z15 z16 z17 z18 z19 z20 z21 z22 z23 z24 z25 z26 z27
    clear hoo7 hx6 hg7 ho6' ho6a HBW6 hz6
    generalize hqL6 : L5 ++ [mx] = L6 at *
    have HQL6 := Lib.hid hqL6
    clear hqL6
    go_wp2_with fail
    go_loopw [5, 8] (fun v i wr => ∃ j : Nat, j ≤ 6 ∧ i = .int .i64 (j : Int) ∧ Mem.Own w2.heap.size wr v (L6 ++ [r0, r1, r2, r3, r4, r5].take j) ∧ Bx wr w.heap.size ⟨nu, ty, un, nm, ei, en, false, ⟨f, sg, m, b, k1, k2, p⟩, mx, r0, r1, r2, r3, r4, r5, hl, hu, st, av, dv, false, (k : Int)⟩ (.slice A n cp) ∧ Below w2.heap.size w2 wr) (fun _ i _ => 6 - (intOf i).toNat)
    case atStart => exact ⟨0, by omega, rfl, by rw [List.take_zero, List.append_nil]; exact ho7, hx7, HBW7⟩
    case round =>
      clear ho7 hx7 HBW7
      obtain ⟨j, hj, rfl, ho8, hx8, HBW8⟩ := hrel
      have hz8 := HBW8.size
      have hll : (L6 ++ [r0, r1, r2, r3, r4, r5].take j).length = L6.length + j := by rw [List.length_append, List.length_take]; simp; omega
      by_cases hj6 : j < 6
      · obtain ⟨x, hx, hc⟩ : ∃ x : UInt8, [r0, r1, r2, r3, r4, r5].take (j + 1) = [r0, r1, r2, r3, r4, r5].take j ++ [x] ∧ wr.cell? ⟨w.heap.size, 15 + j, none⟩ = some (.int .u8 (x.toNat : Int)) := by
          have h1 := hx8.c (15 + j)
          rcases (show j = 0 ∨ j = 1 ∨ j = 2 ∨ j = 3 ∨ j = 4 ∨ j = 5 by omega) with rfl | rfl | rfl | rfl | rfl | rfl <;> exact ⟨_, rfl, h1⟩
        have HTK := Lib.hid hx
        have ho8a := World.ownsRow.alloc ho8 (.cells #[.int .u8 (x.toNat : Int)] 5)
        rw [hll] at ho8a
        have b1 : (0 : Int) ≤ (j : Int) := by omega
        have b2 : (j : Int) < 6 := by omega
        go_wp2_with (at_builtin; go_loud (refine wpList_append_rd _ rfl (.tmp 73) (.tmp 79) _ rfl w2.heap.size 5 i0 _ 1 Try.underlying60 hi hz0 hz1 hz2 rfl _ (L6.length + j) (bvs (L6 ++ [r0, r1, r2, r3, r4, r5].take j)) rfl ho8a _ _ 1 1 [.int .u8 (x.toNat : Int)] rfl rfl (Rd.new wr _ _) (fun hh => by cases hh) one_int (by unfold maxLen; omega) (by omega) (by simp; omega) ?_); intro v9 w9 hoo9 hg9)
        have hx9 := (hx8.alloc (.cells #[.int .u8 (x.toNat : Int)] 5)).grown ho8a hg9
        have HBW9 := below_grown (HBW8.alloc (by omega) (.cells #[.int .u8 (x.toNat : Int)] 5)) ho8a hg9 (by simp; omega)
        refine ⟨⟨j + 1, by omega, by go_num, own_of hoo9 ?_ ?_, hx9, HBW9⟩, by simp [intOf]; omega⟩
        · rw [HTK.out, ← List.append_assoc, List.length_append, hll]; rfl
        · rw [HTK.out, ← List.append_assoc, bvs_app, bvs_app, bvs_app]; rfl
      · obtain rfl : j = 6 := by omega
        rw [show [r0, r1, r2, r3, r4, r5].take 6 = [r0, r1, r2, r3, r4, r5] from rfl] at ho8 hll
        have hlL7 : (L6 ++ [r0, r1, r2, r3, r4, r5]).length ≤ 117 := by rw [hll]; omega
        clear hll
        generalize hqL7 : L6 ++ [r0, r1, r2, r3, r4, r5] = L7 at *
        have HQL7 := Lib.hid hqL7
        clear hqL7
        have ho8a := World.ownsRow.alloc ho8 (.cells #[.int .u8 (hl.toNat : Int), .int .u8 (hu.toNat : Int)] 5)
        obtain ⟨z0, z1, z2, z3, z4, z5, z6, z7, z8, z9, z10, z11, z12, z13, z14, z15, z16, z17, z18, z19, z20, z21, z22, z23, z24, z25, z26, z27⟩ := hx8.all
        go_wp2_with (at_builtin; go_loud (refine wpList_append_rd _ rfl (.tmp 81) (.tmp 86) _ rfl w2.heap.size 5 i0 _ 1 Try.underlying60 hi hz0 hz1 hz2 rfl _ L7.length (bvs L7) rfl ho8a _ _ 2 2 [.int .u8 (hl.toNat : Int), .int .u8 (hu.toNat : Int)] rfl rfl (Rd.new wr _ _) (fun hh => by cases hh) (by intro u hu; simp only [List.mem_cons, List.not_mem_nil, or_false] at hu; rcases hu with rfl | rfl <;> rfl) (by unfold maxLen; omega) (by omega) (by simp; omega) ?_); intro v9 w9 hoo9 hg9; refine Hid.out ?_)
        refine Lib.hid ?_
        have ho9' : Mem.Own w2.heap.size w9 v9 (L7 ++ [hl, hu]) := own_of hoo9 (by simp) (by rw [bvs_app]; rfl)
        have hx9 := (hx8.alloc (.cells #[.int .u8 (hl.toNat : Int), .int .u8 (hu.toNat : Int)] 5)).grown ho8a hg9
        have HBW9 := below_grown (HBW8.alloc (by omega) (.cells #[.int .u8 (hl.toNat : Int), .int .u8 (hu.toNat : Int)] 5)) ho8a hg9 (by simp; omega)
        have hlL8 : (L7 ++ [hl, hu]).length ≤ 119 := by simp; omega
        have hz9 := HBW9.size
        clear z0 z1 z2 z3 z4 z5 z6 z7 z8 z9 z10 z11 z12 z13 z14 z15 z16 z17 z18 z19 z20 z21 z22 z23 z24 z25 z26 z27
        clear hoo9 hx8 hg9 ho8 ho8a HBW8 hz8
        generalize hqL8 : L7 ++ [hl, hu] = L8 at *
        have HQL8 := Lib.hid hqL8
        clear hqL8
        obtain ⟨z0, z1, z2, z3, z4, z5, z6, z7, z8, z9, z10, z11, z12, z13, z14, z15, z16, z17, z18, z19, z20, z21, z22, z23, z24, z25, z26, z27⟩ := hx9.all
        go_wp2_with fail
        refine (C4v.littles_any avx 2 w9 (by omega) (by omega)).mono ?_
        rintro e w10 ⟨u10, rfl, hou10, hb10⟩
        obtain ⟨UA10, un10, uc10, rfl, hsu10⟩ := Sl.of_own hou10
        have hun10 : un10 = 2 := hsu10.len.trans (lit_len _ _)
        subst hun10
        have ho10 := ho9'.below hb10 (Nat.le_refl _)
        have hx10 := hx9.below hb10
        have hbb10 := HBW9.trans (hb10.mono HBW9.size)
        have hz10 := hbb10.size
        clear z0 z1 z2 z3 z4 z5 z6 z7 z8 z9 z10 z11 z12 z13 z14 z15 z16 z17 z18 z19 z20 z21 z22 z23 z24 z25 z26 z27
        clear hou10 hb10 ho9' hx9 HBW9
        obtain ⟨z0, z1, z2, z3, z4, z5, z6, z7, z8, z9, z10, z11, z12, z13, z14, z15, z16, z17, z18, z19, z20, z21, z22, z23, z24, z25, z26, z27⟩ := hx10.all
        go_wp2_with (at_builtin; go_loud (refine wpList_append_rd _ rfl (.tmp 88) (.tmp 92) _ rfl w2.heap.size 5 i0 _ 1 Try.underlying60 hi hz0 hz1 hz2 rfl v9 L8.length (bvs L8) rfl ho10 _ UA10 2 uc10 (bvs (lit avx 2)) rfl (by rw [len_bvs, lit_len]) hsu10.row hsu10.nil (bvs_one _) (by unfold maxLen; omega) (by omega) hz10 ?_); intro v11 w11 hoo11 hg11; refine Hid.out ?_)
        refine Lib.hid ?_
        have ho11' : Mem.Own w2.heap.size w11 v11 (L8 ++ lit avx 2) := own_of hoo11 (by rw [List.length_append, lit_len]) (by rw [bvs_app])
        have hx11 := hx10.grown ho10 hg11
        have HBW11 := below_grown hbb10 ho10 hg11 hz10
        have hlLA : (L8 ++ lit avx 2).length ≤ 121 := by rw [List.length_append, lit_len]; omega
        have hz11 := HBW11.size
        clear z0 z1 z2 z3 z4 z5 z6 z7 z8 z9 z10 z11 z12 z13 z14 z15 z16 z17 z18 z19 z20 z21 z22 z23 z24 z25 z26 z27
        clear hoo11 hx10 hg11 ho10 hz10 hbb10 hsu10
        generalize hqLA : L8 ++ lit avx 2 = LA at *
        have HQLA := Lib.hid hqLA
        clear hqLA
        obtain ⟨z0, z1, z2, z3, z4, z5, z6, z7, z8, z9, z10, z11, z12, z13, z14, z15, z16, z17, z18, z19, z20, z21, z22, z23, z24, z25, z26, z27⟩ := hx11.all
        go_wp2_with fail
        refine (C4v.littles_any dvx 2 w11 (by omega) (by omega)).mono ?_
        rintro e w12 ⟨u12, rfl, hou12, hb12⟩
        obtain ⟨UA12, un12, uc12, rfl, hsu12⟩ := Sl.of_own hou12
        have hun12 : un12 = 2 := hsu12.len.trans (lit_len _ _)
        subst hun12
        have ho12 := ho11'.below hb12 (Nat.le_refl _)
        have hx12 := hx11.below hb12
        have hbb12 := HBW11.trans (hb12.mono HBW11.size)
        have hz12 := hbb12.size
        clear z0 z1 z2 z3 z4 z5 z6 z7 z8 z9 z10 z11 z12 z13 z14 z15 z16 z17 z18 z19 z20 z21 z22 z23 z24 z25 z26 z27
        clear hou12 hb12 ho11' hx11 HBW11
        obtain ⟨z0, z1, z2, z3, z4, z5, z6, z7, z8, z9, z10, z11, z12, z13, z14, z15, z16, z17, z18, z19, z20, z21, z22, z23, z24, z25, z26, z27⟩ := hx12.all
        go_wp2_with (at_builtin; go_loud (refine wpList_append_rd _ rfl (.tmp 94) (.tmp 98) _ rfl w2.heap.size 5 i0 _ 1 Try.underlying60 hi hz0 hz1 hz2 rfl v11 LA.length (bvs LA) rfl ho12 _ UA12 2 uc12 (bvs (lit dvx 2)) rfl (by rw [len_bvs, lit_len]) hsu12.row hsu12.nil (bvs_one _) (by unfold maxLen; omega) (by omega) hz12 ?_); intro v13 w13 hoo13 hg13; refine Hid.out ?_)
        refine Lib.hid ?_
        have ho13' : Mem.Own w2.heap.size w13 v13 (LA ++ lit dvx 2) := own_of hoo13 (by rw [List.length_append, lit_len]) (by rw [bvs_app])
        have hx13 := hx12.grown ho12 hg13
        have HBW13 := below_grown hbb12 ho12 hg13 hz12
        have hlLB : (LA ++ lit dvx 2).length ≤ 123 := by rw [List.length_append, lit_len]; omega
        have hz13 := HBW13.size
        clear z0 z1 z2 z3 z4 z5 z6 z7 z8 z9 z10 z11 z12 z13 z14 z15 z16 z17 z18 z19 z20 z21 z22 z23 z24 z25 z26 z27
        clear hoo13 hx12 hg13 ho12 hz12 hbb12 hsu12
        generalize hqLB : LA ++ lit dvx 2 = LB at *
        have HQLB := Lib.hid hqLB
        clear hqLB
        obtain ⟨z0, z1, z2, z3, z4, z5, z6, z7, z8, z9, z10, z11, z12, z13, z14, z15, z16, z17, z18, z19, z20, z21, z22, z23, z24, z25, z26, z27⟩ := hx13.all
        obtain ⟨SA, sn, sc, rfl, hs0⟩ := Sl.of_own ho13'
        have hsn := hs0.len
        have HS8 := Lib.hid (Wd.rseal8_any SA sn sc LB w13 hs0.len hs0.row (by omega))
        clear z0 z1 z2 z3 z4 z5 z6 z7 z8 z9 z10 z11 z12 z13 z14 z15 z16 z17 z18 z19 z20 z21 z22 z23 z24 z25 z26 z27
        clear hsn hs0 ho13' hx13
        go_wp2_with fail
        refine HS8.out.mono ?_
        rintro e wz ⟨vz, rfl, hoz, hbz⟩
        go_wp2_with fail
        go_ret2
        refine ⟨vz, rfl, ?_, HB.trans ((HBW13.trans (hbz.mono HBW13.size)).mono HB.size)⟩
        have hfin : HS ++ bl nm ++ MD ++ lit av 2 ++ lit dv 2 = LB := by
          rw [hm, ← HLav.out, ← HLdv.out, HQ4.out, ← HQLB.out, ← HQLA.out, ← HQL8.out, ← HQL7.out, ← HQL6.out, ← HQL5.out]
          simp only [List.append_assoc, List.cons_append, List.nil_append]
        rw [hfin]
        exact hoz.base_ (Nat.le_trans HB.size HBW13.size)
  · skip
    have hb3 := (Below.refl w2.heap.size w2).alloc (Nat.le_refl _) (.cells #[.int .u8 1, .int .u8 (nu.toNat : Int), .int .u8 (ty.toNat : Int), .int .u8 (un.toNat : Int), .int .u8 (ei.toNat : Int), .int .u8 (en.toNat : Int), .int .u8 ((F0 : Int) + 2), .int .u8 (nm.size : Int)] 5)
    have hfe : (F0 : Int) + 2 = ((F0 + 2 : Nat) : Int) := by omega
    have ho3 : Mem.Own w2.heap.size (w2.alloc (.cells #[.int .u8 1, .int .u8 (nu.toNat : Int), .int .u8 (ty.toNat : Int), .int .u8 (un.toNat : Int), .int .u8 (ei.toNat : Int), .int .u8 (en.toNat : Int), .int .u8 ((F0 : Int) + 2), .int .u8 (nm.size : Int)] 5)) (.slice (some ⟨w2.heap.size, 0, none⟩) 8 8) HS := by
      rw [HHD.out]
      refine own_block (heap_alloc_new w2 _) ?_ (Nat.le_refl _) (by unfold maxLen; simp)
      rw [hfe]
      simp [bvs, bv, Nat.mod_eq_of_lt (show nm.size < 256 by omega)]
      omega
    have hslen : HS.length = 8 := by rw [HHD.out]; rfl
    have hx3 := hx2.alloc (.cells #[.int .u8 1, .int .u8 (nu.toNat : Int), .int .u8 (ty.toNat : Int), .int .u8 (un.toNat : Int), .int .u8 (ei.toNat : Int), .int .u8 (en.toNat : Int), .int .u8 ((F0 : Int) + 2), .int .u8 (nm.size : Int)] 5)
    have hz3 := hb3.size
    clear hfe
    go_upto_region 9 with fail
    generalize w2.alloc (.cells #[.int .u8 1, .int .u8 (nu.toNat : Int), .int .u8 (ty.toNat : Int), .int .u8 (un.toNat : Int), .int .u8 (ei.toNat : Int), .int .u8 (en.toNat : Int), .int .u8 ((F0 : Int) + 2), .int .u8 (nm.size : Int)] 5) = w3 at *
    clear z0 z1 z2 z3 z4 z5 z6 z7 z8 z9 z10 z11 z12 z13 z14 z15 z16 z17 z18 z19 z20 z21 z22 z23 z24 z25 z26 z27
    obtain ⟨z0, z1, z2, z3, z4, z5, z6, z7, z8, z9, z10, z11, z12, z13, z14, z15, z16, z17, z18, z19, z20, z21, z22, z23, z24, z25, z26, z27⟩ := hx3.all
    clear hx2 HHD hfk hsz8
    go_wp2_with (at_builtin; go_loud (refine Lib.wpList_append_own_string _ rfl (.tmp 42) (.tmp 44) 60 9 rfl w2.heap.size 5 i0 Try.underlying60 Try.underlying9 hi hz0 hz1 hz2 _ 8 (bvs HS) rfl (by have := ho3; unfold Mem.Own at this; rw [hslen] at this; exact this) nm rfl (by unfold maxLen; omega) (by omega) hz3 ?_); intro v4 w4 ho4 hg4 _; refine Hid.out ?_)
    refine Lib.hid ?_
    have ho4' : Mem.Own w2.heap.size w4 v4 (HS ++ bl nm) := own_of ho4 (by rw [List.length_append, hslen, bl_len]) (by rw [bvs_app]; rfl)
    have hx4 := hx3.grown ho3 hg4
    have hb4 := below_grown hb3 ho3 hg4 hz3
    have hl4 : (HS ++ bl nm).length ≤ 24 := by rw [List.length_append, hslen, bl_len]; omega
    have hz4 := hb4.size
    clear z0 z1 z2 z3 z4 z5 z6 z7 z8 z9 z10 z11 z12 z13 z14 z15 z16 z17 z18 z19 z20 z21 z22 z23 z24 z25 z26 z27
    clear ho4 hx3 hg4 ho3 hz3 hslen hb3
    generalize hqL4 : HS ++ bl nm = L4 at *
    have HQ4 := Lib.hid hqL4
    clear hqL4
    obtain ⟨z0, z1, z2, z3, z4, z5, z6, z7, z8, z9, z10, z11, z12, z13, z14, z15, z16, z17, z18, z19, z20, z21, z22, z23, z24, z25, z26, z27⟩ := hx4.all
    have HBW4 := hb4
    clear hb4
    have hm := HM2.out (by first | exact rfl | exact trivial)
    rw [HX.out] at hm
    have he := HE.out (by first | exact rfl | exact trivial)
    have HC := Lib.hid (HENC.out (by first | exact rfl | exact trivial) w4 (HP.step HBW4))
    go_wp2_with fail
    refine HC.out.mono ?_
    rintro e w5 ⟨u5, rfl, hou5, hb5⟩
    obtain ⟨UA5, un5, uc5, rfl, hsu5⟩ := Sl.of_own hou5
    have hun5 := hsu5.len
    have ho5 := ho4'.below hb5 (Nat.le_refl _)
    have hx5 := hx4.below hb5
    have hbb5 := HBW4.trans (hb5.mono HBW4.size)
    have hz5 := hbb5.size
    clear z0 z1 z2 z3 z4 z5 z6 z7 z8 z9 z10 z11 z12 z13 z14 z15 z16 z17 z18 z19 z20 z21 z22 z23 z24 z25 z26 z27
    clear hou5 hb5 ho4' hx4 HBW4 HC
    obtain ⟨z0, z1, z2, z3, z4, z5, z6, z7, z8, z9, z10, z11, z12, z13, z14, z15, z16, z17, z18, z19, z20, z21, z22, z23, z24, z25, z26, z27⟩ := hx5.all
    have HUN := Lib.hid hun5
    have hune : un5 ≤ 86 := by rw [hun5]; exact he
    clear hun5
    go_wp2_with (at_builtin; go_loud (refine wpList_append_rd _ rfl (.tmp 60) (.tmp 61) _ rfl w2.heap.size 5 i0 _ 1 Try.underlying60 hi hz0 hz1 hz2 rfl v4 L4.length (bvs L4) rfl ho5 _ UA5 un5 uc5 (bvs E) rfl (by rw [len_bvs, HUN.out]) hsu5.row hsu5.nil (bvs_one _) (by unfold maxLen; omega) (by omega) hz5 ?_); intro v6 w6 hoo6 hg6; refine Hid.out ?_)
    refine Lib.hid ?_
    have ho6' : Mem.Own w2.heap.size w6 v6 (L4 ++ E) := own_of hoo6 (by rw [List.length_append, HUN.out]) (by rw [bvs_app])
    have hx6 := hx5.grown ho5 hg6
    have HBW6 := below_grown hbb5 ho5 hg6 hz5
    have hlL5 : (L4 ++ E).length ≤ 110 := by rw [List.length_append]; omega
    have hz6 := HBW6.size
    clear z0 z1 z2 z3 z4 z5 z6 z7 z8 z9 z10 z11 z12 z13 z14 z15 z16 z17 z18 z19 z20 z21 z22 z23 z24 z25 z26 z27
    clear hoo6 hx5 hg6 ho5 hz5 hbb5 hsu5 he HUN hune
    generalize hqL5 : L4 ++ E = L5 at *
    have HQL5 := Lib.hid hqL5
    clear hqL5
    obtain ⟨z0, z1, z2, z3, z4, z5, z6, z7, z8, z9, z10, z11, z12, z13, z14, z15, z16, z17, z18, z19, z20, z21, z22, z23, z24, z25, z26, z27⟩ := hx6.all
    have ho6a := World.ownsRow.alloc ho6' (.cells #[.int .u8 (mx.toNat : Int)] 5)
    go_wp2_with (at_builtin; go_loud (refine wpList_append_rd _ rfl (.tmp 63) (.tmp 67) _ rfl w2.heap.size 5 i0 _ 1 Try.underlying60 hi hz0 hz1 hz2 rfl v6 L5.length (bvs L5) rfl ho6a _ _ 1 1 [.int .u8 (mx.toNat : Int)] rfl rfl (Rd.new w6 _ _) (fun hh => by cases hh) one_int (by unfold maxLen; omega) (by omega) (by simp; omega) ?_); intro v7 w7 hoo7 hg7; refine Hid.out ?_)
    refine Lib.hid ?_
    have ho7 : Mem.Own w2.heap.size w7 v7 (L5 ++ [mx]) := own_of hoo7 (by simp) (by rw [bvs_app]; rfl)
    have hx7 := (hx6.alloc (.cells #[.int .u8 (mx.toNat : Int)] 5)).grown ho6a hg7
    have HBW7 := below_grown (HBW6.alloc (by omega) (.cells #[.int .u8 (mx.toNat : Int)] 5)) ho6a hg7 (by simp; omega)
    have hlL6 : (L5 ++ [mx]).length ≤ 111 := by simp; omega
    clear z0 z1 z2 z3 z4 z5 z6 z7 z8 z9 z10 z11 z12 z13 z14 z15 z16 z17 z18 z19 z20 z21 z22 z23 z24 z25 z26 z27
    clear hoo7 hx6 hg7 ho6' ho6a HBW6 hz6
    generalize hqL6 : L5 ++ [mx] = L6 at *
    have HQL6 := Lib.hid hqL6
    clear hqL6
    go_wp2_with fail
    go_loopw [5, 8] (fun v i wr => ∃ j : Nat, j ≤ 6 ∧ i = .int .i64 (j : Int) ∧ Mem.Own w2.heap.size wr v (L6 ++ [r0, r1, r2, r3, r4, r5].take j) ∧ Bx wr w.heap.size ⟨nu, ty, un, nm, ei, en, false, ⟨f, sg, m, b, k1, k2, p⟩, mx, r0, r1, r2, r3, r4, r5, hl, hu, st, av, dv, true, (k : Int)⟩ (.slice A n cp) ∧ Below w2.heap.size w2 wr) (fun _ i _ => 6 - (intOf i).toNat)
    case atStart => exact ⟨0, by omega, rfl, by rw [List.take_zero, List.append_nil]; exact ho7, hx7, HBW7⟩
    case round =>
      clear ho7 hx7 HBW7
      obtain ⟨j, hj, rfl, ho8, hx8, HBW8⟩ := hrel
      have hz8 := HBW8.size
      have hll : (L6 ++ [r0, r1, r2, r3, r4, r5].take j).length = L6.length + j := by rw [List.length_append, List.length_take]; simp; omega
      by_cases hj6 : j < 6
      · obtain ⟨x, hx, hc⟩ : ∃ x : UInt8, [r0, r1, r2, r3, r4, r5].take (j + 1) = [r0, r1, r2, r3, r4, r5].take j ++ [x] ∧ wr.cell? ⟨w.heap.size, 15 + j, none⟩ = some (.int .u8 (x.toNat : Int)) := by
          have h1 := hx8.c (15 + j)
          rcases (show j = 0 ∨ j = 1 ∨ j = 2 ∨ j = 3 ∨ j = 4 ∨ j = 5 by omega) with rfl | rfl | rfl | rfl | rfl | rfl <;> exact ⟨_, rfl, h1⟩
        have HTK := Lib.hid hx
        have ho8a := World.ownsRow.alloc ho8 (.cells #[.int .u8 (x.toNat : Int)] 5)
        rw [hll] at ho8a
        have b1 : (0 : Int) ≤ (j : Int) := by omega
        have b2 : (j : Int) < 6 := by omega
        go_wp2_with (at_builtin; go_loud (refine wpList_append_rd _ rfl (.tmp 73) (.tmp 79) _ rfl w2.heap.size 5 i0 _ 1 Try.underlying60 hi hz0 hz1 hz2 rfl _ (L6.length + j) (bvs (L6 ++ [r0, r1, r2, r3, r4, r5].take j)) rfl ho8a _ _ 1 1 [.int .u8 (x.toNat : Int)] rfl rfl (Rd.new wr _ _) (fun hh => by cases hh) one_int (by unfold maxLen; omega) (by omega) (by simp; omega) ?_); intro v9 w9 hoo9 hg9)
        have hx9 := (hx8.alloc (.cells #[.int .u8 (x.toNat : Int)] 5)).grown ho8a hg9
        have HBW9 := below_grown (HBW8.alloc (by omega) (.cells #[.int .u8 (x.toNat : Int)] 5)) ho8a hg9 (by simp; omega)
        refine ⟨⟨j + 1, by omega, by go_num, own_of hoo9 ?_ ?_, hx9, HBW9⟩, by simp [intOf]; omega⟩
        · rw [HTK.out, ← List.append_assoc, List.length_append, hll]; rfl
        · rw [HTK.out, ← List.append_assoc, bvs_app, bvs_app, bvs_app]; rfl
      · obtain rfl : j = 6 := by omega
        rw [show [r0, r1, r2, r3, r4, r5].take 6 = [r0, r1, r2, r3, r4, r5] from rfl] at ho8 hll
        have hlL7 : (L6 ++ [r0, r1, r2, r3, r4, r5]).length ≤ 117 := by rw [hll]; omega
        clear hll
        generalize hqL7 : L6 ++ [r0, r1, r2, r3, r4, r5] = L7 at *
        have HQL7 := Lib.hid hqL7
        clear hqL7
        have ho8a := World.ownsRow.alloc ho8 (.cells #[.int .u8 (hl.toNat : Int), .int .u8 (hu.toNat : Int)] 5)
        obtain ⟨z0, z1, z2, z3, z4, z5, z6, z7, z8, z9, z10, z11, z12, z13, z14, z15, z16, z17, z18, z19, z20, z21, z22, z23, z24, z25, z26, z27⟩ := hx8.all
        go_wp2_with (at_builtin; go_loud (refine wpList_append_rd _ rfl (.tmp 81) (.tmp 86) _ rfl w2.heap.size 5 i0 _ 1 Try.underlying60 hi hz0 hz1 hz2 rfl _ L7.length (bvs L7) rfl ho8a _ _ 2 2 [.int .u8 (hl.toNat : Int), .int .u8 (hu.toNat : Int)] rfl rfl (Rd.new wr _ _) (fun hh => by cases hh) (by intro u hu; simp only [List.mem_cons, List.not_mem_nil, or_false] at hu; rcases hu with rfl | rfl <;> rfl) (by unfold maxLen; omega) (by omega) (by simp; omega) ?_); intro v9 w9 hoo9 hg9; refine Hid.out ?_)
        refine Lib.hid ?_
        have ho9' : Mem.Own w2.heap.size w9 v9 (L7 ++ [hl, hu]) := own_of hoo9 (by simp) (by rw [bvs_app]; rfl)
        have hx9 := (hx8.alloc (.cells #[.int .u8 (hl.toNat : Int), .int .u8 (hu.toNat : Int)] 5)).grown ho8a hg9
        have HBW9 := below_grown (HBW8.alloc (by omega) (.cells #[.int .u8 (hl.toNat : Int), .int .u8 (hu.toNat : Int)] 5)) ho8a hg9 (by simp; omega)
        have hlL8 : (L7 ++ [hl, hu]).length ≤ 119 := by simp; omega
        have hz9 := HBW9.size
        clear z0 z1 z2 z3 z4 z5 z6 z7 z8 z9 z10 z11 z12 z13 z14 z15 z16 z17 z18 z19 z20 z21 z22 z23 z24 z25 z26 z27
        clear hoo9 hx8 hg9 ho8 ho8a HBW8 hz8
        generalize hqL8 : L7 ++ [hl, hu] = L8 at *
        have HQL8 := Lib.hid hqL8
        clear hqL8
        obtain ⟨z0, z1, z2, z3, z4, z5, z6, z7, z8, z9, z10, z11, z12, z13, z14, z15, z16, z17, z18, z19, z20, z21, z22, z23, z24, z25, z26, z27⟩ := hx9.all
        go_wp2_with fail
        refine (C4v.littles_any avx 2 w9 (by omega) (by omega)).mono ?_
        rintro e w10 ⟨u10, rfl, hou10, hb10⟩
        obtain ⟨UA10, un10, uc10, rfl, hsu10⟩ := Sl.of_own hou10
        have hun10 : un10 = 2 := hsu10.len.trans (lit_len _ _)
        subst hun10
        have ho10 := ho9'.below hb10 (Nat.le_refl _)
        have hx10 := hx9.below hb10
        have hbb10 := HBW9.trans (hb10.mono HBW9.size)
        have hz10 := hbb10.size
        clear z0 z1 z2 z3 z4 z5 z6 z7 z8 z9 z10 z11 z12 z13 z14 z15 z16 z17 z18 z19 z20 z21 z22 z23 z24 z25 z26 z27
        clear hou10 hb10 ho9' hx9 HBW9
        obtain ⟨z0, z1, z2, z3, z4, z5, z6, z7, z8, z9, z10, z11, z12, z13, z14, z15, z16, z17, z18, z19, z20, z21, z22, z23, z24, z25, z26, z27⟩ := hx10.all
        go_wp2_with (at_builtin; go_loud (refine wpList_append_rd _ rfl (.tmp 88) (.tmp 92) _ rfl w2.heap.size 5 i0 _ 1 Try.underlying60 hi hz0 hz1 hz2 rfl v9 L8.length (bvs L8) rfl ho10 _ UA10 2 uc10 (bvs (lit avx 2)) rfl (by rw [len_bvs, lit_len]) hsu10.row hsu10.nil (bvs_one _) (by unfold maxLen; omega) (by omega) hz10 ?_); intro v11 w11 hoo11 hg11; refine Hid.out ?_)
        refine Lib.hid ?_
        have ho11' : Mem.Own w2.heap.size w11 v11 (L8 ++ lit avx 2) := own_of hoo11 (by rw [List.length_append, lit_len]) (by rw [bvs_app])
        have hx11 := hx10.grown ho10 hg11
        have HBW11 := below_grown hbb10 ho10 hg11 hz10
        have hlLA : (L8 ++ lit avx 2).length ≤ 121 := by rw [List.length_append, lit_len]; omega
        have hz11 := HBW11.size
        clear z0 z1 z2 z3 z4 z5 z6 z7 z8 z9 z10 z11 z12 z13 z14 z15 z16 z17 z18 z19 z20 z21 z22 z23 z24 z25 z26 z27
        clear hoo11 hx10 hg11 ho10 hz10 hbb10 hsu10
        generalize hqLA : L8 ++ lit avx 2 = LA at *
        have HQLA := Lib.hid hqLA
        clear hqLA
        obtain ⟨z0, z1, z2, z3, z4, z5, z6, z7, z8, z9, z10, z11, z12, z13, z14, z15, z16, z17, z18, z19, z20, z21, z22, z23, z24, z25, z26, z27⟩ := hx11.all
        go_wp2_with fail
        refine (C4v.littles_any dvx 2 w11 (by omega) (by omega)).mono ?_
        rintro e w12 ⟨u12, rfl, hou12, hb12⟩
        obtain ⟨UA12, un12, uc12, rfl, hsu12⟩ := Sl.of_own hou12
        have hun12 : un12 = 2 := hsu12.len.trans (lit_len _ _)
        subst hun12
        have ho12 := ho11'.below hb12 (Nat.le_refl _)
        have hx12 := hx11.below hb12
        have hbb12 := HBW11.trans (hb12.mono HBW11.size)
        have hz12 := hbb12.size
        clear z0 z1 z2 z3 z4 z5 z6 z7 z8 z9 z10 z11 z12 z13 z14 z15 z16 z17 z18 z19 z20 z21 z22 z23 z24 z25 z26 z27
        clear hou12 hb12 ho11' hx11 HBW11
        obtain ⟨z0, z1, z2, z3, z4, z5, z6, z7, z8, z9, z10, z11, z12, z13, z14, z15, z16, z17, z18, z19, z20, z21, z22, z23, z24, z25, z26, z27⟩ := hx12.all
        go_wp2_with (at_builtin; go_loud (refine wpList_append_rd _ rfl (.tmp 94) (.tmp 98) _ rfl w2.heap.size 5 i0 _ 1 Try.underlying60 hi hz0 hz1 hz2 rfl v11 LA.length (bvs LA) rfl ho12 _ UA12 2 uc12 (bvs (lit dvx 2)) rfl (by rw [len_bvs, lit_len]) hsu12.row hsu12.nil (bvs_one _) (by unfold maxLen; omega) (by omega) hz12 ?_); intro v13 w13 hoo13 hg13; refine Hid.out ?_)
        refine Lib.hid ?_
        have ho13' : Mem.Own w2.heap.size w13 v13 (LA ++ lit dvx 2) := own_of hoo13 (by rw [List.length_append, lit_len]) (by rw [bvs_app])
        have hx13 := hx12.grown ho12 hg13
        have HBW13 := below_grown hbb12 ho12 hg13 hz12
        have hlLB : (LA ++ lit dvx 2).length ≤ 123 := by rw [List.length_append, lit_len]; omega
        have hz13 := HBW13.size
        clear z0 z1 z2 z3 z4 z5 z6 z7 z8 z9 z10 z11 z12 z13 z14 z15 z16 z17 z18 z19 z20 z21 z22 z23 z24 z25 z26 z27
        clear hoo13 hx12 hg13 ho12 hz12 hbb12 hsu12
        generalize hqLB : LA ++ lit dvx 2 = LB at *
        have HQLB := Lib.hid hqLB
        clear hqLB
        obtain ⟨z0, z1, z2, z3, z4, z5, z6, z7, z8, z9, z10, z11, z12, z13, z14, z15, z16, z17, z18, z19, z20, z21, z22, z23, z24, z25, z26, z27⟩ := hx13.all
        obtain ⟨SA, sn, sc, rfl, hs0⟩ := Sl.of_own ho13'
        have hsn := hs0.len
        have HS8 := Lib.hid (Wd.rseal8_any SA sn sc LB w13 hs0.len hs0.row (by omega))
        clear z0 z1 z2 z3 z4 z5 z6 z7 z8 z9 z10 z11 z12 z13 z14 z15 z16 z17 z18 z19 z20 z21 z22 z23 z24 z25 z26 z27
        clear hsn hs0 ho13' hx13
        go_wp2_with fail
        refine HS8.out.mono ?_
        rintro e wz ⟨vz, rfl, hoz, hbz⟩
        go_wp2_with fail
        go_ret2
        refine ⟨vz, rfl, ?_, HB.trans ((HBW13.trans (hbz.mono HBW13.size)).mono HB.size)⟩
        have hfin : HS ++ bl nm ++ MD ++ lit av 2 ++ lit dv 2 = LB := by
          rw [hm, ← HLav.out, ← HLdv.out, HQ4.out, ← HQLB.out, ← HQLA.out, ← HQL8.out, ← HQL7.out, ← HQL6.out, ← HQL5.out]
          simp only [List.append_assoc, List.cons_append, List.nil_append]
        rw [hfin]
        exact hoz.base_ (Nat.le_trans HB.size HBW13.size)
  · skip
    have hb3 := (Below.refl w2.heap.size w2).alloc (Nat.le_refl _) (.cells #[.int .u8 1, .int .u8 (nu.toNat : Int), .int .u8 (ty.toNat : Int), .int .u8 (un.toNat : Int), .int .u8 (ei.toNat : Int), .int .u8 (en.toNat : Int), .int .u8 ((F0 : Int) + 1), .int .u8 (nm.size : Int)] 5)
    have hfe : (F0 : Int) + 1 = ((F0 + 1 : Nat) : Int) := by omega
    have ho3 : Mem.Own w2.heap.size (w2.alloc (.cells #[.int .u8 1, .int .u8 (nu.toNat : Int), .int .u8 (ty.toNat : Int), .int .u8 (un.toNat : Int), .int .u8 (ei.toNat : Int), .int .u8 (en.toNat : Int), .int .u8 ((F0 : Int) + 1), .int .u8 (nm.size : Int)] 5)) (.slice (some ⟨w2.heap.size, 0, none⟩) 8 8) HS := by
      rw [HHD.out]
      refine own_block (heap_alloc_new w2 _) ?_ (Nat.le_refl _) (by unfold maxLen; simp)
      rw [hfe]
      simp [bvs, bv, Nat.mod_eq_of_lt (show nm.size < 256 by omega)]
      omega
    have hslen : HS.length = 8 := by rw [HHD.out]; rfl
    have hx3 := hx2.alloc (.cells #[.int .u8 1, .int .u8 (nu.toNat : Int), .int .u8 (ty.toNat : Int), .int .u8 (un.toNat : Int), .int .u8 (ei.toNat : Int), .int .u8 (en.toNat : Int), .int .u8 ((F0 : Int) + 1), .int .u8 (nm.size : Int)] 5)
    have hz3 := hb3.size
    clear hfe
    go_upto_region 9 with fail
    generalize w2.alloc (.cells #[.int .u8 1, .int .u8 (nu.toNat : Int), .int .u8 (ty.toNat : Int), .int .u8 (un.toNat : Int), .int .u8 (ei.toNat : Int), .int .u8 (en.toNat : Int), .int .u8 ((F0 : Int) + 1), .int .u8 (nm.size : Int)] 5) = w3 at *
    clear z0 z1 z2 z3 z4 z5 z6 z7 z8 z9 z10 z11 z12 z13 z14 z15 z16 z17 z18 z19 z20 z21 z22 z23 z24 z25 z26 z27
    obtain ⟨z0, z1, z2, z3, z4, z5, z6, z7, z8, z9, z10, z11, z12, z13, z14, z15, z16, z17, z18, z19, z20, z21, z22, z23, z24, z25, z26, z27⟩ := hx3.all
    clear hx2 HHD hfk hsz8
    go_wp2_with (at_builtin; go_loud (refine Lib.wpList_append_own_string _ rfl (.tmp 42) (.tmp 44) 60 9 rfl w2.heap.size 5 i0 Try.underlying60 Try.underlying9 hi hz0 hz1 hz2 _ 8 (bvs HS) rfl (by have := ho3; unfold Mem.Own at this; rw [hslen] at this; exact this) nm rfl (by unfold maxLen; omega) (by omega) hz3 ?_); intro v4 w4 ho4 hg4 _; refine Hid.out ?_)
    refine Lib.hid ?_
    have ho4' : Mem.Own w2.heap.size w4 v4 (HS ++ bl nm) := own_of ho4 (by rw [List.length_append, hslen, bl_len]) (by rw [bvs_app]; rfl)
    have hx4 := hx3.grown ho3 hg4
    have hb4 := below_grown hb3 ho3 hg4 hz3
    have hl4 : (HS ++ bl nm).length ≤ 24 := by rw [List.length_append, hslen, bl_len]; omega
    have hz4 := hb4.size
    clear z0 z1 z2 z3 z4 z5 z6 z7 z8 z9 z10 z11 z12 z13 z14 z15 z16 z17 z18 z19 z20 z21 z22 z23 z24 z25 z26 z27
    clear ho4 hx3 hg4 ho3 hz3 hslen hb3
    generalize hqL4 : HS ++ bl nm = L4 at *
    have HQ4 := Lib.hid hqL4
    clear hqL4
    obtain ⟨z0, z1, z2, z3, z4, z5, z6, z7, z8, z9, z10, z11, z12, z13, z14, z15, z16, z17, z18, z19, z20, z21, z22, z23, z24, z25, z26, z27⟩ := hx4.all
    have HBW4 := hb4
    clear hb4
    have hm := HM.out (by first | exact rfl | exact trivial)
    go_wp2_with fail
    refine (C4v.littles_any stx 2 w4 (by omega) (by omega)).mono ?_
    rintro e w5 ⟨u5, rfl, hou5, hb5⟩
    obtain ⟨UA5, un5, uc5, rfl, hsu5⟩ := Sl.of_own hou5
    have hun5 : un5 = 2 := hsu5.len.trans (lit_len _ _)
    subst hun5
    have ho5 := ho4'.below hb5 (Nat.le_refl _)
    have hx5 := hx4.below hb5
    have hbb5 := HBW4.trans (hb5.mono HBW4.size)
    have hz5 := hbb5.size
    clear z0 z1 z2 z3 z4 z5 z6 z7 z8 z9 z10 z11 z12 z13 z14 z15 z16 z17 z18 z19 z20 z21 z22 z23 z24 z25 z26 z27
    clear hou5 hb5 ho4' hx4 HBW4
    obtain ⟨z0, z1, z2, z3, z4, z5, z6, z7, z8, z9, z10, z11, z12, z13, z14, z15, z16, z17, z18, z19, z20, z21, z22, z23, z24, z25, z26, z27⟩ := hx5.all
    go_wp2_with (at_builtin; go_loud (refine wpList_append_rd _ rfl (.tmp 48) (.tmp 52) _ rfl w2.heap.size 5 i0 _ 1 Try.underlying60 hi hz0 hz1 hz2 rfl v4 L4.length (bvs L4) rfl ho5 _ UA5 2 uc5 (bvs (lit stx 2)) rfl (by rw [len_bvs, lit_len]) hsu5.row hsu5.nil (bvs_one _) (by unfold maxLen; omega) (by omega) hz5 ?_); intro v6 w6 hoo6 hg6; refine Hid.out ?_)
    refine Lib.hid ?_
    have ho6' : Mem.Own w2.heap.size w6 v6 (L4 ++ lit stx 2) := own_of hoo6 (by rw [List.length_append, lit_len]) (by rw [bvs_app])
    have hx6 := hx5.grown ho5 hg6
    have HBW6 := below_grown hbb5 ho5 hg6 hz5
    have hlL5 : (L4 ++ lit stx 2).length ≤ 26 := by rw [List.length_append, lit_len]; omega
    have hz6 := HBW6.size
    clear z0 z1 z2 z3 z4 z5 z6 z7 z8 z9 z10 z11 z12 z13 z14 z15 z16 z17 z18 z19 z20 z21 z22 z23 z24 z25 z26 z27
    clear hoo6 hx5 hg6 ho5 hz5 hbb5 hsu5
    generalize hqL5 : L4 ++ lit stx 2 = L5 at *
    have HQL5 := Lib.hid hqL5
    clear hqL5
    obtain ⟨z0, z1, z2, z3, z4, z5, z6, z7, z8, z9, z10, z11, z12, z13, z14, z15, z16, z17, z18, z19, z20, z21, z22, z23, z24, z25, z26, z27⟩ := hx6.all
    go_wp2_with fail
    refine (C4v.littles_any avx 2 w6 (by omega) (by omega)).mono ?_
    rintro e w7 ⟨u7, rfl, hou7, hb7⟩
    obtain ⟨UA7, un7, uc7, rfl, hsu7⟩ := Sl.of_own hou7
    have hun7 : un7 = 2 := hsu7.len.trans (lit_len _ _)
    subst hun7
    have ho7 := ho6'.below hb7 (Nat.le_refl _)
    have hx7 := hx6.below hb7
    have hbb7 := HBW6.trans (hb7.mono HBW6.size)
    have hz7 := hbb7.size
    clear z0 z1 z2 z3 z4 z5 z6 z7 z8 z9 z10 z11 z12 z13 z14 z15 z16 z17 z18 z19 z20 z21 z22 z23 z24 z25 z26 z27
    clear hou7 hb7 ho6' hx6 HBW6
    obtain ⟨z0, z1, z2, z3, z4, z5, z6, z7, z8, z9, z10, z11, z12, z13, z14, z15, z16, z17, z18, z19, z20, z21, z22, z23, z24, z25, z26, z27⟩ := hx7.all
    go_wp2_with (at_builtin; go_loud (refine wpList_append_rd _ rfl (.tmp 88) (.tmp 92) _ rfl w2.heap.size 5 i0 _ 1 Try.underlying60 hi hz0 hz1 hz2 rfl v6 L5.length (bvs L5) rfl ho7 _ UA7 2 uc7 (bvs (lit avx 2)) rfl (by rw [len_bvs, lit_len]) hsu7.row hsu7.nil (bvs_one _) (by unfold maxLen; omega) (by omega) hz7 ?_); intro v8 w8 hoo8 hg8; refine Hid.out ?_)
    refine Lib.hid ?_
    have ho8' : Mem.Own w2.heap.size w8 v8 (L5 ++ lit avx 2) := own_of hoo8 (by rw [List.length_append, lit_len]) (by rw [bvs_app])
    have hx8 := hx7.grown ho7 hg8
    have HBW8 := below_grown hbb7 ho7 hg8 hz7
    have hlLA : (L5 ++ lit avx 2).length ≤ 28 := by rw [List.length_append, lit_len]; omega
    have hz8 := HBW8.size
    clear z0 z1 z2 z3 z4 z5 z6 z7 z8 z9 z10 z11 z12 z13 z14 z15 z16 z17 z18 z19 z20 z21 z22 z23 z24 z25 z26 z27
    clear hoo8 hx7 hg8 ho7 hz7 hbb7 hsu7
    generalize hqLA : L5 ++ lit avx 2 = LA at *
    have HQLA := Lib.hid hqLA
    clear hqLA
    obtain ⟨z0, z1, z2, z3, z4, z5, z6, z7, z8, z9, z10, z11, z12, z13, z14, z15, z16, z17, z18, z19, z20, z21, z22, z23, z24, z25, z26, z27⟩ := hx8.all
    go_wp2_with fail
    refine (C4v.littles_any dvx 2 w8 (by omega) (by omega)).mono ?_
    rintro e w9 ⟨u9, rfl, hou9, hb9⟩
    obtain ⟨UA9, un9, uc9, rfl, hsu9⟩ := Sl.of_own hou9
    have hun9 : un9 = 2 := hsu9.len.trans (lit_len _ _)
    subst hun9
    have ho9 := ho8'.below hb9 (Nat.le_refl _)
    have hx9 := hx8.below hb9
    have hbb9 := HBW8.trans (hb9.mono HBW8.size)
    have hz9 := hbb9.size
    clear z0 z1 z2 z3 z4 z5 z6 z7 z8 z9 z10 z11 z12 z13 z14 z15 z16 z17 z18 z19 z20 z21 z22 z23 z24 z25 z26 z27
    clear hou9 hb9 ho8' hx8 HBW8
    obtain ⟨z0, z1, z2, z3, z4, z5, z6, z7, z8, z9, z10, z11, z12, z13, z14, z15, z16, z17, z18, z19, z20, z21, z22, z23, z24, z25, z26, z27⟩ := hx9.all
    go_wp2_with (at_builtin; go_loud (refine wpList_append_rd _ rfl (.tmp 94) (.tmp 98) _ rfl w2.heap.size 5 i0 _ 1 Try.underlying60 hi hz0 hz1 hz2 rfl v8 LA.length (bvs LA) rfl ho9 _ UA9 2 uc9 (bvs (lit dvx 2)) rfl (by rw [len_bvs, lit_len]) hsu9.row hsu9.nil (bvs_one _) (by unfold maxLen; omega) (by omega) hz9 ?_); intro v10 w10 hoo10 hg10; refine Hid.out ?_)
    refine Lib.hid ?_
    have ho10' : Mem.Own w2.heap.size w10 v10 (LA ++ lit dvx 2) := own_of hoo10 (by rw [List.length_append, lit_len]) (by rw [bvs_app])
    have hx10 := hx9.grown ho9 hg10
    have HBW10 := below_grown hbb9 ho9 hg10 hz9
    have hlLB : (LA ++ lit dvx 2).length ≤ 30 := by rw [List.length_append, lit_len]; omega
    have hz10 := HBW10.size
    clear z0 z1 z2 z3 z4 z5 z6 z7 z8 z9 z10 z11 z12 z13 z14 z15 z16 z17 z18 z19 z20 z21 z22 z23 z24 z25 z26 z27
    clear hoo10 hx9 hg10 ho9 hz9 hbb9 hsu9
    generalize hqLB : LA ++ lit dvx 2 = LB at *
    have HQLB := Lib.hid hqLB
    clear hqLB
    obtain ⟨z0, z1, z2, z3, z4, z5, z6, z7, z8, z9, z10, z11, z12, z13, z14, z15, z16, z17, z18, z19, z20, z21, z22, z23, z24, z25, z26, z27⟩ := hx10.all
    obtain ⟨SA, sn, sc, rfl, hs0⟩ := Sl.of_own ho10'
    have hsn := hs0.len
    have HS8 := Lib.hid (Wd.rseal8_any SA sn sc LB w10 hs0.len hs0.row (by omega))
    clear z0 z1 z2 z3 z4 z5 z6 z7 z8 z9 z10 z11 z12 z13 z14 z15 z16 z17 z18 z19 z20 z21 z22 z23 z24 z25 z26 z27
    clear hsn hs0 ho10' hx10
    go_wp2_with fail
    refine HS8.out.mono ?_
    rintro e wz ⟨vz, rfl, hoz, hbz⟩
    go_wp2_with fail
    go_ret2
    refine ⟨vz, rfl, ?_, HB.trans ((HBW10.trans (hbz.mono HBW10.size)).mono HB.size)⟩
    have hfin : HS ++ bl nm ++ MD ++ lit av 2 ++ lit dv 2 = LB := by rw [hm, ← HLst.out, ← HLav.out, ← HLdv.out, HQ4.out, HQL5.out, HQLA.out, HQLB.out]
    rw [hfin]
    exact hoz.base_ (Nat.le_trans HB.size HBW10.size)
  · skip
    have hb3 := (Below.refl w2.heap.size w2).alloc (Nat.le_refl _) (.cells #[.int .u8 1, .int .u8 (nu.toNat : Int), .int .u8 (ty.toNat : Int), .int .u8 (un.toNat : Int), .int .u8 (ei.toNat : Int), .int .u8 (en.toNat : Int), .int .u8 ((F0 : Int) + 1 + 2), .int .u8 (nm.size : Int)] 5)
    have hfe : (F0 : Int) + 1 + 2 = ((F0 + 1 + 2 : Nat) : Int) := by omega
    have ho3 : Mem.Own w2.heap.size (w2.alloc (.cells #[.int .u8 1, .int .u8 (nu.toNat : Int), .int .u8 (ty.toNat : Int), .int .u8 (un.toNat : Int), .int .u8 (ei.toNat : Int), .int .u8 (en.toNat : Int), .int .u8 ((F0 : Int) + 1 + 2), .int .u8 (nm.size : Int)] 5)) (.slice (some ⟨w2.heap.size, 0, none⟩) 8 8) HS := by
      rw [HHD.out]
      refine own_block (heap_alloc_new w2 _) ?_ (Nat.le_refl _) (by unfold maxLen; simp)
      rw [hfe]
      simp [bvs, bv, Nat.mod_eq_of_lt (show nm.size < 256 by omega)]
      omega
    have hslen : HS.length = 8 := by rw [HHD.out]; rfl
    have hx3 := hx2.alloc (.cells #[.int .u8 1, .int .u8 (nu.toNat : Int), .int .u8 (ty.toNat : Int), .int .u8 (un.toNat : Int), .int .u8 (ei.toNat : Int), .int .u8 (en.toNat : Int), .int .u8 ((F0 : Int) + 1 + 2), .int .u8 (nm.size : Int)] 5)
    have hz3 := hb3.size
    clear hfe
    go_upto_region 9 with fail
    generalize w2.alloc (.cells #[.int .u8 1, .int .u8 (nu.toNat : Int), .int .u8 (ty.toNat : Int), .int .u8 (un.toNat : Int), .int .u8 (ei.toNat : Int), .int .u8 (en.toNat : Int), .int .u8 ((F0 : Int) + 1 + 2), .int .u8 (nm.size : Int)] 5) = w3 at *
    clear z0 z1 z2 z3 z4 z5 z6 z7 z8 z9 z10 z11 z12 z13 z14 z15 z16 z17 z18 z19 z20 z21 z22 z23 z24 z25 z26 z27
    obtain ⟨z0, z1, z2, z3, z4, z5, z6, z7, z8, z9, z10, z11, z12, z13, z14, z15, z16, z17, z18, z19, z20, z21, z22, z23, z24, z25, z26, z27⟩ := hx3.all
    clear hx2 HHD hfk hsz8
    go_wp2_with (at_builtin; go_loud (refine Lib.wpList_append_own_string _ rfl (.tmp 42) (.tmp 44) 60 9 rfl w2.heap.size 5 i0 Try.underlying60 Try.underlying9 hi hz0 hz1 hz2 _ 8 (bvs HS) rfl (by have := ho3; unfold Mem.Own at this; rw [hslen] at this; exact this) nm rfl (by unfold maxLen; omega) (by omega) hz3 ?_); intro v4 w4 ho4 hg4 _; refine Hid.out ?_)
    refine Lib.hid ?_
    have ho4' : Mem.Own w2.heap.size w4 v4 (HS ++ bl nm) := own_of ho4 (by rw [List.length_append, hslen, bl_len]) (by rw [bvs_app]; rfl)
    have hx4 := hx3.grown ho3 hg4
    have hb4 := below_grown hb3 ho3 hg4 hz3
    have hl4 : (HS ++ bl nm).length ≤ 24 := by rw [List.length_append, hslen, bl_len]; omega
    have hz4 := hb4.size
    clear z0 z1 z2 z3 z4 z5 z6 z7 z8 z9 z10 z11 z12 z13 z14 z15 z16 z17 z18 z19 z20 z21 z22 z23 z24 z25 z26 z27
    clear ho4 hx3 hg4 ho3 hz3 hslen hb3
    generalize hqL4 : HS ++ bl nm = L4 at *
    have HQ4 := Lib.hid hqL4
    clear hqL4
    obtain ⟨z0, z1, z2, z3, z4, z5, z6, z7, z8, z9, z10, z11, z12, z13, z14, z15, z16, z17, z18, z19, z20, z21, z22, z23, z24, z25, z26, z27⟩ := hx4.all
    have HBW4 := hb4
    clear hb4
    have hm := HM.out (by first | exact rfl | exact trivial)
    go_wp2_with fail
    refine (C4v.littles_any stx 2 w4 (by omega) (by omega)).mono ?_
    rintro e w5 ⟨u5, rfl, hou5, hb5⟩
    obtain ⟨UA5, un5, uc5, rfl, hsu5⟩ := Sl.of_own hou5
    have hun5 : un5 = 2 := hsu5.len.trans (lit_len _ _)
    subst hun5
    have ho5 := ho4'.below hb5 (Nat.le_refl _)
    have hx5 := hx4.below hb5
    have hbb5 := HBW4.trans (hb5.mono HBW4.size)
    have hz5 := hbb5.size
    clear z0 z1 z2 z3 z4 z5 z6 z7 z8 z9 z10 z11 z12 z13 z14 z15 z16 z17 z18 z19 z20 z21 z22 z23 z24 z25 z26 z27
    clear hou5 hb5 ho4' hx4 HBW4
    obtain ⟨z0, z1, z2, z3, z4, z5, z6, z7, z8, z9, z10, z11, z12, z13, z14, z15, z16, z17, z18, z19, z20, z21, z22, z23, z24, z25, z26, z27⟩ := hx5.all
    go_wp2_with (at_builtin; go_loud (refine wpList_append_rd _ rfl (.tmp 48) (.tmp 52) _ rfl w2.heap.size 5 i0 _ 1 Try.underlying60 hi hz0 hz1 hz2 rfl v4 L4.length (bvs L4) rfl ho5 _ UA5 2 uc5 (bvs (lit stx 2)) rfl (by rw [len_bvs, lit_len]) hsu5.row hsu5.nil (bvs_one _) (by unfold maxLen; omega) (by omega) hz5 ?_); intro v6 w6 hoo6 hg6; refine Hid.out ?_)
    refine Lib.hid ?_
    have ho6' : Mem.Own w2.heap.size w6 v6 (L4 ++ lit stx 2) := own_of hoo6 (by rw [List.length_append, lit_len]) (by rw [bvs_app])
    have hx6 := hx5.grown ho5 hg6
    have HBW6 := below_grown hbb5 ho5 hg6 hz5
    have hlL5 : (L4 ++ lit stx 2).length ≤ 26 := by rw [List.length_append, lit_len]; omega
    have hz6 := HBW6.size
    clear z0 z1 z2 z3 z4 z5 z6 z7 z8 z9 z10 z11 z12 z13 z14 z15 z16 z17 z18 z19 z20 z21 z22 z23 z24 z25 z26 z27
    clear hoo6 hx5 hg6 ho5 hz5 hbb5 hsu5
    generalize hqL5 : L4 ++ lit stx 2 = L5 at *
    have HQL5 := Lib.hid hqL5
    clear hqL5
    obtain ⟨z0, z1, z2, z3, z4, z5, z6, z7, z8, z9, z10, z11, z12, z13, z14, z15, z16, z17, z18, z19, z20, z21, z22, z23, z24, z25, z26, z27⟩ := hx6.all
    go_wp2_with fail
    refine (C4v.littles_any avx 2 w6 (by omega) (by omega)).mono ?_
    rintro e w7 ⟨u7, rfl, hou7, hb7⟩
    obtain ⟨UA7, un7, uc7, rfl, hsu7⟩ := Sl.of_own hou7
    have hun7 : un7 = 2 := hsu7.len.trans (lit_len _ _)
    subst hun7
    have ho7 := ho6'.below hb7 (Nat.le_refl _)
    have hx7 := hx6.below hb7
    have hbb7 := HBW6.trans (hb7.mono HBW6.size)
    have hz7 := hbb7.size
    clear z0 z1 z2 z3 z4 z5 z6 z7 z8 z9 z10 z11 z12 z13 z14 z15 z16 z17 z18 z19 z20 z21 z22 z23 z24 z25 z26 z27
    clear hou7 hb7 ho6' hx6 HBW6
    obtain ⟨z0, z1, z2, z3, z4, z5, z6, z7, z8, z9, z10, z11, z12, z13, z14, z15, z16, z17, z18, z19, z20, z21, z22, z23, z24, z25, z26, z27⟩ := hx7.all
    go_wp2_with (at_builtin; go_loud (refine wpList_append_rd _ rfl (.tmp 88) (.tmp 92) _ rfl w2.heap.size 5 i0 _ 1 Try.underlying60 hi hz0 hz1 hz2 rfl v6 L5.length (bvs L5) rfl ho7 _ UA7 2 uc7 (bvs (lit avx 2)) rfl (by rw [len_bvs, lit_len]) hsu7.row hsu7.nil (bvs_one _) (by unfold maxLen; omega) (by omega) hz7 ?_); intro v8 w8 hoo8 hg8; refine Hid.out ?_)
    refine Lib.hid ?_
    have ho8' : Mem.Own w2.heap.size w8 v8 (L5 ++ lit avx 2) := own_of hoo8 (by rw [List.length_append, lit_len]) (by rw [bvs_app])
    have hx8 := hx7.grown ho7 hg8
    have HBW8 := below_grown hbb7 ho7 hg8 hz7
    have hlLA : (L5 ++ lit avx 2).length ≤ 28 := by rw [List.length_append, lit_len]; omega
    have hz8 := HBW8.size
    clear z0 z1 z2 z3 z4 z5 z6 z7 z8 z9 z10 z11 z12 z13 z14 z15 z16 z17 z18 z19 z20 z21 z22 z23 z24 z25 z26 z27
    clear hoo8 hx7 hg8 ho7 hz7 hbb7 hsu7
    generalize hqLA : L5 ++ lit avx 2 = LA at *
    have HQLA := Lib.hid hqLA
    clear hqLA
    obtain ⟨z0, z1, z2, z3, z4, z5, z6, z7, z8, z9, z10, z11, z12, z13, z14, z15, z16, z17, z18, z19, z20, z21, z22, z23, z24, z25, z26, z27⟩ := hx8.all
    go_wp2_with fail
    refine (C4v.littles_any dvx 2 w8 (by omega) (by omega)).mono ?_
    rintro e w9 ⟨u9, rfl, hou9, hb9⟩
    obtain ⟨UA9, un9, uc9, rfl, hsu9⟩ := Sl.of_own hou9
    have hun9 : un9 = 2 := hsu9.len.trans (lit_len _ _)
    subst hun9
    have ho9 := ho8'.below hb9 (Nat.le_refl _)
    have hx9 := hx8.below hb9
    have hbb9 := HBW8.trans (hb9.mono HBW8.size)
    have hz9 := hbb9.size
    clear z0 z1 z2 z3 z4 z5 z6 z7 z8 z9 z10 z11 z12 z13 z14 z15 z16 z17 z18 z19 z20 z21 z22 z23 z24 z25 z26 z27
    clear hou9 hb9 ho8' hx8 HBW8
    obtain ⟨z0, z1, z2, z3, z4, z5, z6, z7, z8, z9, z10, z11, z12, z13, z14, z15, z16, z17, z18, z19, z20, z21, z22, z23, z24, z25, z26, z27⟩ := hx9.all
    go_wp2_with (at_builtin; go_loud (refine wpList_append_rd _ rfl (.tmp 94) (.tmp 98) _ rfl w2.heap.size 5 i0 _ 1 Try.underlying60 hi hz0 hz1 hz2 rfl v8 LA.length (bvs LA) rfl ho9 _ UA9 2 uc9 (bvs (lit dvx 2)) rfl (by rw [len_bvs, lit_len]) hsu9.row hsu9.nil (bvs_one _) (by unfold maxLen; omega) (by omega) hz9 ?_); intro v10 w10 hoo10 hg10; refine Hid.out ?_)
    refine Lib.hid ?_
    have ho10' : Mem.Own w2.heap.size w10 v10 (LA ++ lit dvx 2) := own_of hoo10 (by rw [List.length_append, lit_len]) (by rw [bvs_app])
    have hx10 := hx9.grown ho9 hg10
    have HBW10 := below_grown hbb9 ho9 hg10 hz9
    have hlLB : (LA ++ lit dvx 2).length ≤ 30 := by rw [List.length_append, lit_len]; omega
    have hz10 := HBW10.size
    clear z0 z1 z2 z3 z4 z5 z6 z7 z8 z9 z10 z11 z12 z13 z14 z15 z16 z17 z18 z19 z20 z21 z22 z23 z24 z25 z26 z27
    clear hoo10 hx9 hg10 ho9 hz9 hbb9 hsu9
    generalize hqLB : LA ++ lit dvx 2 = LB at *
    have HQLB := Lib.hid hqLB
    clear hqLB
    obtain ⟨z0, z1, z2, z3, z4, z5, z6, z7, z8, z9, z10, z11, z12, z13, z14, z15, z16, z17, z18, z19, z20, z21, z22, z23, z24, z25, z26, z27⟩ := hx10.all
    obtain ⟨SA, sn, sc, rfl, hs0⟩ := Sl.of_own ho10'
    have hsn := hs0.len
    have HS8 := Lib.hid (Wd.rseal8_any SA sn sc LB w10 hs0.len hs0.row (by omega))
    clear z0 z1 z2 z3 z4 z5 z6 z7 z8 z9 z10 z11 z12 z13 z14 z15 z16 z17 z18 z19 z20 z21 z22 z23 z24 z25 z26 z27
    clear hsn hs0 ho10' hx10
    go_wp2_with fail
    refine HS8.out.mono ?_
    rintro e wz ⟨vz, rfl, hoz, hbz⟩
    go_wp2_with fail
    go_ret2
    refine ⟨vz, rfl, ?_, HB.trans ((HBW10.trans (hbz.mono HBW10.size)).mono HB.size)⟩
    have hfin : HS ++ bl nm ++ MD ++ lit av 2 ++ lit dv 2 = LB := by rw [hm, ← HLst.out, ← HLav.out, ← HLdv.out, HQ4.out, HQL5.out, HQLA.out, HQLB.out]
    rw [hfin]
    exact hoz.base_ (Nat.le_trans HB.size HBW10.size)
end Go.Proofs.Ytafoaonkjcfbaaa.Va
