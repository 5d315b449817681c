/- Walks: the reference of events: Valid, Encode. -/
import Derived.Test.YtgbnigbjnbcfeaaDoorV7h
import Derived.Test.YtgbnigbjnbcfeaaDoorLn
namespace Go.Proofs.YtgbnigbjnbcfeaaDoor.V7
open Go.RowKit Go.Proofs.YtgbnigbjnbcfeaaDoor.Mem Go.Proofs.YtgbnigbjnbcfeaaDoor.F2p Go.Proofs.YtgbnigbjnbcfeaaDoor.Ln
set_option maxRecDepth 100000
set_option maxHeartbeats 4000000

theorem valid_r (e : Ev) (w : World) : Calls Tryd.prog 18 #[e.v] w fun x w' => x = .returned (.bool (vld e)) ∧ Below w.heap.size w w' := by
  obtain ⟨id, time, gen, st, sn, ty, de, d0, d1, d2⟩ := e
  unfold Ev.v Ev.cells
  go_enter Tryd.func18, Tryd.ntmps18
  go_wp2_with fail
  all_goals
    go_ret
    exact ⟨ret_bool (by rw [Bool.eq_iff_iff]; simp [vld]; omega), (Below.refl _ _).alloc (Nat.le_refl _) _⟩
theorem enc_rno (e : Ev) (hv : vld e = false) (w : World) : Calls Tryd.prog 16 #[e.v] w fun x w' => x = .returned (.tuple #[.slice none 0 0, .int .i64 1]) ∧ Below w.heap.size w w' := by
  have hB := Lib.hid (Box.new w e)
  have hs : Below w.heap.size w (w.alloc (.cells e.cells 26)) := (Below.refl _ _).alloc (Nat.le_refl _) _
  have hV := Lib.hid (fun u => by have := valid_r e u; rw [hv] at this; exact this)
  clear hv
  obtain ⟨id, time, gen, st, sn, ty, de, d0, d1, d2⟩ := e
  dsimp only [Ev.v, Ev.cells] at *
  replace hs := Lib.hid hs
  go_enter Tryd.func16, Tryd.ntmps16
  go_wp2_with (refine wpList_load_box rfl (.tmp 1) rfl w.heap.size _ rfl hB.out ?_)
  refine (hV.out _).mono ?_
  rintro e w1 ⟨rfl, hb⟩
  go_wp2_with fail
  go_ret2
  exact ⟨rfl, hs.out.trans (hb.mono (by simp))⟩
theorem encE_lit (e : Ev) (hf : e.Fit) : encE e = lit e.id 2 ++ [2] ++ lit e.time 4 ++ lit e.gen 2 ++ [4, UInt8.ofNat e.st, UInt8.ofNat e.sn, UInt8.ofNat (tb e), UInt8.ofNat e.d0, UInt8.ofNat e.d1, UInt8.ofNat e.d2] := by
  have h1 := hf.id; have h2 := hf.time; have h3 := hf.gen
  have a1 : e.id / 256 % 256 = e.id / 256 := by omega
  have a2 : e.gen / 256 % 256 = e.gen / 256 := by omega
  have a3 : e.time / 256 / 256 % 256 = e.time / 65536 % 256 := by rw [Nat.div_div_eq_div_mul]
  have a4 : e.time / 256 / 256 / 256 % 256 = e.time / 16777216 := by rw [Nat.div_div_eq_div_mul, Nat.div_div_eq_div_mul]; omega
  simp only [encE, encN, lit, List.map, List.cons_append, List.nil_append, a1, a2, a3, a4]
  rfl
theorem enc_r (e : Ev) (hf : e.Fit) (hv : vld e = true) (w : World) : Calls Tryd.prog 16 #[e.v] w fun x w' => ∃ v, x = .returned (.tuple #[v, .int .i64 0]) ∧ Own w.heap.size w' v (encE e) ∧ Below w.heap.size w w' := by
  have hB := Box.new w e
  have hs : Below w.heap.size w (w.alloc (.cells e.cells 26)) := (Below.refl _ _).alloc (Nat.le_refl _) _
  have hV := Lib.hid (fun u => by have := valid_r e u; rw [hv] at this; exact this)
  obtain ⟨F, hF⟩ : ∃ F, F = encE e := ⟨_, rfl⟩
  rw [← hF]
  rw [encE_lit e hf] at hF
  replace hF := Lib.hid hF
  obtain ⟨i0, hi, hz0, hz1, hz2⟩ := info_parts info5
  obtain ⟨id, time, gen, st, sn, ty, de, d0, d1, d2⟩ := e
  obtain ⟨f1, f2, f3, f4, f5, f6, f7, f8, f9⟩ := hf
  simp only [vld, Bool.and_eq_true, decide_eq_true_eq] at hv
  dsimp only [Ev.v, Ev.cells] at *
  obtain ⟨-, hty⟩ := hv
  have HL1 := Lib.hid (fun u => littles_any id 2 u (by omega) (by omega))
  have HL2 := Lib.hid (fun u => littles_any time 4 u (by omega) (by omega))
  have HL3 := Lib.hid (fun u => littles_any gen 2 u (by omega) (by omega))
  replace hs := Lib.hid hs
  replace hB := Lib.hid hB
  go_enter Tryd.func16, Tryd.ntmps16
  go_wp2_with (refine wpList_load_box rfl (.tmp 1) rfl w.heap.size _ rfl hB.out ?_)
  refine (hV.out _).mono ?_
  rintro e w1 ⟨rfl, hb⟩
  have HB := hB.out.below hb (by simp)
  have HS := hs.out.trans (hb.mono (by simp))
  clear hB hs hV hb
  have c0 := HB.c0; have c5 := HB.c5; have c6 := HB.c6
  have hlt := HB.lt
  dsimp only at c0 c5 c6
  replace HB := Lib.hid HB
  replace HS := Lib.hid HS
  cases de
  · go_wp2_with fail
    refine (HL1.out _).mono ?_
    rintro e w2 ⟨v2, rfl, own2, hb2⟩
    go_wp2_with (at_builtin; go_loud (refine wpList_append_rd _ rfl (.tmp 18) (.tmp 19) 27 rfl w1.heap.size 5 i0 _ 1 Tryd.underlying27 hi hz0 hz1 hz2 rfl v2 (lit id 2).length (bvs (lit id 2)) rfl (World.ownsRow.alloc own2 _) _ _ 1 1 (bvs [2]) rfl rfl (Rd.new w2 _ _) (fun hh => by cases hh) (bvs_one _) (by unfold maxLen; rw [lit_len]; omega) (by rw [lit_len]; omega) (by have := hb2.size; simp; omega) ?_); intro v3 w3 hown3 hg3; refine Hid.out ?_)
    refine Lib.hid ?_
    have hb3 : Below w1.heap.size w1 w3 := below_grown (hb2.alloc hb2.size _) (World.ownsRow.alloc own2 _) hg3 (by have := hb2.size; simp; omega)
    obtain ⟨L3, hL3⟩ : ∃ L3 : List UInt8, L3 = lit id 2 ++ [2] := ⟨_, rfl⟩
    have hl3 : L3.length = 3 := by rw [hL3]; simp [lit_len]
    have own3 : Own w1.heap.size w3 v3 L3 := own_of hown3 (by rw [hl3, lit_len]) (by rw [hL3, bvs_app])
    clear hown3 hg3 own2 hb2
    have c1 := (HB.out.below hb3 hlt).c1
    dsimp only at c1
    go_wp2_with fail
    refine (HL2.out _).mono ?_
    rintro e w4 ⟨v4, rfl, own4, hb4⟩
    have own34 := own3.below hb4 (Nat.le_refl _)
    have hb4' := hb3.trans (hb4.mono hb3.size)
    obtain ⟨A4, n4, c4, rfl, sl4⟩ := Sl.of_own own4
    obtain rfl : n4 = 4 := by have := sl4.len; rwa [lit_len] at this
    have c2 := (HB.out.below hb4' hlt).c2
    dsimp only at c2
    go_wp2_with (at_builtin; go_loud (refine wpList_append_rd _ rfl (.tmp 21) (.tmp 25) 27 rfl w1.heap.size 5 i0 _ 1 Tryd.underlying27 hi hz0 hz1 hz2 rfl v3 L3.length (bvs L3) rfl own34 w4.heap.size A4 4 c4 (bvs (lit time 4)) rfl (by rw [len_bvs, lit_len]) sl4.row sl4.nil (bvs_one _) (by unfold maxLen; omega) (by omega) hb4'.size ?_); intro v5 w5 hown5 hg5; refine Hid.out ?_)
    refine Lib.hid ?_
    have hb5 : Below w1.heap.size w1 w5 := below_grown hb4' own34 hg5 hb4'.size
    obtain ⟨L5, hL5⟩ : ∃ L5 : List UInt8, L5 = L3 ++ lit time 4 := ⟨_, rfl⟩
    have hl5 : L5.length = 7 := by rw [hL5]; simp [lit_len, hl3]
    have own5 : Own w1.heap.size w5 v5 L5 := own_of hown5 (by rw [hl5, hl3]) (by rw [hL5, bvs_app])
    clear hown5 hg5 own34 own4 sl4 hb4 hb4' own3 hb3 c1 c2
    have c2 := (HB.out.below hb5 hlt).c2
    dsimp only at c2
    go_wp2_with fail
    refine (HL3.out _).mono ?_
    rintro e w6 ⟨v6, rfl, own6, hb6⟩
    have own56 := own5.below hb6 (Nat.le_refl _)
    have hb6' := hb5.trans (hb6.mono hb5.size)
    obtain ⟨A6, n6, c6', rfl, sl6⟩ := Sl.of_own own6
    obtain rfl : n6 = 2 := by have := sl6.len; rwa [lit_len] at this
    go_wp2_with (at_builtin; go_loud (refine wpList_append_rd _ rfl (.tmp 27) (.tmp 31) 27 rfl w1.heap.size 5 i0 _ 1 Tryd.underlying27 hi hz0 hz1 hz2 rfl v5 L5.length (bvs L5) rfl own56 w6.heap.size A6 2 c6' (bvs (lit gen 2)) rfl (by rw [len_bvs, lit_len]) sl6.row sl6.nil (bvs_one _) (by unfold maxLen; omega) (by omega) hb6'.size ?_); intro v7 w7 hown7 hg7; refine Hid.out ?_)
    refine Lib.hid ?_
    have hb7 : Below w1.heap.size w1 w7 := below_grown hb6' own56 hg7 hb6'.size
    obtain ⟨L7, hL7⟩ : ∃ L7 : List UInt8, L7 = L5 ++ lit gen 2 := ⟨_, rfl⟩
    have hll : L7.length = 9 := by rw [hL7]; simp [lit_len, hl5]
    have own7 : Own w1.heap.size w7 v7 L7 := own_of hown7 (by rw [hll, hl5]) (by rw [hL7, bvs_app])
    clear hown7 hg7 own56 own6 sl6 hb6 hb6' own5 hb5 c2
    have HB7 := HB.out.below hb7 hlt
    have c3 := HB7.c3; have c4 := HB7.c4; have c7 := HB7.c7; have c8 := HB7.c8; have c9 := HB7.c9
    dsimp only at c3 c4 c7 c8 c9
    clear HB7
    have hnew := Lib.hid (bvs_nat [4, st, sn, ty, d0, d1, d2] (by simp; omega))
    go_wp2_with (at_builtin; go_loud (refine wpList_append_rd _ rfl (.tmp 33) (.tmp 48) 27 rfl w1.heap.size 5 i0 _ 1 Tryd.underlying27 hi hz0 hz1 hz2 rfl v7 L7.length (bvs L7) rfl (World.ownsRow.alloc own7 _) (w7.heap.size + 1) (some ⟨w7.heap.size, 0, none⟩) 7 7 [.int .u8 4, .int .u8 (st : Int), .int .u8 (sn : Int), .int .u8 (ty : Int), .int .u8 (d0 : Int), .int .u8 (d1 : Int), .int .u8 (d2 : Int)] rfl rfl (Rd.new w7 #[.int .u8 4, .int .u8 (st : Int), .int .u8 (sn : Int), .int .u8 (ty : Int), .int .u8 (d0 : Int), .int .u8 (d1 : Int), .int .u8 (d2 : Int)] 5) (fun hh => by cases hh) (by intro u hu; simp at hu; rcases hu with rfl | rfl | rfl | rfl | rfl | rfl | rfl <;> rfl) (by unfold maxLen; omega) (by omega) (by have := hb7.size; simp; omega) ?_); intro v8 w8 hown8 hg8)
    go_ret2
    have hb8 : Below w1.heap.size w1 w8 := below_grown (hb7.alloc hb7.size _) (World.ownsRow.alloc own7 _) hg8 (by have := hb7.size; simp; omega)
    have hfin : bvs F = bvs L7 ++ [.int .u8 4, .int .u8 (st : Int), .int .u8 (sn : Int), .int .u8 (ty : Int), .int .u8 (d0 : Int), .int .u8 (d1 : Int), .int .u8 (d2 : Int)] := by
      rw [hF.out, hL7, hL5, hL3, bvs_app]
      refine congrArg (bvs _ ++ ·) ?_
      have := hnew.out
      simp only [List.map] at this
      first
        | exact this
        | (rw [show ((ty + 128 : Nat) : Int) = (ty : Int) + 128 by omega] at this; exact this)
    have own8 : Own w1.heap.size w8 v8 F := own_of hown8 (by have := congrArg List.length hfin; rw [len_bvs, List.length_append, len_bvs] at this; exact this.symm) hfin.symm
    exact ⟨v8, rfl, own8.base_ HS.out.size, HS.out.trans (hb8.mono HS.out.size)⟩
  · go_wp2_with fail
    refine (HL1.out _).mono ?_
    rintro e w2 ⟨v2, rfl, own2, hb2⟩
    go_wp2_with (at_builtin; go_loud (refine wpList_append_rd _ rfl (.tmp 18) (.tmp 19) 27 rfl w1.heap.size 5 i0 _ 1 Tryd.underlying27 hi hz0 hz1 hz2 rfl v2 (lit id 2).length (bvs (lit id 2)) rfl (World.ownsRow.alloc own2 _) _ _ 1 1 (bvs [2]) rfl rfl (Rd.new w2 _ _) (fun hh => by cases hh) (bvs_one _) (by unfold maxLen; rw [lit_len]; omega) (by rw [lit_len]; omega) (by have := hb2.size; simp; omega) ?_); intro v3 w3 hown3 hg3; refine Hid.out ?_)
    refine Lib.hid ?_
    have hb3 : Below w1.heap.size w1 w3 := below_grown (hb2.alloc hb2.size _) (World.ownsRow.alloc own2 _) hg3 (by have := hb2.size; simp; omega)
    obtain ⟨L3, hL3⟩ : ∃ L3 : List UInt8, L3 = lit id 2 ++ [2] := ⟨_, rfl⟩
    have hl3 : L3.length = 3 := by rw [hL3]; simp [lit_len]
    have own3 : Own w1.heap.size w3 v3 L3 := own_of hown3 (by rw [hl3, lit_len]) (by rw [hL3, bvs_app])
    clear hown3 hg3 own2 hb2
    have c1 := (HB.out.below hb3 hlt).c1
    dsimp only at c1
    go_wp2_with fail
    refine (HL2.out _).mono ?_
    rintro e w4 ⟨v4, rfl, own4, hb4⟩
    have own34 := own3.below hb4 (Nat.le_refl _)
    have hb4' := hb3.trans (hb4.mono hb3.size)
    obtain ⟨A4, n4, c4, rfl, sl4⟩ := Sl.of_own own4
    obtain rfl : n4 = 4 := by have := sl4.len; rwa [lit_len] at this
    have c2 := (HB.out.below hb4' hlt).c2
    dsimp only at c2
    go_wp2_with (at_builtin; go_loud (refine wpList_append_rd _ rfl (.tmp 21) (.tmp 25) 27 rfl w1.heap.size 5 i0 _ 1 Tryd.underlying27 hi hz0 hz1 hz2 rfl v3 L3.length (bvs L3) rfl own34 w4.heap.size A4 4 c4 (bvs (lit time 4)) rfl (by rw [len_bvs, lit_len]) sl4.row sl4.nil (bvs_one _) (by unfold maxLen; omega) (by omega) hb4'.size ?_); intro v5 w5 hown5 hg5; refine Hid.out ?_)
    refine Lib.hid ?_
    have hb5 : Below w1.heap.size w1 w5 := below_grown hb4' own34 hg5 hb4'.size
    obtain ⟨L5, hL5⟩ : ∃ L5 : List UInt8, L5 = L3 ++ lit time 4 := ⟨_, rfl⟩
    have hl5 : L5.length = 7 := by rw [hL5]; simp [lit_len, hl3]
    have own5 : Own w1.heap.size w5 v5 L5 := own_of hown5 (by rw [hl5, hl3]) (by rw [hL5, bvs_app])
    clear hown5 hg5 own34 own4 sl4 hb4 hb4' own3 hb3 c1 c2
    have c2 := (HB.out.below hb5 hlt).c2
    dsimp only at c2
    go_wp2_with fail
    refine (HL3.out _).mono ?_
    rintro e w6 ⟨v6, rfl, own6, hb6⟩
    have own56 := own5.below hb6 (Nat.le_refl _)
    have hb6' := hb5.trans (hb6.mono hb5.size)
    obtain ⟨A6, n6, c6', rfl, sl6⟩ := Sl.of_own own6
    obtain rfl : n6 = 2 := by have := sl6.len; rwa [lit_len] at this
    go_wp2_with (at_builtin; go_loud (refine wpList_append_rd _ rfl (.tmp 27) (.tmp 31) 27 rfl w1.heap.size 5 i0 _ 1 Tryd.underlying27 hi hz0 hz1 hz2 rfl v5 L5.length (bvs L5) rfl own56 w6.heap.size A6 2 c6' (bvs (lit gen 2)) rfl (by rw [len_bvs, lit_len]) sl6.row sl6.nil (bvs_one _) (by unfold maxLen; omega) (by omega) hb6'.size ?_); intro v7 w7 hown7 hg7; refine Hid.out ?_)
    refine Lib.hid ?_
    have hb7 : Below w1.heap.size w1 w7 := below_grown hb6' own56 hg7 hb6'.size
    obtain ⟨L7, hL7⟩ : ∃ L7 : List UInt8, L7 = L5 ++ lit gen 2 := ⟨_, rfl⟩
    have hll : L7.length = 9 := by rw [hL7]; simp [lit_len, hl5]
    have own7 : Own w1.heap.size w7 v7 L7 := own_of hown7 (by rw [hll, hl5]) (by rw [hL7, bvs_app])
    clear hown7 hg7 own56 own6 sl6 hb6 hb6' own5 hb5 c2
    have HB7 := HB.out.below hb7 hlt
    have c3 := HB7.c3; have c4 := HB7.c4; have c7 := HB7.c7; have c8 := HB7.c8; have c9 := HB7.c9
    dsimp only at c3 c4 c7 c8 c9
    clear HB7
    have htI : (ty : Int) ≤ 127 := by omega
    have hnew := Lib.hid (bvs_nat [4, st, sn, ty + 128, d0, d1, d2] (by simp; omega))
    go_wp2_with (at_builtin; go_loud (refine wpList_append_rd _ rfl (.tmp 33) (.tmp 48) 27 rfl w1.heap.size 5 i0 _ 1 Tryd.underlying27 hi hz0 hz1 hz2 rfl v7 L7.length (bvs L7) rfl (World.ownsRow.alloc own7 _) (w7.heap.size + 1) (some ⟨w7.heap.size, 0, none⟩) 7 7 [.int .u8 4, .int .u8 (st : Int), .int .u8 (sn : Int), .int .u8 ((ty : Int) + 128), .int .u8 (d0 : Int), .int .u8 (d1 : Int), .int .u8 (d2 : Int)] rfl rfl (Rd.new w7 #[.int .u8 4, .int .u8 (st : Int), .int .u8 (sn : Int), .int .u8 ((ty : Int) + 128), .int .u8 (d0 : Int), .int .u8 (d1 : Int), .int .u8 (d2 : Int)] 5) (fun hh => by cases hh) (by intro u hu; simp at hu; rcases hu with rfl | rfl | rfl | rfl | rfl | rfl | rfl <;> rfl) (by unfold maxLen; omega) (by omega) (by have := hb7.size; simp; omega) ?_); intro v8 w8 hown8 hg8)
    go_ret2
    have hb8 : Below w1.heap.size w1 w8 := below_grown (hb7.alloc hb7.size _) (World.ownsRow.alloc own7 _) hg8 (by have := hb7.size; simp; omega)
    have hfin : bvs F = bvs L7 ++ [.int .u8 4, .int .u8 (st : Int), .int .u8 (sn : Int), .int .u8 ((ty : Int) + 128), .int .u8 (d0 : Int), .int .u8 (d1 : Int), .int .u8 (d2 : Int)] := by
      rw [hF.out, hL7, hL5, hL3, bvs_app]
      refine congrArg (bvs _ ++ ·) ?_
      have := hnew.out
      simp only [List.map] at this
      first
        | exact this
        | (rw [show ((ty + 128 : Nat) : Int) = (ty : Int) + 128 by omega] at this; exact this)
    have own8 : Own w1.heap.size w8 v8 F := own_of hown8 (by have := congrArg List.length hfin; rw [len_bvs, List.length_append, len_bvs] at this; exact this.symm) hfin.symm
    exact ⟨v8, rfl, own8.base_ HS.out.size, HS.out.trans (hb8.mono HS.out.size)⟩
end Go.Proofs.YtgbnigbjnbcfeaaDoor.V7
