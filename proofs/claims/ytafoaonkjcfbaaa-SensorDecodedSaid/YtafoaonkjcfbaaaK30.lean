/- Walks: the reference of conversions: bytes of conversions without a table. -/
import Derived.Test.YtafoaonkjcfbaaaK29
namespace Go.Proofs.Ytafoaonkjcfbaaa.C4v
open Go.RowKit Go.Proofs.Ytafoaonkjcfbaaa.Mem Go.Proofs.Ytafoaonkjcfbaaa.M3p Go.Proofs.Ytafoaonkjcfbaaa.M3r Go.Proofs.Ytafoaonkjcfbaaa.C4p Go.Proofs.Ytafoaonkjcfbaaa.C4l
set_option maxRecDepth 100000
set_option maxHeartbeats 4000000

theorem enc_no (f m b k1 k2 : Int) (s : Bool) (A : Option Addr) (n cp : Nat) (l : List Pt) (w : World) (hsl : PSl w A n cp l) (hv : vld ⟨f, s, m, b, k1, k2, l⟩ = false) :
    Calls Try.prog 68 #[.agg #[.int .i64 f, .bool s, .int .i64 m, .int .i64 b, .int .i64 k1, .int .i64 k2, .slice A n cp]] w fun e w' => e = .returned (.tuple #[.slice none 0 0, .int .i64 1]) ∧ Below w.heap.size w w' := by
  have hb1 : Below w.heap.size w (w.alloc (.cells #[.int .i64 f, .bool s, .int .i64 m, .int .i64 b, .int .i64 k1, .int .i64 k2, .slice A n cp] 54)) := (Below.refl _ _).alloc (Nat.le_refl _) _
  have HV := Lib.hid (by have := valid_r f m b k1 k2 s A n cp l _ (hsl.step hb1); rw [hv] at this; exact this)
  clear hsl hv
  go_enter Try.func68, Try.ntmps68
  go_wp2_with fail
  refine (HV.out).mono ?_
  rintro e w2 ⟨rfl, hb2⟩
  go_wp2_with fail
  go_ret2
  exact ⟨rfl, hb1.trans (hb2.mono hb1.size)⟩
theorem enc_lin (f m b k1 k2 : Int) (s : Bool) (A : Option Addr) (n cp : Nat) (l : List Pt) (w : World) (hsl : PSl w A n cp l) (hv : vld ⟨f, s, m, b, k1, k2, l⟩ = true) (h5 : f ≠ 5) :
    Calls Try.prog 68 #[.agg #[.int .i64 f, .bool s, .int .i64 m, .int .i64 b, .int .i64 k1, .int .i64 k2, .slice A n cp]] w fun e w' => ∃ u, e = .returned (.tuple #[u, .int .i64 0]) ∧ Own w.heap.size w' u (enc ⟨f, s, m, b, k1, k2, l⟩) ∧ Below w.heap.size w w' := by
  obtain ⟨i0, hi, hz0, hz1', hzq⟩ := info_parts info5
  obtain ⟨w1, hw1⟩ : ∃ w1, w1 = w.alloc (.cells #[.int .i64 f, .bool s, .int .i64 m, .int .i64 b, .int .i64 k1, .int .i64 k2, .slice A n cp] 54) := ⟨_, rfl⟩
  have hb1 : Below w.heap.size w w1 := by rw [hw1]; exact (Below.refl _ _).alloc (Nat.le_refl _) _
  have hst : w1.heap[w.heap.size]? = some (.cells #[.int .i64 f, .bool s, .int .i64 m, .int .i64 b, .int .i64 k1, .int .i64 k2, .slice A n cp] 54 (0, 0)) := by rw [hw1]; exact heap_alloc_new w _
  have hlt : w.heap.size < w1.heap.size := by rw [hw1]; simp
  have hc : ∀ i v, (#[.int .i64 f, .bool s, .int .i64 m, .int .i64 b, .int .i64 k1, .int .i64 k2, .slice A n cp] : Array Value)[i]? = some v → w1.cell? ⟨w.heap.size, i, none⟩ = some v := by
    intro i v h
    rw [cell_of_row w1 w.heap.size i _ _ _ hst]
    exact h
  have HC := Lib.hid hc
  have HV := Lib.hid (by have := valid_r f m b k1 k2 s A n cp l w1 (hsl.step hb1); rw [hv] at this; exact this)
  obtain ⟨⟨f1, f4⟩, -, -⟩ := vld_lin hv h5
  dsimp only at f1 f4
  have hhd := hd_nat hv
  dsimp only at hhd
  have hen : enc ⟨f, s, m, b, k1, k2, l⟩ = [hd ⟨f, s, m, b, k1, k2, l⟩] ++ le m 2 ++ le b 2 ++ le k1 1 ++ le k2 1 := by unfold enc; rw [if_neg h5]; simp
  obtain ⟨R, hR⟩ : ∃ R, R = enc ⟨f, s, m, b, k1, k2, l⟩ := ⟨_, rfl⟩
  rw [← hR]
  rw [← hR] at hen
  have HEN := Lib.hid hen
  obtain ⟨H, hH⟩ : ∃ H, H = hd ⟨f, s, m, b, k1, k2, l⟩ := ⟨_, rfl⟩
  rw [← hH] at HEN hhd
  have hne : (f != 5) = true := by rw [bne_iff_ne]; exact h5
  have hfx : ∃ x : Nat, f = (x : Int) ∧ x ≤ 4 := ⟨f.toNat, by omega, by omega⟩
  obtain ⟨x, rfl, hx4⟩ := hfx
  have hhx : H.toNat = x + if s = true then 128 else 0 := by rw [hhd.1]; rfl
  have HH := Lib.hid hhx
  clear hc hst hen hR hH hhd h5 hv hhx hsl
  cases s
  · go_enter Try.func68, Try.ntmps68
    go_wp2_with fail
    rw [← hw1]
    clear hw1
    refine (HV.out).mono ?_
    rintro e w2 ⟨rfl, hb2⟩
    have hbb : Below w.heap.size w w2 := hb1.trans (hb2.mono hb1.size)
    have HLT := Lib.hid hlt
    have HCC := Lib.hid (fun i v h wr (hr : Below w1.heap.size w2 wr) => (by rw [hr.cell (p := ⟨w.heap.size, i, none⟩) (by exact hlt), hb2.cell (p := ⟨w.heap.size, i, none⟩) hlt]; exact HC.out i v h : wr.cell? ⟨w.heap.size, i, none⟩ = some v))
    have HB2 := Lib.hid hb2
    have hbu0 : Below w1.heap.size w2 (w2.alloc (.cells #[.int .u8 (x : Int)] 5)) := (Below.refl _ _).alloc HB2.out.size _
    have d0 := HCC.out 0 _ rfl _ hbu0
    have d2 := HCC.out 2 _ rfl _ hbu0
    have c0 := HCC.out 0 _ rfl w2 (Below.refl _ _)
    have c1 := HCC.out 1 _ rfl w2 (Below.refl _ _)
    have own0 : Own w1.heap.size (w2.alloc (.cells #[.int .u8 (x : Int)] 5)) (.slice (some ⟨w2.heap.size, 0, none⟩) 1 1) [H] := own_of (World.ownsRow_lit (base := w1.heap.size) (e := 5) (size := 1) w2 #[.int .u8 (x : Int)] 1 HB2.out.size (by unfold maxLen; omega) rfl) rfl (by
          have e : H.toNat = x := by have := HH.out; simpa using this
          simp [bvs, bv]; omega)
    clear hb1 hb2 HC HV hlt
    go_wp2_with fail
    generalize w2.alloc (.cells #[.int .u8 (x : Int)] 5) = u0 at *
    obtain ⟨v0, hv0⟩ : ∃ v, v = Value.slice (some ⟨w2.heap.size, 0, none⟩) 1 1 := ⟨_, rfl⟩
    have hzs := hbu0.size
    have hz1 := HB2.out.size
    refine (little_r m 2 u0 (by omega)).mono ?_
    rintro e y0 ⟨z0, rfl, hz0, hy0⟩
    obtain ⟨A0, n0, p0, rfl, sl0⟩ := Sl.of_own hz0
    have hlen0 : n0 = 2 := by rw [sl0.len, le_len]
    subst hlen0
    have hby0 : Below w1.heap.size w2 y0 := hbu0.trans (hy0.mono (by omega))
    have owy0 : Own w1.heap.size y0 (.slice (some ⟨w2.heap.size, 0, none⟩) 1 1) [H] := own0.below hy0 (Nat.le_refl _)
    have hsy0 := hy0.size
    clear own0 hz0
    go_wp2_with (at_builtin; go_loud (refine wpList_append_rd _ rfl _ _ _ rfl w1.heap.size 5 i0 _ 1 Try.underlying60 hi hz0 hz1' hzq rfl _ _ (bvs [H]) rfl owy0 _ A0 2 p0 (bvs (le m 2)) rfl (by rw [len_bvs, le_len]) sl0.row sl0.nil (bvs_one _) (by unfold maxLen; simp) (by simp) (by omega) ?_); intro v1 u1 hown1 hg1; refine Hid.out ?_)
    refine Lib.hid ?_
    have own1 : Own w1.heap.size u1 v1 ([H] ++ le m 2) := own_of hown1 (by simp [le_len]) (bvs_app _ _).symm
    have hbu1 : Below w1.heap.size w2 u1 := below_grown hby0 owy0 hg1 (by omega)
    have hzu1 := hg1.size
    clear owy0 hg1 hown1
    have d3 := HCC.out 3 _ rfl _ hbu1
    go_wp2_with fail
    refine (little_r b 2 u1 (by omega)).mono ?_
    rintro e y1 ⟨z1, rfl, hz1, hy1⟩
    obtain ⟨A1, n1, p1, rfl, sl1⟩ := Sl.of_own hz1
    have hlen1 : n1 = 2 := by rw [sl1.len, le_len]
    subst hlen1
    have hby1 : Below w1.heap.size w2 y1 := hbu1.trans (hy1.mono (by omega))
    have owy1 : Own w1.heap.size y1 v1 ([H] ++ le m 2) := own1.below hy1 (Nat.le_refl _)
    have hsy1 := hy1.size
    clear own1 hz1
    go_wp2_with (at_builtin; go_loud (refine wpList_append_rd _ rfl _ _ _ rfl w1.heap.size 5 i0 _ 1 Try.underlying60 hi hz0 hz1' hzq rfl _ _ (bvs ([H] ++ le m 2)) rfl owy1 _ A1 2 p1 (bvs (le b 2)) rfl (by rw [len_bvs, le_len]) sl1.row sl1.nil (bvs_one _) (by unfold maxLen; simp [le_len]) (by simp [le_len]) (by omega) ?_); intro v2 u2 hown2 hg2; refine Hid.out ?_)
    refine Lib.hid ?_
    have own2 : Own w1.heap.size u2 v2 (([H] ++ le m 2) ++ le b 2) := own_of hown2 (by simp [le_len]) (bvs_app _ _).symm
    have hbu2 : Below w1.heap.size w2 u2 := below_grown hby1 owy1 hg2 (by omega)
    have hzu2 := hg2.size
    clear owy1 hg2 hown2
    have d4 := HCC.out 4 _ rfl _ hbu2
    go_wp2_with fail
    refine (little_r k1 1 u2 (by omega)).mono ?_
    rintro e y2 ⟨z2, rfl, hz2, hy2⟩
    obtain ⟨A2, n2, p2, rfl, sl2⟩ := Sl.of_own hz2
    have hlen2 : n2 = 1 := by rw [sl2.len, le_len]
    subst hlen2
    have hby2 : Below w1.heap.size w2 y2 := hbu2.trans (hy2.mono (by omega))
    have owy2 : Own w1.heap.size y2 v2 ([H] ++ le m 2 ++ le b 2) := own2.below hy2 (Nat.le_refl _)
    have hsy2 := hy2.size
    clear own2 hz2
    go_wp2_with (at_builtin; go_loud (refine wpList_append_rd _ rfl _ _ _ rfl w1.heap.size 5 i0 _ 1 Try.underlying60 hi hz0 hz1' hzq rfl _ _ (bvs ([H] ++ le m 2 ++ le b 2)) rfl owy2 _ A2 1 p2 (bvs (le k1 1)) rfl (by rw [len_bvs, le_len]) sl2.row sl2.nil (bvs_one _) (by unfold maxLen; simp [le_len]) (by simp [le_len]) (by omega) ?_); intro v3 u3 hown3 hg3; refine Hid.out ?_)
    refine Lib.hid ?_
    have own3 : Own w1.heap.size u3 v3 (([H] ++ le m 2 ++ le b 2) ++ le k1 1) := own_of hown3 (by simp [le_len]) (bvs_app _ _).symm
    have hbu3 : Below w1.heap.size w2 u3 := below_grown hby2 owy2 hg3 (by omega)
    have hzu3 := hg3.size
    clear owy2 hg3 hown3
    have d5 := HCC.out 5 _ rfl _ hbu3
    go_wp2_with fail
    refine (little_r k2 1 u3 (by omega)).mono ?_
    rintro e y3 ⟨z3, rfl, hz3, hy3⟩
    obtain ⟨A3, n3, p3, rfl, sl3⟩ := Sl.of_own hz3
    have hlen3 : n3 = 1 := by rw [sl3.len, le_len]
    subst hlen3
    have hby3 : Below w1.heap.size w2 y3 := hbu3.trans (hy3.mono (by omega))
    have owy3 : Own w1.heap.size y3 v3 ([H] ++ le m 2 ++ le b 2 ++ le k1 1) := own3.below hy3 (Nat.le_refl _)
    have hsy3 := hy3.size
    clear own3 hz3
    go_wp2_with (at_builtin; go_loud (refine wpList_append_rd _ rfl _ _ _ rfl w1.heap.size 5 i0 _ 1 Try.underlying60 hi hz0 hz1' hzq rfl _ _ (bvs ([H] ++ le m 2 ++ le b 2 ++ le k1 1)) rfl owy3 _ A3 1 p3 (bvs (le k2 1)) rfl (by rw [len_bvs, le_len]) sl3.row sl3.nil (bvs_one _) (by unfold maxLen; simp [le_len]) (by simp [le_len]) (by omega) ?_); intro v4 u4 hown4 hg4; refine Hid.out ?_)
    refine Lib.hid ?_
    have own4 : Own w1.heap.size u4 v4 (([H] ++ le m 2 ++ le b 2 ++ le k1 1) ++ le k2 1) := own_of hown4 (by simp [le_len]) (bvs_app _ _).symm
    have hbu4 : Below w1.heap.size w2 u4 := below_grown hby3 owy3 hg4 (by omega)
    have hzu4 := hg4.size
    clear owy3 hg4 hown4
    go_wp2_with fail
    go_ret2
    exact ⟨v4, rfl, by rw [HEN.out]; exact own4.base_ (by have := HLT.out; omega), hbb.trans (hbu4.mono (by have := HLT.out; omega))⟩
  · go_enter Try.func68, Try.ntmps68
    go_wp2_with fail
    rw [← hw1]
    clear hw1
    refine (HV.out).mono ?_
    rintro e w2 ⟨rfl, hb2⟩
    have hbb : Below w.heap.size w w2 := hb1.trans (hb2.mono hb1.size)
    have HLT := Lib.hid hlt
    have HCC := Lib.hid (fun i v h wr (hr : Below w1.heap.size w2 wr) => (by rw [hr.cell (p := ⟨w.heap.size, i, none⟩) (by exact hlt), hb2.cell (p := ⟨w.heap.size, i, none⟩) hlt]; exact HC.out i v h : wr.cell? ⟨w.heap.size, i, none⟩ = some v))
    have HB2 := Lib.hid hb2
    have hbu0 : Below w1.heap.size w2 (w2.alloc (.cells #[.int .u8 ((x : Int) + 128)] 5)) := (Below.refl _ _).alloc HB2.out.size _
    have d0 := HCC.out 0 _ rfl _ hbu0
    have d2 := HCC.out 2 _ rfl _ hbu0
    have c0 := HCC.out 0 _ rfl w2 (Below.refl _ _)
    have c1 := HCC.out 1 _ rfl w2 (Below.refl _ _)
    have own0 : Own w1.heap.size (w2.alloc (.cells #[.int .u8 ((x : Int) + 128)] 5)) (.slice (some ⟨w2.heap.size, 0, none⟩) 1 1) [H] := own_of (World.ownsRow_lit (base := w1.heap.size) (e := 5) (size := 1) w2 #[.int .u8 ((x : Int) + 128)] 1 HB2.out.size (by unfold maxLen; omega) rfl) rfl (by
          have e : H.toNat = x + 128 := by have := HH.out; simpa using this
          simp [bvs, bv]; omega)
    clear hb1 hb2 HC HV hlt
    go_wp2_with fail
    generalize w2.alloc (.cells #[.int .u8 ((x : Int) + 128)] 5) = u0 at *
    obtain ⟨v0, hv0⟩ : ∃ v, v = Value.slice (some ⟨w2.heap.size, 0, none⟩) 1 1 := ⟨_, rfl⟩
    have hzs := hbu0.size
    have hz1 := HB2.out.size
    refine (little_r m 2 u0 (by omega)).mono ?_
    rintro e y0 ⟨z0, rfl, hz0, hy0⟩
    obtain ⟨A0, n0, p0, rfl, sl0⟩ := Sl.of_own hz0
    have hlen0 : n0 = 2 := by rw [sl0.len, le_len]
    subst hlen0
    have hby0 : Below w1.heap.size w2 y0 := hbu0.trans (hy0.mono (by omega))
    have owy0 : Own w1.heap.size y0 (.slice (some ⟨w2.heap.size, 0, none⟩) 1 1) [H] := own0.below hy0 (Nat.le_refl _)
    have hsy0 := hy0.size
    clear own0 hz0
    go_wp2_with (at_builtin; go_loud (refine wpList_append_rd _ rfl _ _ _ rfl w1.heap.size 5 i0 _ 1 Try.underlying60 hi hz0 hz1' hzq rfl _ _ (bvs [H]) rfl owy0 _ A0 2 p0 (bvs (le m 2)) rfl (by rw [len_bvs, le_len]) sl0.row sl0.nil (bvs_one _) (by unfold maxLen; simp) (by simp) (by omega) ?_); intro v1 u1 hown1 hg1; refine Hid.out ?_)
    refine Lib.hid ?_
    have own1 : Own w1.heap.size u1 v1 ([H] ++ le m 2) := own_of hown1 (by simp [le_len]) (bvs_app _ _).symm
    have hbu1 : Below w1.heap.size w2 u1 := below_grown hby0 owy0 hg1 (by omega)
    have hzu1 := hg1.size
    clear owy0 hg1 hown1
    have d3 := HCC.out 3 _ rfl _ hbu1
    go_wp2_with fail
    refine (little_r b 2 u1 (by omega)).mono ?_
    rintro e y1 ⟨z1, rfl, hz1, hy1⟩
    obtain ⟨A1, n1, p1, rfl, sl1⟩ := Sl.of_own hz1
    have hlen1 : n1 = 2 := by rw [sl1.len, le_len]
    subst hlen1
    have hby1 : Below w1.heap.size w2 y1 := hbu1.trans (hy1.mono (by omega))
    have owy1 : Own w1.heap.size y1 v1 ([H] ++ le m 2) := own1.below hy1 (Nat.le_refl _)
    have hsy1 := hy1.size
    clear own1 hz1
    go_wp2_with (at_builtin; go_loud (refine wpList_append_rd _ rfl _ _ _ rfl w1.heap.size 5 i0 _ 1 Try.underlying60 hi hz0 hz1' hzq rfl _ _ (bvs ([H] ++ le m 2)) rfl owy1 _ A1 2 p1 (bvs (le b 2)) rfl (by rw [len_bvs, le_len]) sl1.row sl1.nil (bvs_one _) (by unfold maxLen; simp [le_len]) (by simp [le_len]) (by omega) ?_); intro v2 u2 hown2 hg2; refine Hid.out ?_)
    refine Lib.hid ?_
    have own2 : Own w1.heap.size u2 v2 (([H] ++ le m 2) ++ le b 2) := own_of hown2 (by simp [le_len]) (bvs_app _ _).symm
    have hbu2 : Below w1.heap.size w2 u2 := below_grown hby1 owy1 hg2 (by omega)
    have hzu2 := hg2.size
    clear owy1 hg2 hown2
    have d4 := HCC.out 4 _ rfl _ hbu2
    go_wp2_with fail
    refine (little_r k1 1 u2 (by omega)).mono ?_
    rintro e y2 ⟨z2, rfl, hz2, hy2⟩
    obtain ⟨A2, n2, p2, rfl, sl2⟩ := Sl.of_own hz2
    have hlen2 : n2 = 1 := by rw [sl2.len, le_len]
    subst hlen2
    have hby2 : Below w1.heap.size w2 y2 := hbu2.trans (hy2.mono (by omega))
    have owy2 : Own w1.heap.size y2 v2 ([H] ++ le m 2 ++ le b 2) := own2.below hy2 (Nat.le_refl _)
    have hsy2 := hy2.size
    clear own2 hz2
    go_wp2_with (at_builtin; go_loud (refine wpList_append_rd _ rfl _ _ _ rfl w1.heap.size 5 i0 _ 1 Try.underlying60 hi hz0 hz1' hzq rfl _ _ (bvs ([H] ++ le m 2 ++ le b 2)) rfl owy2 _ A2 1 p2 (bvs (le k1 1)) rfl (by rw [len_bvs, le_len]) sl2.row sl2.nil (bvs_one _) (by unfold maxLen; simp [le_len]) (by simp [le_len]) (by omega) ?_); intro v3 u3 hown3 hg3; refine Hid.out ?_)
    refine Lib.hid ?_
    have own3 : Own w1.heap.size u3 v3 (([H] ++ le m 2 ++ le b 2) ++ le k1 1) := own_of hown3 (by simp [le_len]) (bvs_app _ _).symm
    have hbu3 : Below w1.heap.size w2 u3 := below_grown hby2 owy2 hg3 (by omega)
    have hzu3 := hg3.size
    clear owy2 hg3 hown3
    have d5 := HCC.out 5 _ rfl _ hbu3
    go_wp2_with fail
    refine (little_r k2 1 u3 (by omega)).mono ?_
    rintro e y3 ⟨z3, rfl, hz3, hy3⟩
    obtain ⟨A3, n3, p3, rfl, sl3⟩ := Sl.of_own hz3
    have hlen3 : n3 = 1 := by rw [sl3.len, le_len]
    subst hlen3
    have hby3 : Below w1.heap.size w2 y3 := hbu3.trans (hy3.mono (by omega))
    have owy3 : Own w1.heap.size y3 v3 ([H] ++ le m 2 ++ le b 2 ++ le k1 1) := own3.below hy3 (Nat.le_refl _)
    have hsy3 := hy3.size
    clear own3 hz3
    go_wp2_with (at_builtin; go_loud (refine wpList_append_rd _ rfl _ _ _ rfl w1.heap.size 5 i0 _ 1 Try.underlying60 hi hz0 hz1' hzq rfl _ _ (bvs ([H] ++ le m 2 ++ le b 2 ++ le k1 1)) rfl owy3 _ A3 1 p3 (bvs (le k2 1)) rfl (by rw [len_bvs, le_len]) sl3.row sl3.nil (bvs_one _) (by unfold maxLen; simp [le_len]) (by simp [le_len]) (by omega) ?_); intro v4 u4 hown4 hg4; refine Hid.out ?_)
    refine Lib.hid ?_
    have own4 : Own w1.heap.size u4 v4 (([H] ++ le m 2 ++ le b 2 ++ le k1 1) ++ le k2 1) := own_of hown4 (by simp [le_len]) (bvs_app _ _).symm
    have hbu4 : Below w1.heap.size w2 u4 := below_grown hby3 owy3 hg4 (by omega)
    have hzu4 := hg4.size
    clear owy3 hg4 hown4
    go_wp2_with fail
    go_ret2
    exact ⟨v4, rfl, by rw [HEN.out]; exact own4.base_ (by have := HLT.out; omega), hbb.trans (hbu4.mono (by have := HLT.out; omega))⟩
end Go.Proofs.Ytafoaonkjcfbaaa.C4v
