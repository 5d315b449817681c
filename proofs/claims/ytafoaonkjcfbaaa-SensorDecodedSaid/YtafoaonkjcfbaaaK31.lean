/- Walks: the reference of conversions: bytes of tables. -/
import Derived.Test.YtafoaonkjcfbaaaK30
namespace Go.Proofs.Ytafoaonkjcfbaaa.C4v
open Go.RowKit Go.Proofs.Ytafoaonkjcfbaaa.Mem Go.Proofs.Ytafoaonkjcfbaaa.M3p Go.Proofs.Ytafoaonkjcfbaaa.M3r Go.Proofs.Ytafoaonkjcfbaaa.C4p Go.Proofs.Ytafoaonkjcfbaaa.C4l
set_option maxRecDepth 100000
set_option maxHeartbeats 4000000

theorem body_app (a b : List Pt) : body (a ++ b) = body a ++ body b := by
  induction a with
  | nil => rfl
  | cons x a ih =>
    obtain ⟨r, v⟩ := x
    simp only [List.cons_append, body, ih, List.append_assoc]
theorem body_snoc {l : List Pt} {j : Nat} (h : j < l.length) : body (l.take (j + 1)) = body (l.take j) ++ [l[j].1] ++ le l[j].2 6 := by
  rw [List.take_succ_eq_append_getElem h, body_app]
  obtain ⟨r, v⟩ := l[j]
  simp [body]
theorem enc_tab (s : Bool) (A : Option Addr) (n cp : Nat) (l : List Pt) (w : World) (hsl : PSl w A n cp l) (hv : vld ⟨5, s, 0, 0, 0, 0, l⟩ = true) :
    Calls Try.prog 68 #[.agg #[.int .i64 5, .bool s, .int .i64 0, .int .i64 0, .int .i64 0, .int .i64 0, .slice A n cp]] w fun e w' => ∃ u, e = .returned (.tuple #[u, .int .i64 0]) ∧ Own w.heap.size w' u (enc ⟨5, s, 0, 0, 0, 0, l⟩) ∧ Below w.heap.size w w' := by
  obtain ⟨i0, hi, hz0, hz1', hzq⟩ := info_parts info5
  obtain ⟨w1, hw1⟩ : ∃ w1, w1 = w.alloc (.cells #[.int .i64 5, .bool s, .int .i64 0, .int .i64 0, .int .i64 0, .int .i64 0, .slice A n cp] 54) := ⟨_, rfl⟩
  have hb1 : Below w.heap.size w w1 := by rw [hw1]; exact (Below.refl _ _).alloc (Nat.le_refl _) _
  have hst : w1.heap[w.heap.size]? = some (.cells #[.int .i64 5, .bool s, .int .i64 0, .int .i64 0, .int .i64 0, .int .i64 0, .slice A n cp] 54 (0, 0)) := by rw [hw1]; exact heap_alloc_new w _
  have hlt : w.heap.size < w1.heap.size := by rw [hw1]; simp
  have hc : ∀ i v, (#[.int .i64 5, .bool s, .int .i64 0, .int .i64 0, .int .i64 0, .int .i64 0, .slice A n cp] : Array Value)[i]? = some v → w1.cell? ⟨w.heap.size, i, none⟩ = some v := by
    intro i v h
    rw [cell_of_row w1 w.heap.size i _ _ _ hst]
    exact h
  have HC := Lib.hid hc
  have HV := Lib.hid (by have := valid_r 5 0 0 0 0 s A n cp l w1 (hsl.step hb1); rw [hv] at this; exact this)
  obtain ⟨-, ⟨hp1, hp2⟩, -⟩ := vld_tab hv rfl
  dsimp only at hp1 hp2
  rw [← hsl.len] at hp1 hp2
  have hhd := (hd_nat hv).1
  obtain ⟨H, hH⟩ : ∃ H, H = hd ⟨5, s, 0, 0, 0, 0, l⟩ := ⟨_, rfl⟩
  rw [← hH] at hhd
  have hen : enc ⟨5, s, 0, 0, 0, 0, l⟩ = [H] ++ [UInt8.ofNat n] ++ body l := by unfold enc; rw [if_pos rfl, hH, hsl.len]; rfl
  obtain ⟨R, hR⟩ : ∃ R, R = enc ⟨5, s, 0, 0, 0, 0, l⟩ := ⟨_, rfl⟩
  rw [← hR]
  rw [← hR] at hen
  have HEN := Lib.hid hen
  have hhx : H.toNat = 5 + if s = true then 128 else 0 := by rw [hhd]; rfl
  have HH := Lib.hid hhx
  have HSL := Lib.hid hsl
  have hn8 : UInt8.ofNat n = UInt8.ofNat n := rfl
  have hnv : Value.int .u8 (n : Int) = bv (UInt8.ofNat n) := bv_nat (by omega)
  have HNV := Lib.hid hnv
  clear hc hst hen hR hH hhd hv hhx hsl hn8 hnv
  cases s
  · go_enter Try.func68, Try.ntmps68
    go_wp2_with fail
    rw [← hw1]
    clear hw1
    refine (HV.out).mono ?_
    rintro e w2 ⟨rfl, hb2⟩
    have hbb : Below w.heap.size w w2 := hb1.trans (hb2.mono hb1.size)
    have HLT := Lib.hid hlt
    have HCC := Lib.hid (fun i v h wr (hr : Below w1.heap.size w2 wr) => (by rw [hr.cell (p := ⟨w.heap.size, i, none⟩) (by exact hlt), hb2.cell (p := ⟨w.heap.size, i, none⟩) hlt]; exact HC.out i v h : wr.cell? ⟨w.heap.size, i, none⟩ = some v))
    have HB2 := Lib.hid hb2
    have hbu0 : Below w1.heap.size w2 (w2.alloc (.cells #[.int .u8 5] 5)) := (Below.refl _ _).alloc HB2.out.size _
    have d0 := HCC.out 0 _ rfl _ hbu0
    have d6 := HCC.out 6 _ rfl _ hbu0
    have c0 := HCC.out 0 _ rfl w2 (Below.refl _ _)
    have c1 := HCC.out 1 _ rfl w2 (Below.refl _ _)
    have own0 : Own w1.heap.size (w2.alloc (.cells #[.int .u8 5] 5)) (.slice (some ⟨w2.heap.size, 0, none⟩) 1 1) [H] := own_of (World.ownsRow_lit (base := w1.heap.size) (e := 5) (size := 1) w2 #[.int .u8 5] 1 HB2.out.size (by unfold maxLen; omega) rfl) rfl (by
          have e : H.toNat = 5 := by have := HH.out; simpa using this
          simp [bvs, bv]; omega)
    have hwr0 : IntKind.u8.wrap (n : Int) = (n : Int) := by rw [IntKind.wrap_u8]; omega
    have hzs := hbu0.size
    have hz1 := HB2.out.size
    have hrd : Rd (w2.heap.size + 1 + 1) ((w2.alloc (.cells #[.int .u8 5] 5)).alloc (.cells #[.int .u8 (n : Int)] 5)) (some ⟨w2.heap.size + 1, 0, none⟩) [.int .u8 (n : Int)] := by
      have := Rd.new (w2.alloc (.cells #[.int .u8 5] 5)) #[.int .u8 (n : Int)] 5
      simpa using this
    clear hb1 hb2 HC HV hlt
    go_wp2_with (at_builtin; go_loud (refine wpList_append_rd _ rfl _ _ _ rfl w1.heap.size 5 i0 _ 1 Try.underlying60 hi hz0 hz1' hzq rfl _ _ (bvs [H]) rfl (World.ownsRow.alloc own0 _) _ _ 1 1 [.int .u8 (n : Int)] rfl rfl hrd (fun hh => by cases hh) (by simp [Value.oneCell']) (by unfold maxLen; simp) (by simp) (by simp; omega) ?_); intro v1 u1 hown1 hg1; refine Hid.out ?_)
    refine Lib.hid ?_
    have own1 : Own w1.heap.size u1 v1 ([H] ++ [UInt8.ofNat n]) := own_of hown1 rfl (by rw [HNV.out]; rfl)
    have hbu1 : Below w1.heap.size w2 u1 := below_grown (hbu0.alloc (by simp; omega) _) (World.ownsRow.alloc own0 _) hg1 (by simp; omega)
    have hzu := hbu1.size
    clear own0 hbu0 hown1 hg1 d0 d6 hrd hzs
    go_wp2_with fail
    go_loopw [5, 6] (fun v i wr => ∃ j : Nat, j ≤ n ∧ i = .int .i64 j ∧ Own w1.heap.size wr v ([H] ++ [UInt8.ofNat n] ++ body (l.take j)) ∧ Below w1.heap.size w2 wr) (fun _ i _ => n - (intOf i).toNat)
    case atStart => exact ⟨0, Nat.zero_le _, rfl, by simpa [body] using own1, hbu1⟩
    case round =>
      obtain ⟨j, hj, rfl, hown, hbr⟩ := hrel
      clear own1 hbu1 hzu
      have hsz := hbr.size
      have d6 := HCC.out 6 _ rfl wr hbr
      have hball : Below w.heap.size w wr := hbb.trans (hbr.mono (Nat.le_of_lt HLT.out))
      have hsr := HSL.out.step hball
      have hln := HSL.out.len
      have hbl := body_len (l.take j)
      rw [List.length_take] at hbl
      have HLN := Lib.hid hln
      have HBL := Lib.hid hbl
      clear hln hbl
      by_cases hlt : j < n
      · have hjl : j < l.length := by rw [← HLN.out]; exact hlt
        obtain ⟨a, q, rfl, hab, hq, hqb, hc0, hc1⟩ := prow_q hsr.row hjl
        have hbs := Lib.hid (body_snoc hjl)
        obtain ⟨r, hr0⟩ : ∃ r, r = l[j].1 := ⟨_, rfl⟩
        obtain ⟨v, hv0⟩ : ∃ v, v = l[j].2 := ⟨_, rfl⟩
        rw [← hr0, ← hv0] at hbs
        rw [← hr0] at hc0
        rw [← hv0] at hc1
        obtain ⟨X, hX⟩ : ∃ X, X = [H] ++ [UInt8.ofNat n] ++ body (l.take j) := ⟨_, rfl⟩
        have hXl : X.length ≤ 200 := by
          have := HBL.out
          rw [hX]
          simp
          omega
        rw [← hX] at hown
        have HX := Lib.hid hX
        have HVV := Lib.hid hv0
        clear hr0 hv0 hX
        have hrd : Rd (wr.heap.size + 1) (wr.alloc (.cells #[.int .u8 (r.toNat : Int)] 5)) (some ⟨wr.heap.size, 0, none⟩) [.int .u8 (r.toNat : Int)] := Rd.new wr #[.int .u8 (r.toNat : Int)] 5
        go_wp2_with (at_builtin; go_loud (refine wpList_append_rd _ rfl _ _ _ rfl w1.heap.size 5 i0 _ 1 Try.underlying60 hi hz0 hz1' hzq rfl _ _ (bvs X) rfl (World.ownsRow.alloc hown _) _ _ 1 1 [.int .u8 (r.toNat : Int)] rfl rfl hrd (fun hh => by cases hh) (by simp [Value.oneCell']) (by unfold maxLen; omega) (by omega) (by simp; omega) ?_); intro v3 u3 hown3 hg3; refine Hid.out ?_)
        refine Lib.hid ?_
        have own3 : Own w1.heap.size u3 v3 (X ++ [r]) := own_of hown3 (by simp) (by unfold bvs; rw [List.map_append]; rfl)
        have hbu3 : Below w1.heap.size w2 u3 := below_grown (hbr.alloc (by omega) _) (World.ownsRow.alloc hown _) hg3 (by simp; omega)
        have e6 := HCC.out 6 _ rfl u3 hbu3
        have hb3 : Below w.heap.size w u3 := hbb.trans (hbu3.mono (Nat.le_of_lt HLT.out))
        obtain ⟨a2, q2, e2, hab2, hq2, hqb2, hd0, hd1⟩ := prow_q (HSL.out.step hb3).row hjl
        injection e2 with e2
        subst e2
        have hqq : q2 = q := hq2.symm.trans hq
        subst hqq
        have hd1' : u3.cell? ⟨q2.block, q2.off + 1, none⟩ = some (.int .i64 v) := by
          rw [HVV.out]
          exact hd1
        clear hd0 hd1 hown hg3 hown3
        have hz3 := hbu3.size
        go_wp2_with fail
        refine (little_r v 6 u3 (by omega)).mono ?_
        rintro e y3 ⟨z3, rfl, hzz3, hy3⟩
        obtain ⟨A3, n3, p3, rfl, sl3⟩ := Sl.of_own hzz3
        have hlen3 : n3 = 6 := by rw [sl3.len, le_len]
        subst hlen3
        have hby3 : Below w1.heap.size w2 y3 := hbu3.trans (hy3.mono (by omega))
        have owy3 : Own w1.heap.size y3 v3 (X ++ [r]) := own3.below hy3 (Nat.le_refl _)
        have hsy3 := hy3.size
        clear own3 hzz3
        go_wp2_with (at_builtin; go_loud (refine wpList_append_rd _ rfl _ _ _ rfl w1.heap.size 5 i0 _ 1 Try.underlying60 hi hz0 hz1' hzq rfl _ _ (bvs (X ++ [r])) rfl owy3 _ A3 6 p3 (bvs (le v 6)) rfl (by rw [len_bvs, le_len]) sl3.row sl3.nil (bvs_one _) (by unfold maxLen; simp; omega) (by simp; omega) (by omega) ?_); intro v4 u4 hown4 hg4; refine Hid.out ?_)
        refine Lib.hid ?_
        have own4 : Own w1.heap.size u4 v4 (X ++ [r] ++ le v 6) := own_of hown4 (by simp [le_len]) (bvs_app _ _).symm
        have hbu4 : Below w1.heap.size w2 u4 := below_grown hby3 owy3 hg4 (by omega)
        go_wp2_with fail
        refine ⟨⟨j + 1, by omega, by go_num, ?_, hbu4⟩, by simp [intOf]; omega⟩
        have e : [H] ++ [UInt8.ofNat n] ++ body (l.take (j + 1)) = X ++ [r] ++ le v 6 := by rw [hbs.out, HX.out]; simp [List.append_assoc]
        rw [e]
        exact own4
      · obtain rfl : j = n := by omega
        have htk : l.take j = l := List.take_of_length_le (by rw [← HLN.out]; exact Nat.le_refl _)
        rw [htk] at hown
        go_wp2_with fail
        go_ret2
        exact ⟨_, rfl, by rw [HEN.out]; exact hown.base_ (by have := HLT.out; omega), hball⟩
  · go_enter Try.func68, Try.ntmps68
    go_wp2_with fail
    rw [← hw1]
    clear hw1
    refine (HV.out).mono ?_
    rintro e w2 ⟨rfl, hb2⟩
    have hbb : Below w.heap.size w w2 := hb1.trans (hb2.mono hb1.size)
    have HLT := Lib.hid hlt
    have HCC := Lib.hid (fun i v h wr (hr : Below w1.heap.size w2 wr) => (by rw [hr.cell (p := ⟨w.heap.size, i, none⟩) (by exact hlt), hb2.cell (p := ⟨w.heap.size, i, none⟩) hlt]; exact HC.out i v h : wr.cell? ⟨w.heap.size, i, none⟩ = some v))
    have HB2 := Lib.hid hb2
    have hbu0 : Below w1.heap.size w2 (w2.alloc (.cells #[.int .u8 133] 5)) := (Below.refl _ _).alloc HB2.out.size _
    have d0 := HCC.out 0 _ rfl _ hbu0
    have d6 := HCC.out 6 _ rfl _ hbu0
    have c0 := HCC.out 0 _ rfl w2 (Below.refl _ _)
    have c1 := HCC.out 1 _ rfl w2 (Below.refl _ _)
    have own0 : Own w1.heap.size (w2.alloc (.cells #[.int .u8 133] 5)) (.slice (some ⟨w2.heap.size, 0, none⟩) 1 1) [H] := own_of (World.ownsRow_lit (base := w1.heap.size) (e := 5) (size := 1) w2 #[.int .u8 133] 1 HB2.out.size (by unfold maxLen; omega) rfl) rfl (by
          have e : H.toNat = 133 := by have := HH.out; simpa using this
          simp [bvs, bv]; omega)
    have hwr0 : IntKind.u8.wrap (n : Int) = (n : Int) := by rw [IntKind.wrap_u8]; omega
    have hzs := hbu0.size
    have hz1 := HB2.out.size
    have hrd : Rd (w2.heap.size + 1 + 1) ((w2.alloc (.cells #[.int .u8 133] 5)).alloc (.cells #[.int .u8 (n : Int)] 5)) (some ⟨w2.heap.size + 1, 0, none⟩) [.int .u8 (n : Int)] := by
      have := Rd.new (w2.alloc (.cells #[.int .u8 133] 5)) #[.int .u8 (n : Int)] 5
      simpa using this
    clear hb1 hb2 HC HV hlt
    go_wp2_with (at_builtin; go_loud (refine wpList_append_rd _ rfl _ _ _ rfl w1.heap.size 5 i0 _ 1 Try.underlying60 hi hz0 hz1' hzq rfl _ _ (bvs [H]) rfl (World.ownsRow.alloc own0 _) _ _ 1 1 [.int .u8 (n : Int)] rfl rfl hrd (fun hh => by cases hh) (by simp [Value.oneCell']) (by unfold maxLen; simp) (by simp) (by simp; omega) ?_); intro v1 u1 hown1 hg1; refine Hid.out ?_)
    refine Lib.hid ?_
    have own1 : Own w1.heap.size u1 v1 ([H] ++ [UInt8.ofNat n]) := own_of hown1 rfl (by rw [HNV.out]; rfl)
    have hbu1 : Below w1.heap.size w2 u1 := below_grown (hbu0.alloc (by simp; omega) _) (World.ownsRow.alloc own0 _) hg1 (by simp; omega)
    have hzu := hbu1.size
    clear own0 hbu0 hown1 hg1 d0 d6 hrd hzs
    go_wp2_with fail
    go_loopw [5, 6] (fun v i wr => ∃ j : Nat, j ≤ n ∧ i = .int .i64 j ∧ Own w1.heap.size wr v ([H] ++ [UInt8.ofNat n] ++ body (l.take j)) ∧ Below w1.heap.size w2 wr) (fun _ i _ => n - (intOf i).toNat)
    case atStart => exact ⟨0, Nat.zero_le _, rfl, by simpa [body] using own1, hbu1⟩
    case round =>
      obtain ⟨j, hj, rfl, hown, hbr⟩ := hrel
      clear own1 hbu1 hzu
      have hsz := hbr.size
      have d6 := HCC.out 6 _ rfl wr hbr
      have hball : Below w.heap.size w wr := hbb.trans (hbr.mono (Nat.le_of_lt HLT.out))
      have hsr := HSL.out.step hball
      have hln := HSL.out.len
      have hbl := body_len (l.take j)
      rw [List.length_take] at hbl
      have HLN := Lib.hid hln
      have HBL := Lib.hid hbl
      clear hln hbl
      by_cases hlt : j < n
      · have hjl : j < l.length := by rw [← HLN.out]; exact hlt
        obtain ⟨a, q, rfl, hab, hq, hqb, hc0, hc1⟩ := prow_q hsr.row hjl
        have hbs := Lib.hid (body_snoc hjl)
        obtain ⟨r, hr0⟩ : ∃ r, r = l[j].1 := ⟨_, rfl⟩
        obtain ⟨v, hv0⟩ : ∃ v, v = l[j].2 := ⟨_, rfl⟩
        rw [← hr0, ← hv0] at hbs
        rw [← hr0] at hc0
        rw [← hv0] at hc1
        obtain ⟨X, hX⟩ : ∃ X, X = [H] ++ [UInt8.ofNat n] ++ body (l.take j) := ⟨_, rfl⟩
        have hXl : X.length ≤ 200 := by
          have := HBL.out
          rw [hX]
          simp
          omega
        rw [← hX] at hown
        have HX := Lib.hid hX
        have HVV := Lib.hid hv0
        clear hr0 hv0 hX
        have hrd : Rd (wr.heap.size + 1) (wr.alloc (.cells #[.int .u8 (r.toNat : Int)] 5)) (some ⟨wr.heap.size, 0, none⟩) [.int .u8 (r.toNat : Int)] := Rd.new wr #[.int .u8 (r.toNat : Int)] 5
        go_wp2_with (at_builtin; go_loud (refine wpList_append_rd _ rfl _ _ _ rfl w1.heap.size 5 i0 _ 1 Try.underlying60 hi hz0 hz1' hzq rfl _ _ (bvs X) rfl (World.ownsRow.alloc hown _) _ _ 1 1 [.int .u8 (r.toNat : Int)] rfl rfl hrd (fun hh => by cases hh) (by simp [Value.oneCell']) (by unfold maxLen; omega) (by omega) (by simp; omega) ?_); intro v3 u3 hown3 hg3; refine Hid.out ?_)
        refine Lib.hid ?_
        have own3 : Own w1.heap.size u3 v3 (X ++ [r]) := own_of hown3 (by simp) (by unfold bvs; rw [List.map_append]; rfl)
        have hbu3 : Below w1.heap.size w2 u3 := below_grown (hbr.alloc (by omega) _) (World.ownsRow.alloc hown _) hg3 (by simp; omega)
        have e6 := HCC.out 6 _ rfl u3 hbu3
        have hb3 : Below w.heap.size w u3 := hbb.trans (hbu3.mono (Nat.le_of_lt HLT.out))
        obtain ⟨a2, q2, e2, hab2, hq2, hqb2, hd0, hd1⟩ := prow_q (HSL.out.step hb3).row hjl
        injection e2 with e2
        subst e2
        have hqq : q2 = q := hq2.symm.trans hq
        subst hqq
        have hd1' : u3.cell? ⟨q2.block, q2.off + 1, none⟩ = some (.int .i64 v) := by
          rw [HVV.out]
          exact hd1
        clear hd0 hd1 hown hg3 hown3
        have hz3 := hbu3.size
        go_wp2_with fail
        refine (little_r v 6 u3 (by omega)).mono ?_
        rintro e y3 ⟨z3, rfl, hzz3, hy3⟩
        obtain ⟨A3, n3, p3, rfl, sl3⟩ := Sl.of_own hzz3
        have hlen3 : n3 = 6 := by rw [sl3.len, le_len]
        subst hlen3
        have hby3 : Below w1.heap.size w2 y3 := hbu3.trans (hy3.mono (by omega))
        have owy3 : Own w1.heap.size y3 v3 (X ++ [r]) := own3.below hy3 (Nat.le_refl _)
        have hsy3 := hy3.size
        clear own3 hzz3
        go_wp2_with (at_builtin; go_loud (refine wpList_append_rd _ rfl _ _ _ rfl w1.heap.size 5 i0 _ 1 Try.underlying60 hi hz0 hz1' hzq rfl _ _ (bvs (X ++ [r])) rfl owy3 _ A3 6 p3 (bvs (le v 6)) rfl (by rw [len_bvs, le_len]) sl3.row sl3.nil (bvs_one _) (by unfold maxLen; simp; omega) (by simp; omega) (by omega) ?_); intro v4 u4 hown4 hg4; refine Hid.out ?_)
        refine Lib.hid ?_
        have own4 : Own w1.heap.size u4 v4 (X ++ [r] ++ le v 6) := own_of hown4 (by simp [le_len]) (bvs_app _ _).symm
        have hbu4 : Below w1.heap.size w2 u4 := below_grown hby3 owy3 hg4 (by omega)
        go_wp2_with fail
        refine ⟨⟨j + 1, by omega, by go_num, ?_, hbu4⟩, by simp [intOf]; omega⟩
        have e : [H] ++ [UInt8.ofNat n] ++ body (l.take (j + 1)) = X ++ [r] ++ le v 6 := by rw [hbs.out, HX.out]; simp [List.append_assoc]
        rw [e]
        exact own4
      · obtain rfl : j = n := by omega
        have htk : l.take j = l := List.take_of_length_le (by rw [← HLN.out]; exact Nat.le_refl _)
        rw [htk] at hown
        go_wp2_with fail
        go_ret2
        exact ⟨_, rfl, by rw [HEN.out]; exact hown.base_ (by have := HLT.out; omega), hball⟩
theorem enc_r (f m b k1 k2 : Int) (s : Bool) (A : Option Addr) (n cp : Nat) (l : List Pt) (w : World) (hsl : PSl w A n cp l) (hv : vld ⟨f, s, m, b, k1, k2, l⟩ = true) :
    Calls Try.prog 68 #[.agg #[.int .i64 f, .bool s, .int .i64 m, .int .i64 b, .int .i64 k1, .int .i64 k2, .slice A n cp]] w fun e w' => ∃ u, e = .returned (.tuple #[u, .int .i64 0]) ∧ Own w.heap.size w' u (enc ⟨f, s, m, b, k1, k2, l⟩) ∧ Below w.heap.size w w' := by
  by_cases h5 : f = 5
  · obtain ⟨⟨h1, h2, h3, h4⟩, -, -⟩ := vld_tab hv h5
    dsimp only at h1 h2 h3 h4
    subst h5 h1 h2 h3 h4
    exact enc_tab s A n cp l w hsl hv
  · exact enc_lin f m b k1 k2 s A n cp l w hsl hv h5
end Go.Proofs.Ytafoaonkjcfbaaa.C4v
