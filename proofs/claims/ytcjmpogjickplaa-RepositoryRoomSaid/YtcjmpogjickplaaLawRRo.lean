/- The statement RepositoryRoom: a record is accepted exactly if there is room for it, and the room comes back; for all numbers. -/
import Derived.Test.YtcjmpogjickplaaRm
import Derived.Test.YtcjmpogjickplaaLaw
namespace Go.Proofs.Ytcjmpogjickplaa.repositoryRoom
open Go.RowKit Go.ChangeShapes Go.WideShapes Go.ChangeAt Go.Proofs.Ytcjmpogjickplaa.Mem Go.Proofs.Ytcjmpogjickplaa.Law Go.Proofs.Ytcjmpogjickplaa.Made Go.Proofs.Ytcjmpogjickplaa.R11
set_option maxRecDepth 100000
set_option maxHeartbeats 2000000

theorem own_made {base n : Nat} {w' : World} {v : Value} (h : w'.ownsRow base 5 1 v n (madeCells (Value.int .u8 0).cells (n * 1)).toList) : Own base w' v (List.replicate n 0) := by
  unfold Own
  have e : (madeCells (Value.int .u8 0).cells (n * 1)).toList = bvs (List.replicate n 0) := by
    rw [Nat.mul_one]
    unfold bvs
    rw [List.map_replicate]
    exact toList_madeCells_one _ _
  rw [List.length_replicate, ← e]
  exact h
theorem free_add {S : Rp} (ok : S.Ok) {x y : Nat} {b : List UInt8} (he : S.addE b.length = 0) : (S.add x y b).free = S.free - b.length ∧ (S.add x y b).recs.length = S.recs.length + 1 := by
  obtain ⟨-, -, -, h4⟩ := addE_zero he
  have hr := ok.room
  refine ⟨?_, by simp [Rp.add]⟩
  unfold Rp.free at *
  show S.cap - sum (S.recs ++ [_]) = _
  rw [sum_app, sum_one]
  dsimp only
  omega
theorem walk (q : Int) (hq : -9223372036854775808 ≤ q ∧ q ≤ 9223372036854775807) (A : Option Addr) (n c : Nat) (l : List Int) (hn : n = l.length) (hw : ∀ x ∈ l, -9223372036854775808 ≤ x ∧ x ≤ 9223372036854775807) (hc : n ≤ c) (hm : c ≤ maxLen) (_hA : A = none → c = 0)
    (W : World) (hr : IRow W.heap.size W A l) :
    Calls Try.prog 14 #[.int .i64 q, .slice A n c] W fun e W' => e = .returned (.bool true) ∧ Below W.heap.size W W' := by
  have haw := Lib.hid (fun u => awake_any u)
  have HQ := Lib.hid (fun u => mod_any q 900 u hq.1 hq.2 (by omega) (by omega))
  have hmx : n ≤ 2 ^ 63 - 1 := Nat.le_trans hc hm
  clear hq
  by_cases h80 : n ≤ 80
  · have HR := Lib.hid hr
    have HNL := Lib.hid hn
    have HW := Lib.hid hw
    clear hr hn hw hmx
    go_enter Try.func14, Try.ntmps14
    go_wp2_with fail
    refine (HQ.out _).mono ?_
    rintro e w' ⟨⟨z, hz, rfl, -⟩, hw'⟩
    rw [← hw']
    clear hw' w' HQ
    go_wp2_with fail
    obtain ⟨C, hC⟩ : ∃ C, C = z + 1 := ⟨_, rfl⟩
    have hC1 : 1 ≤ C ∧ C ≤ 900 := by omega
    rw [show (1 : Int) + (z : Int) = (C : Int) by omega]
    clear hC hz
    refine (new_p C W hC1.1 (by omega)).mono ?_
    rintro e w1 ⟨rfl, h1⟩
    obtain ⟨g, hg⟩ : ∃ g, g = W.heap.size := ⟨_, rfl⟩
    have hBg : RA W.heap.size W w1 g (.slice none 0 0) (R11.fresh C) := by rw [hg]; exact h1
    rw [← hg]
    have H1 := Lib.hid hBg
    clear hg h1 hBg
    go_wp2_with fail
    obtain ⟨i5, hi5, hz5, hy5, hb5⟩ := info_parts info5
    have hxx := HW.out
    go_loopw [8, 9, 10] (fun fv nv iv wr => ∃ (j : Nat) (rv : Value) (S : Rp), j ≤ n ∧ iv = .int .i64 (j : Int) ∧ fv = .int .i64 (S.free : Int) ∧ nv = .int .i64 (S.recs.length : Int) ∧ RA W.heap.size W wr g rv S ∧ S.Ok ∧ S.cap = C) (fun _ _ iv _ => n - (intOf iv).toNat)
    case atStart => exact ⟨0, _, R11.fresh C, Nat.zero_le _, rfl, rfl, rfl, H1.out, fresh_ok (by omega), rfl⟩
    case round =>
      obtain ⟨j, rv, S, hj, rfl, rfl, rfl, hra, ok, hcap⟩ := hrel
      have HRA := Lib.hid hra
      have HOK := Lib.hid ok
      have HCAP := Lib.hid hcap
      clear hra ok hcap
      by_cases hlt : j < n
      · have hjl : j < l.length := by rw [← HNL.out]; exact hlt
        obtain ⟨a, rfl, hab, hcell⟩ := irow_at (Rd.below HR.out HRA.out.bel) hjl
        obtain ⟨hx1, hx2⟩ := hxx _ (List.getElem_mem hjl)
        have hj0 : (0 : Int) ≤ (j : Int) := by omega
        have hj1 : (j : Int) < (n : Int) := by omega
        generalize l[j] = x at *
        have HM1 := Lib.hid (fun u => mod_any x 162 u hx1 hx2 (by omega) (by omega))
        have HM2 := Lib.hid (fun u => mod_any x 7 u hx1 hx2 (by omega) (by omega))
        clear hxx hab hjl
        obtain ⟨F, hF⟩ : ∃ F, F = S.free := ⟨_, rfl⟩
        obtain ⟨R, hR⟩ : ∃ R, R = S.recs.length := ⟨_, rfl⟩
        rw [← hF, ← hR]
        have HF := Lib.hid hF
        have HRN := Lib.hid hR
        have hR64 : R ≤ 64 := by rw [hR]; exact HOK.out.len
        have hF1 : F ≤ 10240 := by rw [hF]; unfold Rp.free; have := HOK.out.cap; omega
        clear hF hR
        go_wp2_with fail
        refine (HM1.out _).mono ?_
        rintro e w' ⟨⟨k1, hk1, rfl, -⟩, hw'⟩
        rw [← hw']
        clear hw' w' HM1
        go_wp2_with fail
        refine (HM2.out _).mono ?_
        rintro e w' ⟨⟨k2, hk2, rfl, -⟩, hw'⟩
        rw [← hw']
        clear hw' w' HM2
        by_cases h20 : k2 = 0
        · subst h20
          obtain ⟨K, rfl⟩ : ∃ K, K = k1 := ⟨_, rfl⟩
          have hK : K < 162 := hk1
          clear hk1
          have HAV := Lib.hid (fun V (hV : RA W.heap.size W V g rv S) A' c' (hs : Sl V A' K c' (List.replicate K 0)) (hf : Off g rv A' (List.replicate K 0)) (he : S.addE K = 0) => add_p hV HOK.out A' K c' (List.replicate K 0) hs hf (by rw [List.length_replicate]; exact he))
          have HAN := Lib.hid (fun V (hV : RA W.heap.size W V g rv S) A' c' (he : S.addE K ≠ 0) => add_no hV HOK.out A' K c' (by omega) he)
          have HE : Hid (S.addE K = if K = 0 ∨ 160 < K then 1 else if 64 ≤ R then 3 else if F < K then 9 else 0) := Lib.hid (by unfold Rp.addE; rw [← HF.out, ← HRN.out])
          go_wp2_with (at_make; (try rw [hKi]); go_loud (refine wpList_make_full _ rfl _ _ 74 rfl wr.heap.size 5 i5 _ 1 Try.underlying74 hi5 hz5 hy5 _ _ _ _ K rfl rfl rfl rfl (by rw [hb5]; omega) (by unfold maxLen; omega) (Nat.le_refl _) ?_); go_loud (intro w5 hown5 hg5))
          have hb5x : Below wr.heap.size wr w5 := (Below.refl _ _).grown hg5 (Nat.le_refl _) (fun k hk => by cases hk)
          have hra5 := HRA.out.step hb5x
          have hO5 := own_made hown5
          have hoff5 := hra5.off hO5
          have hsl5 := sl_own hO5 (by rw [List.length_replicate])
          have HFR := Lib.hid (fun V (hV : RA W.heap.size W V g rv S) => (show Calls Try.prog 69 #[.pointer (some ⟨g, 0, none⟩)] V fun e w' => e = .returned (.int .i64 (F : Int)) ∧ Below V.heap.size V w' from by rw [HF.out]; exact free_p hV HOK.out))
          have HIS := Lib.hid (fun V (hV : RA W.heap.size W V g rv S) => ids_p hV HOK.out)
          have HRA5 := Lib.hid hra5
          have HSL5 := Lib.hid hsl5
          have HOF5 := Lib.hid hoff5
          clear hb5x hra5 hO5 hoff5 hsl5 hown5 hg5 HRA
          by_cases hA : K = 0 ∨ 160 < K
          · have he : S.addE K = 1 := by rw [HE.out, if_pos hA]
            have HAD := HAN.out _ HRA5.out (some ⟨wr.heap.size, 0, none⟩) K (by omega)
            rw [he] at HAD
            have HAD := Lib.hid HAD
            clear he HAV HAN HE
            rcases hA with rfl | hA
            all_goals
              refine HAD.out.mono ?_
              rintro e w6 ⟨rfl, hb6⟩
              have H6 := Lib.hid (HRA5.out.step hb6)
              (try have q1 : ((K : Int) == 0) = false := by simp; omega)
              clear hb6 HAD
              go_wp2_with fail
              refine (HFR.out _ H6.out).mono ?_
              rintro e w7 ⟨rfl, hb7⟩
              have H7 := Lib.hid (H6.out.step hb7)
              go_wp2_with fail
              refine (HIS.out _ H7.out).mono ?_
              rintro e w8 ⟨v8, rfl, ho8, hb8⟩
              obtain ⟨A8, n8, c8, rfl, hn8, -, -⟩ := ho8.form
              rw [List.length_map, ← HRN.out] at hn8
              subst hn8
              have H8 := Lib.hid (H7.out.step hb8)
              clear ho8 hb8 hb7
              go_wp2_with fail
              have hfin := (show (∃ (j' : Nat) (rv' : Value) (S' : Rp), j' ≤ n ∧ Value.int .i64 ((j : Int) + 1) = .int .i64 (j' : Int) ∧ Value.int .i64 (F : Int) = .int .i64 (S'.free : Int) ∧ Value.int .i64 (n8 : Int) = .int .i64 (S'.recs.length : Int) ∧ RA W.heap.size W w8 g rv' S' ∧ S'.Ok ∧ S'.cap = C) from ⟨j + 1, rv, S, by omega, by go_num, vi (by rw [HF.out]), vi (by rw [HRN.out]), H8.out, HOK.out, HCAP.out⟩)
              exact ⟨hfin, by simp [intOf]; omega⟩
          · have q1 : ((K : Int) == 0) = false := by simp; omega
            have q2 : decide (160 < (K : Int)) = false := by simp; omega
            rw [if_neg hA] at HE
            by_cases h64 : 64 ≤ R
            · have he : S.addE K = 3 := by rw [HE.out, if_pos h64]
              have HAD := HAN.out _ HRA5.out (some ⟨wr.heap.size, 0, none⟩) K (by omega)
              rw [he] at HAD
              have HAD := Lib.hid HAD
              have q3 : ((R : Int) == 64) = true := by simp; omega
              clear he HAV HAN HE
              refine HAD.out.mono ?_
              rintro e w6 ⟨rfl, hb6⟩
              have H6 := Lib.hid (HRA5.out.step hb6)
              clear hb6 HAD
              go_wp2_with fail
              refine (HFR.out _ H6.out).mono ?_
              rintro e w7 ⟨rfl, hb7⟩
              have H7 := Lib.hid (H6.out.step hb7)
              go_wp2_with fail
              refine (HIS.out _ H7.out).mono ?_
              rintro e w8 ⟨v8, rfl, ho8, hb8⟩
              obtain ⟨A8, n8, c8, rfl, hn8, -, -⟩ := ho8.form
              rw [List.length_map, ← HRN.out] at hn8
              subst hn8
              have H8 := Lib.hid (H7.out.step hb8)
              clear ho8 hb8 hb7
              go_wp2_with fail
              have hfin := (show (∃ (j' : Nat) (rv' : Value) (S' : Rp), j' ≤ n ∧ Value.int .i64 ((j : Int) + 1) = .int .i64 (j' : Int) ∧ Value.int .i64 (F : Int) = .int .i64 (S'.free : Int) ∧ Value.int .i64 (n8 : Int) = .int .i64 (S'.recs.length : Int) ∧ RA W.heap.size W w8 g rv' S' ∧ S'.Ok ∧ S'.cap = C) from ⟨j + 1, rv, S, by omega, by go_num, vi (by rw [HF.out]), vi (by rw [HRN.out]), H8.out, HOK.out, HCAP.out⟩)
              exact ⟨hfin, by simp [intOf]; omega⟩
            · rw [if_neg h64] at HE
              have q3 : ((R : Int) == 64) = false := by simp; omega
              by_cases hF : F < K
              · have he : S.addE K = 9 := by rw [HE.out, if_pos hF]
                have HAD := HAN.out _ HRA5.out (some ⟨wr.heap.size, 0, none⟩) K (by omega)
                rw [he] at HAD
                have HAD := Lib.hid HAD
                clear he HAV HAN HE
                refine HAD.out.mono ?_
                rintro e w6 ⟨rfl, hb6⟩
                have H6 := Lib.hid (HRA5.out.step hb6)
                clear hb6 HAD
                go_wp2_with fail
                refine (HFR.out _ H6.out).mono ?_
                rintro e w7 ⟨rfl, hb7⟩
                have H7 := Lib.hid (H6.out.step hb7)
                go_wp2_with fail
                refine (HIS.out _ H7.out).mono ?_
                rintro e w8 ⟨v8, rfl, ho8, hb8⟩
                obtain ⟨A8, n8, c8, rfl, hn8, -, -⟩ := ho8.form
                rw [List.length_map, ← HRN.out] at hn8
                subst hn8
                have H8 := Lib.hid (H7.out.step hb8)
                clear ho8 hb8 hb7
                go_wp2_with fail
                have hfin := (show (∃ (j' : Nat) (rv' : Value) (S' : Rp), j' ≤ n ∧ Value.int .i64 ((j : Int) + 1) = .int .i64 (j' : Int) ∧ Value.int .i64 (F : Int) = .int .i64 (S'.free : Int) ∧ Value.int .i64 (n8 : Int) = .int .i64 (S'.recs.length : Int) ∧ RA W.heap.size W w8 g rv' S' ∧ S'.Ok ∧ S'.cap = C) from ⟨j + 1, rv, S, by omega, by go_num, vi (by rw [HF.out]), vi (by rw [HRN.out]), H8.out, HOK.out, HCAP.out⟩)
                exact ⟨hfin, by simp [intOf]; omega⟩
              · have he : S.addE K = 0 := by rw [HE.out, if_neg hF]
                have HAD := Lib.hid (HAV.out _ HRA5.out _ _ HSL5.out HOF5.out he)
                have he2 : S.addE (List.replicate K (0 : UInt8)).length = 0 := by rw [List.length_replicate]; exact he
                have HFA := Lib.hid fun x y => free_add HOK.out (x := x) (y := y) he2
                have HOA := Lib.hid fun x y => HOK.out.add x y (List.replicate K 0) he2
                clear he HAV HAN HE
                refine HAD.out.mono ?_
                rintro e w6 ⟨rv6, x6, y6, rfl, h6, -, -⟩
                have H6 := Lib.hid h6
                clear h6 HAD
                go_wp2_with fail
                have HF2 : Hid (((S.add x6 y6 (List.replicate K 0)).free : Int) = (F : Int) - (K : Int)) := Lib.hid (by
                  have h := (HFA.out x6 y6).1
                  rw [List.length_replicate] at h
                  rw [h, ← HF.out]
                  omega)
                have HR2 : Hid ((S.add x6 y6 (List.replicate K 0)).recs.length = R + 1) := Lib.hid (by rw [(HFA.out x6 y6).2, ← HRN.out])
                have HFR2 := Lib.hid (free_p H6.out (HOA.out x6 y6))
                rw [HF2.out] at HFR2
                have HCP2 : Hid ((S.add x6 y6 (List.replicate K 0)).cap = C) := Lib.hid HCAP.out
                have HO2 := Lib.hid (HOA.out x6 y6)
                clear HFA HOA HFR HIS
                generalize S.add x6 y6 (List.replicate K 0) = S6 at *
                refine HFR2.out.mono ?_
                rintro e w7 ⟨rfl, hb7⟩
                have H7 := Lib.hid (H6.out.step hb7)
                go_wp2_with fail
                refine (ids_p H7.out HO2.out).mono ?_
                rintro e w8 ⟨v8, rfl, ho8, hb8⟩
                obtain ⟨A8, n8, c8, rfl, hn8, -, -⟩ := ho8.form
                rw [List.length_map, HR2.out] at hn8
                have hn8i : (n8 : Int) = (R : Int) + 1 := by omega
                have H8 := Lib.hid (H7.out.step hb8)
                have hq8 : ((n8 : Int) != (R : Int) + 1) = false := by simp; omega
                clear ho8 hb8 hb7 hn8 hn8i
                go_wp2_with fail
                have hfin := (show (∃ (j' : Nat) (rv' : Value) (S' : Rp), j' ≤ n ∧ Value.int .i64 ((j : Int) + 1) = .int .i64 (j' : Int) ∧ Value.int .i64 ((F : Int) - (K : Int)) = .int .i64 (S'.free : Int) ∧ Value.int .i64 ((R : Int) + 1) = .int .i64 (S'.recs.length : Int) ∧ RA W.heap.size W w8 g rv' S' ∧ S'.Ok ∧ S'.cap = C) from ⟨j + 1, rv6, S6, by omega, by go_num, vi HF2.out.symm, vi (by rw [HR2.out]; omega), H8.out, HO2.out, HCP2.out⟩)
                exact ⟨hfin, by simp [intOf]; omega⟩
        · have h20' : ((k2 : Int) != 0) = true := by simpa using h20
          obtain ⟨K, hKe⟩ : ∃ K, K = k1 % 14 := ⟨_, rfl⟩
          have hK : K < 162 := by omega
          have hK14 : K < 14 := by omega
          have hKi : (k1 : Int) % 14 = (K : Int) := by omega
          clear hKe h20
          have HAV := Lib.hid (fun V (hV : RA W.heap.size W V g rv S) A' c' (hs : Sl V A' K c' (List.replicate K 0)) (hf : Off g rv A' (List.replicate K 0)) (he : S.addE K = 0) => add_p hV HOK.out A' K c' (List.replicate K 0) hs hf (by rw [List.length_replicate]; exact he))
          have HAN := Lib.hid (fun V (hV : RA W.heap.size W V g rv S) A' c' (he : S.addE K ≠ 0) => add_no hV HOK.out A' K c' (by omega) he)
          have HE : Hid (S.addE K = if K = 0 ∨ 160 < K then 1 else if 64 ≤ R then 3 else if F < K then 9 else 0) := Lib.hid (by unfold Rp.addE; rw [← HF.out, ← HRN.out])
          go_wp2_with (at_make; (try rw [hKi]); go_loud (refine wpList_make_full _ rfl _ _ 74 rfl wr.heap.size 5 i5 _ 1 Try.underlying74 hi5 hz5 hy5 _ _ _ _ K rfl rfl rfl rfl (by rw [hb5]; omega) (by unfold maxLen; omega) (Nat.le_refl _) ?_); go_loud (intro w5 hown5 hg5))
          have hb5x : Below wr.heap.size wr w5 := (Below.refl _ _).grown hg5 (Nat.le_refl _) (fun k hk => by cases hk)
          have hra5 := HRA.out.step hb5x
          have hO5 := own_made hown5
          have hoff5 := hra5.off hO5
          have hsl5 := sl_own hO5 (by rw [List.length_replicate])
          have HFR := Lib.hid (fun V (hV : RA W.heap.size W V g rv S) => (show Calls Try.prog 69 #[.pointer (some ⟨g, 0, none⟩)] V fun e w' => e = .returned (.int .i64 (F : Int)) ∧ Below V.heap.size V w' from by rw [HF.out]; exact free_p hV HOK.out))
          have HIS := Lib.hid (fun V (hV : RA W.heap.size W V g rv S) => ids_p hV HOK.out)
          have HRA5 := Lib.hid hra5
          have HSL5 := Lib.hid hsl5
          have HOF5 := Lib.hid hoff5
          clear hb5x hra5 hO5 hoff5 hsl5 hown5 hg5 HRA
          by_cases hA : K = 0 ∨ 160 < K
          · have he : S.addE K = 1 := by rw [HE.out, if_pos hA]
            have HAD := HAN.out _ HRA5.out (some ⟨wr.heap.size, 0, none⟩) K (by omega)
            rw [he] at HAD
            have HAD := Lib.hid HAD
            clear he HAV HAN HE
            rcases hA with rfl | hA
            rotate_left
            · exfalso; omega
            all_goals
              refine HAD.out.mono ?_
              rintro e w6 ⟨rfl, hb6⟩
              have H6 := Lib.hid (HRA5.out.step hb6)
              (try have q1 : ((K : Int) == 0) = false := by simp; omega)
              clear hb6 HAD
              go_wp2_with fail
              refine (HFR.out _ H6.out).mono ?_
              rintro e w7 ⟨rfl, hb7⟩
              have H7 := Lib.hid (H6.out.step hb7)
              go_wp2_with fail
              refine (HIS.out _ H7.out).mono ?_
              rintro e w8 ⟨v8, rfl, ho8, hb8⟩
              obtain ⟨A8, n8, c8, rfl, hn8, -, -⟩ := ho8.form
              rw [List.length_map, ← HRN.out] at hn8
              subst hn8
              have H8 := Lib.hid (H7.out.step hb8)
              clear ho8 hb8 hb7
              go_wp2_with fail
              have hfin := (show (∃ (j' : Nat) (rv' : Value) (S' : Rp), j' ≤ n ∧ Value.int .i64 ((j : Int) + 1) = .int .i64 (j' : Int) ∧ Value.int .i64 (F : Int) = .int .i64 (S'.free : Int) ∧ Value.int .i64 (n8 : Int) = .int .i64 (S'.recs.length : Int) ∧ RA W.heap.size W w8 g rv' S' ∧ S'.Ok ∧ S'.cap = C) from ⟨j + 1, rv, S, by omega, by go_num, vi (by rw [HF.out]), vi (by rw [HRN.out]), H8.out, HOK.out, HCAP.out⟩)
              exact ⟨hfin, by simp [intOf]; omega⟩
          · have q1 : ((K : Int) == 0) = false := by simp; omega
            have q2 : decide (160 < (K : Int)) = false := by simp; omega
            rw [if_neg hA] at HE
            by_cases h64 : 64 ≤ R
            · have he : S.addE K = 3 := by rw [HE.out, if_pos h64]
              have HAD := HAN.out _ HRA5.out (some ⟨wr.heap.size, 0, none⟩) K (by omega)
              rw [he] at HAD
              have HAD := Lib.hid HAD
              have q3 : ((R : Int) == 64) = true := by simp; omega
              clear he HAV HAN HE
              refine HAD.out.mono ?_
              rintro e w6 ⟨rfl, hb6⟩
              have H6 := Lib.hid (HRA5.out.step hb6)
              clear hb6 HAD
              go_wp2_with fail
              refine (HFR.out _ H6.out).mono ?_
              rintro e w7 ⟨rfl, hb7⟩
              have H7 := Lib.hid (H6.out.step hb7)
              go_wp2_with fail
              refine (HIS.out _ H7.out).mono ?_
              rintro e w8 ⟨v8, rfl, ho8, hb8⟩
              obtain ⟨A8, n8, c8, rfl, hn8, -, -⟩ := ho8.form
              rw [List.length_map, ← HRN.out] at hn8
              subst hn8
              have H8 := Lib.hid (H7.out.step hb8)
              clear ho8 hb8 hb7
              go_wp2_with fail
              have hfin := (show (∃ (j' : Nat) (rv' : Value) (S' : Rp), j' ≤ n ∧ Value.int .i64 ((j : Int) + 1) = .int .i64 (j' : Int) ∧ Value.int .i64 (F : Int) = .int .i64 (S'.free : Int) ∧ Value.int .i64 (n8 : Int) = .int .i64 (S'.recs.length : Int) ∧ RA W.heap.size W w8 g rv' S' ∧ S'.Ok ∧ S'.cap = C) from ⟨j + 1, rv, S, by omega, by go_num, vi (by rw [HF.out]), vi (by rw [HRN.out]), H8.out, HOK.out, HCAP.out⟩)
              exact ⟨hfin, by simp [intOf]; omega⟩
            · rw [if_neg h64] at HE
              have q3 : ((R : Int) == 64) = false := by simp; omega
              by_cases hF : F < K
              · have he : S.addE K = 9 := by rw [HE.out, if_pos hF]
                have HAD := HAN.out _ HRA5.out (some ⟨wr.heap.size, 0, none⟩) K (by omega)
                rw [he] at HAD
                have HAD := Lib.hid HAD
                clear he HAV HAN HE
                refine HAD.out.mono ?_
                rintro e w6 ⟨rfl, hb6⟩
                have H6 := Lib.hid (HRA5.out.step hb6)
                clear hb6 HAD
                go_wp2_with fail
                refine (HFR.out _ H6.out).mono ?_
                rintro e w7 ⟨rfl, hb7⟩
                have H7 := Lib.hid (H6.out.step hb7)
                go_wp2_with fail
                refine (HIS.out _ H7.out).mono ?_
                rintro e w8 ⟨v8, rfl, ho8, hb8⟩
                obtain ⟨A8, n8, c8, rfl, hn8, -, -⟩ := ho8.form
                rw [List.length_map, ← HRN.out] at hn8
                subst hn8
                have H8 := Lib.hid (H7.out.step hb8)
                clear ho8 hb8 hb7
                go_wp2_with fail
                have hfin := (show (∃ (j' : Nat) (rv' : Value) (S' : Rp), j' ≤ n ∧ Value.int .i64 ((j : Int) + 1) = .int .i64 (j' : Int) ∧ Value.int .i64 (F : Int) = .int .i64 (S'.free : Int) ∧ Value.int .i64 (n8 : Int) = .int .i64 (S'.recs.length : Int) ∧ RA W.heap.size W w8 g rv' S' ∧ S'.Ok ∧ S'.cap = C) from ⟨j + 1, rv, S, by omega, by go_num, vi (by rw [HF.out]), vi (by rw [HRN.out]), H8.out, HOK.out, HCAP.out⟩)
                exact ⟨hfin, by simp [intOf]; omega⟩
              · have he : S.addE K = 0 := by rw [HE.out, if_neg hF]
                have HAD := Lib.hid (HAV.out _ HRA5.out _ _ HSL5.out HOF5.out he)
                have he2 : S.addE (List.replicate K (0 : UInt8)).length = 0 := by rw [List.length_replicate]; exact he
                have HFA := Lib.hid fun x y => free_add HOK.out (x := x) (y := y) he2
                have HOA := Lib.hid fun x y => HOK.out.add x y (List.replicate K 0) he2
                clear he HAV HAN HE
                refine HAD.out.mono ?_
                rintro e w6 ⟨rv6, x6, y6, rfl, h6, -, -⟩
                have H6 := Lib.hid h6
                clear h6 HAD
                go_wp2_with fail
                have HF2 : Hid (((S.add x6 y6 (List.replicate K 0)).free : Int) = (F : Int) - (K : Int)) := Lib.hid (by
                  have h := (HFA.out x6 y6).1
                  rw [List.length_replicate] at h
                  rw [h, ← HF.out]
                  omega)
                have HR2 : Hid ((S.add x6 y6 (List.replicate K 0)).recs.length = R + 1) := Lib.hid (by rw [(HFA.out x6 y6).2, ← HRN.out])
                have HFR2 := Lib.hid (free_p H6.out (HOA.out x6 y6))
                rw [HF2.out] at HFR2
                have HCP2 : Hid ((S.add x6 y6 (List.replicate K 0)).cap = C) := Lib.hid HCAP.out
                have HO2 := Lib.hid (HOA.out x6 y6)
                clear HFA HOA HFR HIS
                generalize S.add x6 y6 (List.replicate K 0) = S6 at *
                refine HFR2.out.mono ?_
                rintro e w7 ⟨rfl, hb7⟩
                have H7 := Lib.hid (H6.out.step hb7)
                go_wp2_with fail
                refine (ids_p H7.out HO2.out).mono ?_
                rintro e w8 ⟨v8, rfl, ho8, hb8⟩
                obtain ⟨A8, n8, c8, rfl, hn8, -, -⟩ := ho8.form
                rw [List.length_map, HR2.out] at hn8
                have hn8i : (n8 : Int) = (R : Int) + 1 := by omega
                have H8 := Lib.hid (H7.out.step hb8)
                have hq8 : ((n8 : Int) != (R : Int) + 1) = false := by simp; omega
                clear ho8 hb8 hb7 hn8 hn8i
                go_wp2_with fail
                have hfin := (show (∃ (j' : Nat) (rv' : Value) (S' : Rp), j' ≤ n ∧ Value.int .i64 ((j : Int) + 1) = .int .i64 (j' : Int) ∧ Value.int .i64 ((F : Int) - (K : Int)) = .int .i64 (S'.free : Int) ∧ Value.int .i64 ((R : Int) + 1) = .int .i64 (S'.recs.length : Int) ∧ RA W.heap.size W w8 g rv' S' ∧ S'.Ok ∧ S'.cap = C) from ⟨j + 1, rv6, S6, by omega, by go_num, vi HF2.out.symm, vi (by rw [HR2.out]; omega), H8.out, HO2.out, HCP2.out⟩)
                exact ⟨hfin, by simp [intOf]; omega⟩
      · have hj1 : ¬ (j : Int) < (n : Int) := by omega
        have HRS := Lib.hid (res_p HRA.out HOK.out)
        have hv : S.res.valid S.res.resv = true := by unfold Rp.valid; simp [Rp.res]
        have HCL := Lib.hid (fun V rvx (hV : RA W.heap.size W V g rvx S.res) => clr_p hV S.res.resv hv)
        have ok2 := HOK.out.res.clr
        have HFR := Lib.hid (fun V (hV : RA W.heap.size W V g (.slice none 0 0) S.res.clr) => (show Calls Try.prog 69 #[.pointer (some ⟨g, 0, none⟩)] V fun e w' => e = .returned (.int .i64 (C : Int)) ∧ Below V.heap.size V w' from by
          have h := free_p hV ok2
          have e : S.res.clr.free = C := by rw [← HCAP.out]; rfl
          rw [e] at h
          exact h))
        have HIS := Lib.hid (fun V (hV : RA W.heap.size W V g (.slice none 0 0) S.res.clr) => ids_p hV ok2)
        clear hv ok2
        go_wp2_with fail
        refine HRS.out.mono ?_
        rintro e w2 ⟨rfl, h2, -⟩
        have H2 := Lib.hid h2
        clear h2
        go_wp2_with fail
        refine (HCL.out _ _ H2.out).mono ?_
        rintro e w3 ⟨rfl, h3, -⟩
        have H3 := Lib.hid h3
        clear h3
        go_wp2_with fail
        refine (HFR.out _ H3.out).mono ?_
        rintro e w4 ⟨rfl, hb4⟩
        have H4 := Lib.hid (H3.out.step hb4)
        clear hb4
        go_wp2_with fail
        refine (HIS.out _ H4.out).mono ?_
        rintro e w5 ⟨v5, rfl, ho5, hb5⟩
        obtain ⟨A5, n5, c5, rfl, hn5, -, -⟩ := ho5.form
        have hn50 : n5 = 0 := hn5
        subst hn50
        have H5 := Lib.hid (H4.out.step hb5)
        clear hb5 ho5 hn5
        go_wp2_with fail
        refine (haw.out _).mono ?_
        rintro e w6 ⟨rfl, hb6⟩
        go_wp2_with fail
        go_ret
        exact ⟨rfl, H5.out.bel.trans (hb6.mono H5.out.base)⟩
  · clear hr hn hw
    go_enter Try.func14, Try.ntmps14
    go_wp2_with fail
    refine (haw.out _).mono ?_
    rintro e w2 ⟨rfl, hb⟩
    go_wp2_with fail
    go_ret
    exact ⟨rfl, hb⟩

theorem cells_u8 : Try.prog.cellsOf 5 = 1 := by kernel_rfl
theorem cells_int : Try.prog.cellsOf 3 = 1 := by kernel_rfl
theorem own : ownKnob Try.prog.godebug = none := by kernel_rfl
theorem laidOut : laidOutB Try.prog = true := by kernel_rfl
theorem contract (H : Type) (enc : TypeId × Value → H) (W : World) (base : Nat) (args : Array Value) (ds gs : List (DataW H)) (before : List MemPlace)
    (hval : ∀ (j : Nat) t v, Try.f14.params[j]? = some t → args[j]? = some v → Value.okWide Try.prog W .any base t v)
    (hW : DataW.Whole enc Try.prog Try.f14.params.toList Rows.repositoryRoomSpec.vars false W args.toList ds gs before) :
    Calls Try.prog 14 args W fun e W' => ∃ v, e = .returned v ∧ Rows.repositoryRoomSpec.post enc Try.prog Try.f14 false true false false W args v W' := by
  have hW' := hW
  obtain ⟨p, q, hA0, hV, rfl, hfz, hnd⟩ := hW
  have hA : DataW.TrodAll enc Try.prog W 0 (fun _ => true) true Try.f14.params.toList args.toList ds p := hA0
  rw [Try.params14] at hA hval
  obtain ⟨v0, vs0, d0, ds0, p0, q0, hargs, rfl, rfl, h0, r0⟩ := trodAll_cons hA
  obtain ⟨v1, vs1, d1, ds1, p1, q1, rfl, rfl, rfl, h1, r1⟩ := trodAll_cons r0
  obtain ⟨rfl, rfl, rfl⟩ := trodAll_nil r1
  obtain rfl : args = #[v0, v1] := by cases args; simp_all
  obtain ⟨a0, rfl, -, -, w0⟩ := open_int Try.underlying3 (hval 0 3 v0 rfl rfl) h0
  obtain ⟨A1, n1, c1, l1, rfl, hn1, hr1, hw1, hc1, hm1, hk1⟩ := open_int_list Try.underlying22 Try.underlying3 cells_int (hval 1 22 v1 rfl rfl) h1
  clear hA0
  refine (walk a0 (bounds_i64 w0) A1 n1 c1 l1 hn1 hw1 hc1 hm1 hk1 W hr1).mono fun e W' ⟨he, hb⟩ => ?_
  subst he
  exact ⟨_, rfl, law_post laidOut (types_fit (by kernel_rfl)) (by kernel_rfl) Try.underlying4 rfl (fun xs hx => by
    match xs, hx with
    | [_, _], _ => rfl) hW' hb⟩

theorem lifted (os : Os) (started : os.Started) (H : Type) (enc : TypeId × Value → H) :
    ReturnsInHanded {} Try.checked os 14 .any (Rows.repositoryRoomSpec.pre6 enc Try.prog Try.f14 Rows.repositoryRoomRow.domain false) (Rows.repositoryRoomSpec.post enc Try.prog Try.f14 false true false false) := by
  refine returnsInHanded_of_change (C := Try.checked) own started (by kernel_rfl) Try.func14
    (ChangeSpec.witness6 (enc := enc) (C := Try.checked) false ⟨#[], #[.int .i64 0, .slice none 0 0], []⟩ 8 (by kernel_rfl) (by kernel_rfl) (by kernel_rfl) (by kernel_rfl)) ?_
  intro W base args ds gs before hval hW _ _
  exact contract H enc W base args ds gs before hval hW

theorem proved : Rows.RepositoryRoomSaid :=
  OpenClaim.holds_of_wide 14 Try.f14 rfl rfl rfl rfl rfl rfl rfl ⟨rfl, rfl, rfl, rfl, rfl⟩ rfl rfl rfl rfl rfl (by kernel_rfl) Try.func14 (by kernel_rfl)
    (of_decide_eq_true (by kernel_rfl)) (by unfold Func.isWrapper; first | (rw [if_pos (by decide +kernel)]; kernel_rfl) | (rw [if_neg (by decide +kernel)]; exact ⟨rfl, rfl⟩))
    (fun os started H enc _ => lifted os started H enc)
end Go.Proofs.Ytcjmpogjickplaa.repositoryRoom
