/- Walks: the reference of conversions: the nearest raw reading. -/
import Derived.Test.YtkjjjphpbkcebaaC4z
namespace Go.Proofs.Ytkjjjphpbkcebaa.C4v
open Go.RowKit Go.Proofs.Ytkjjjphpbkcebaa.Mem Go.Proofs.Ytkjjjphpbkcebaa.M3p Go.Proofs.Ytkjjjphpbkcebaa.M3r Go.Proofs.Ytkjjjphpbkcebaa.C4p Go.Proofs.Ytkjjjphpbkcebaa.C4l
set_option maxRecDepth 100000
set_option maxHeartbeats 4000000

theorem least_b (s : Bool) : -128 ≤ least s ∧ least s ≤ 0 := by
  unfold least
  split <;> omega
theorem near_r (f m b k1 k2 : Int) (s : Bool) (A : Option Addr) (n cp : Nat) (l : List Pt) (v : Int) (w : World) (hsl : PSl w A n cp l) :
    Calls Try.prog 27 #[.agg #[.int .i64 f, .bool s, .int .i64 m, .int .i64 b, .int .i64 k1, .int .i64 k2, .slice A n cp], .int .i64 v] w fun e w' => e = .returned (.tuple #[.int .u8 ((near ⟨f, s, m, b, k1, k2, l⟩ v).1.toNat : Int), .int .i64 (near ⟨f, s, m, b, k1, k2, l⟩ v).2]) ∧ Below w.heap.size w w' := by
  obtain ⟨R, hR⟩ : ∃ R, R = near ⟨f, s, m, b, k1, k2, l⟩ v := ⟨_, rfl⟩
  rw [← hR]
  obtain ⟨w1, hw1⟩ : ∃ w1, w1 = w.alloc (.cells #[.int .i64 f, .bool s, .int .i64 m, .int .i64 b, .int .i64 k1, .int .i64 k2, .slice A n cp] 24) := ⟨_, rfl⟩
  have hb1 : Below w.heap.size w w1 := by rw [hw1]; exact (Below.refl _ _).alloc (Nat.le_refl _) _
  have hst : w1.heap[w.heap.size]? = some (.cells #[.int .i64 f, .bool s, .int .i64 m, .int .i64 b, .int .i64 k1, .int .i64 k2, .slice A n cp] 24 (0, 0)) := by rw [hw1]; exact heap_alloc_new w _
  have hlt : w.heap.size < w1.heap.size := by rw [hw1]; simp
  have hs1 : PSl w1 A n cp l := hsl.step hb1
  have hc : ∀ i v, (#[.int .i64 f, .bool s, .int .i64 m, .int .i64 b, .int .i64 k1, .int .i64 k2, .slice A n cp] : Array Value)[i]? = some v → w1.cell? ⟨w.heap.size, i, none⟩ = some v := by
    intro i v h
    rw [cell_of_row w1 w.heap.size i _ _ _ hst]
    exact h
  have HC := Lib.hid hc
  have HV := Lib.hid (valid_r f m b k1 k2 s A n cp l w1 hs1)
  have HRV := Lib.hid hR
  have HSL := Lib.hid hsl
  clear hR hsl hc hst
  go_enter Try.func27, Try.ntmps27
  go_wp2_with fail
  rw [← hw1]
  clear hw1
  refine (HV.out).mono ?_
  rintro e w2 ⟨rfl, hb2⟩
  have hbb : Below w.heap.size w w2 := hb1.trans (hb2.mono hb1.size)
  have hs2 : PSl w2 A n cp l := hs1.step hb2
  have hnm : n ≤ maxLen := Nat.le_trans hs2.cap hs2.max
  have HLT := Lib.hid hlt
  have HCC := Lib.hid (fun i v h wr (hr : Below w1.heap.size w2 wr) => (by rw [hr.cell (p := ⟨w.heap.size, i, none⟩) (by exact hlt), hb2.cell (p := ⟨w.heap.size, i, none⟩) hlt]; exact HC.out i v h : wr.cell? ⟨w.heap.size, i, none⟩ = some v))
  have HB2 := Lib.hid hb2
  clear hb1 hb2 hs1 HC HV hlt
  rcases hv : vld ⟨f, s, m, b, k1, k2, l⟩ with _ | _
  · have hres : R = (0, 1) := by rw [HRV.out]; unfold near; rw [hv]; rfl
    subst hres
    go_wp2_with fail
    go_ret2
    exact ⟨rfl, hbb⟩
  obtain ⟨c, hcv⟩ : ∃ c : Cv, c = ⟨f, s, m, b, k1, k2, l⟩ := ⟨_, rfl⟩
  have hcs : c.s = s := by rw [hcv]
  obtain ⟨W, hW⟩ : ∃ W, W = clp v := ⟨_, rfl⟩
  have hW2 := clp_le v
  rw [← hW] at hW2
  have HCLP := Lib.hid (fun u => by have := clamp_r v u; rw [← hW] at this; exact this)
  have hres : R = if (nfold c W 256).1 < 0 then (0, 8) else ((nfold c W 256).2, 0) := by
    rw [HRV.out]
    unfold near
    rw [if_pos hv, ← hcv, ← hW]
  have HRES := Lib.hid hres
  have hlb := least_b s
  have HLE := Lib.hid (fun u => least_r s u)
  have HRA := Lib.hid (fun z u h1 h2 => raw_r z u h1 h2)
  have hvc : vld c = true := by rw [hcv]; exact hv
  have HVC := Lib.hid hvc
  have HCV := Lib.hid hcv
  have HCS := Lib.hid hcs
  have HVAL := Lib.hid (fun q u (hu : PSl u A n cp l) => value_r f m b k1 k2 s A n cp l q u hu)
  clear hres HRV hW hv hvc hcv hcs
  go_wp2_with fail
  refine (HCLP.out _).mono ?_
  rintro e w' ⟨rfl, rfl⟩
  obtain ⟨L, hL⟩ : ∃ L, L = least s := ⟨_, rfl⟩
  rw [← hL] at hlb HLE
  have HL := Lib.hid hL
  clear hL
  unfold lim at hW2
  obtain ⟨hWa, hWb⟩ := hW2
  go_wp2_with fail
  go_loopw [7, 8, 9] (fun v7 v8 v9 wr => ∃ (i : Nat) (far : Int) (best : UInt8), i ≤ 256 ∧ v9 = .int .i64 i ∧ v8 = .int .i64 far ∧ v7 = .int .u8 (best.toNat : Int) ∧ nfold c W i = (far, best) ∧ Below w1.heap.size w2 wr) (fun _ _ v9 _ => 256 - (intOf v9).toNat)
  case atStart => exact ⟨0, -1, 0, Nat.zero_le _, rfl, rfl, rfl, rfl, Below.refl _ _⟩
  case round =>
    obtain ⟨i, far, best, hi, rfl, rfl, rfl, hnf, hbr⟩ := hrel
    have HNF := Lib.hid hnf
    have c0 := HCC.out 0 _ rfl wr hbr
    have c1 := HCC.out 1 _ rfl wr hbr
    have c2 := HCC.out 2 _ rfl wr hbr
    have c3 := HCC.out 3 _ rfl wr hbr
    have c4 := HCC.out 4 _ rfl wr hbr
    have c5 := HCC.out 5 _ rfl wr hbr
    have c6 := HCC.out 6 _ rfl wr hbr
    have hball : Below w.heap.size w wr := hbb.trans (hbr.mono (Nat.le_of_lt HLT.out))
    have hsr : PSl wr A n cp l := HSL.out.step hball
    clear hnf
    by_cases hlt : i < 256
    · obtain ⟨X, E, ho⟩ : ∃ X E : Int, ord c i = (X, E) := ⟨_, _, rfl⟩
      obtain ⟨q, hq⟩ : ∃ q, q = rawAt c i := ⟨_, rfl⟩
      have hX : -lim ≤ X ∧ X ≤ lim := by
        have := valv_in HVC.out (least c.s + i)
        have e : ord c i = valv c (least c.s + i) := rfl
        rw [← e, ho] at this
        exact this
      have hvl : value ⟨f, s, m, b, k1, k2, l⟩ q = (X, E) := by rw [hq, ← HCV.out, value_at HVC.out hlt, ho]
      have HVA := Lib.hid (fun u (hu : PSl u A n cp l) => by have := HVAL.out q u hu; rw [hvl] at this; exact this)
      have hqr : rawOf (L + i) = q := by rw [hq]; unfold rawAt; rw [HCS.out, ← HL.out]
      have HRR := Lib.hid (fun u => by have := HRA.out (L + i) u (by omega) (by omega); rw [hqr] at this; exact this)
      have hnx : nfold c W (i + 1) = if E ≠ 0 then (far, best) else if far < 0 ∨ dist W X < far then (dist W X, q) else (far, best) := by
        rw [nfold, HNF.out, ho, ← hq]
      have HNX := Lib.hid hnx
      unfold lim at hX
      obtain ⟨x1, x2⟩ := hX
      clear hnx hqr hvl hq ho
      go_wp2_with fail
      refine (HLE.out _).mono ?_
      rintro e w' ⟨rfl, rfl⟩
      go_wp2_with fail
      refine (HRR.out _).mono ?_
      rintro e w' ⟨rfl, rfl⟩
      go_wp2_with fail
      refine (HVA.out _ hsr).mono ?_
      rintro e w4 ⟨rfl, hb4⟩
      have hbr4 : Below w1.heap.size w2 w4 := hbr.trans (hb4.mono (Nat.le_trans HB2.out.size hbr.size))
      clear c0 c1 c2 c3 c4 c5 c6
      by_cases hE : E = 0
      · subst hE
        have hds : max (X - W) (W - X) = dist W X := rfl
        obtain ⟨D, hD⟩ : ∃ D, dist W X = D := ⟨_, rfl⟩
        rw [hD] at hds HNX
        have HDD := Lib.hid hD
        have hn0 := HNX.out
        rw [if_neg (by simp)] at hn0
        have HN0 := Lib.hid hn0
        clear hn0
        by_cases hf : far < 0
        · have hfin : nfold c W (i + 1) = (D, q) := by rw [HN0.out, if_pos (.inl hf)]
          have HF := Lib.hid hfin
          clear hfin
          go_wp2_with fail
          exact ⟨⟨i + 1, D, q, by omega, by go_num, vi (by rw [← HDD.out]; unfold dist; split <;> omega), rfl, HF.out, hbr4⟩, by simp [intOf]; omega⟩
        · by_cases hd : D < far
          · have hfin : nfold c W (i + 1) = (D, q) := by rw [HN0.out, if_pos (.inr hd)]
            have HF := Lib.hid hfin
            clear hfin
            go_wp2_with fail
            exact ⟨⟨i + 1, D, q, by omega, by go_num, vi (by rw [← HDD.out]; unfold dist; split <;> omega), rfl, HF.out, hbr4⟩, by simp [intOf]; omega⟩
          · have hfin : nfold c W (i + 1) = (far, best) := by rw [HN0.out, if_neg (by rintro (g | g) <;> omega)]
            have HF := Lib.hid hfin
            clear hfin
            go_wp2_with fail
            exact ⟨⟨i + 1, far, best, by omega, by go_num, rfl, rfl, HF.out, hbr4⟩, by simp [intOf]; omega⟩
      · have hE2 : (E != 0) = true := by rw [bne_iff_ne]; exact hE
        have hfin : nfold c W (i + 1) = (far, best) := by rw [HNX.out, if_pos hE]
        have HF := Lib.hid hfin
        clear hfin hE
        go_wp2_with fail
        exact ⟨⟨i + 1, far, best, by omega, by go_num, rfl, rfl, HF.out, hbr4⟩, by simp [intOf]; omega⟩
    · obtain rfl : i = 256 := by omega
      have hres := HRES.out
      rw [HNF.out] at hres
      clear c0 c1 c2 c3 c4 c5 c6
      by_cases hf : far < 0
      · have hr2 : R = (0, 8) := by rw [hres]; exact if_pos hf
        subst hr2
        clear hres
        go_wp2_with fail
        go_ret2
        exact ⟨rfl, hball⟩
      · have hr2 : R = (best, 0) := by rw [hres]; exact if_neg hf
        subst hr2
        clear hres
        go_wp2_with fail
        go_ret2
        exact ⟨rfl, hball⟩
end Go.Proofs.Ytkjjjphpbkcebaa.C4v
