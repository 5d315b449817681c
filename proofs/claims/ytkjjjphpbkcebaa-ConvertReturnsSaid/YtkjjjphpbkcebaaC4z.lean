/- Walks: the reference of conversions: values. -/
import Derived.Test.YtkjjjphpbkcebaaC4y
import Derived.Test.YtkjjjphpbkcebaaM4s
namespace Go.Proofs.Ytkjjjphpbkcebaa.C4v
open Go.RowKit Go.Proofs.Ytkjjjphpbkcebaa.Mem Go.Proofs.Ytkjjjphpbkcebaa.M3p Go.Proofs.Ytkjjjphpbkcebaa.M3r Go.Proofs.Ytkjjjphpbkcebaa.C4p Go.Proofs.Ytkjjjphpbkcebaa.C4l
set_option maxRecDepth 100000
set_option maxHeartbeats 4000000

theorem ten_in {z : Int} (h1 : 0 ≤ z) (h2 : z ≤ 12) : 1 ≤ ten z ∧ ten z ≤ 1000000000000 := by
  obtain ⟨n, rfl⟩ := Int.eq_ofNat_of_zero_le h1
  have e : ten (n : Int) = ((10 ^ n : Nat) : Int) := ten_nat n
  have g1 : 1 ≤ 10 ^ n := Nat.pow_pos (by omega)
  have g2 : 10 ^ n ≤ 1000000000000 := Nat.le_trans (Nat.pow_le_pow_right (by omega) (show n ≤ 12 by omega)) (by decide)
  rw [e]
  omega
theorem ten_in9 {z : Int} (h1 : 0 ≤ z) (h2 : z ≤ 9) : 1 ≤ ten z ∧ ten z ≤ 1000000000 := by
  obtain ⟨n, rfl⟩ := Int.eq_ofNat_of_zero_le h1
  have e : ten (n : Int) = ((10 ^ n : Nat) : Int) := ten_nat n
  have g1 : 1 ≤ 10 ^ n := Nat.pow_pos (by omega)
  have g2 : 10 ^ n ≤ 1000000000 := Nat.le_trans (Nat.pow_le_pow_right (by omega) (show n ≤ 9 by omega)) (by decide)
  rw [e]
  omega
theorem dout_is {y : Int} (h1 : -lim ≤ y) (h2 : y ≤ lim) : dout 1000000 y = .returned (.tuple #[.int .i64 (if y = 0 then 0 else divS 1000000 y), .int .i64 (if y = 0 then 12 else 0)]) := by
  unfold dout
  rw [clp_in h1 h2]
theorem value_r (f m b k1 k2 : Int) (s : Bool) (A : Option Addr) (n cp : Nat) (l : List Pt) (r : UInt8) (w : World) (hsl : PSl w A n cp l) :
    Calls Try.prog 20 #[.agg #[.int .i64 f, .bool s, .int .i64 m, .int .i64 b, .int .i64 k1, .int .i64 k2, .slice A n cp], .int .u8 (r.toNat : Int)] w fun e w' => e = .returned (.tuple #[.int .i64 (value ⟨f, s, m, b, k1, k2, l⟩ r).1, .int .i64 (value ⟨f, s, m, b, k1, k2, l⟩ r).2]) ∧ Below w.heap.size w w' := by
  obtain ⟨R, hR⟩ : ∃ R, R = value ⟨f, s, m, b, k1, k2, l⟩ r := ⟨_, rfl⟩
  rw [← hR]
  obtain ⟨w1, hw1⟩ : ∃ w1, w1 = w.alloc (.cells #[.int .i64 f, .bool s, .int .i64 m, .int .i64 b, .int .i64 k1, .int .i64 k2, .slice A n cp] 24) := ⟨_, rfl⟩
  have hb1 : Below w.heap.size w w1 := by rw [hw1]; exact (Below.refl _ _).alloc (Nat.le_refl _) _
  have hst : w1.heap[w.heap.size]? = some (.cells #[.int .i64 f, .bool s, .int .i64 m, .int .i64 b, .int .i64 k1, .int .i64 k2, .slice A n cp] 24 (0, 0)) := by rw [hw1]; exact heap_alloc_new w _
  have hlt : w.heap.size < w1.heap.size := by rw [hw1]; simp
  have hs1 : PSl w1 A n cp l := hsl.step hb1
  have hc : ∀ i v, (#[Value.int .i64 f, .bool s, .int .i64 m, .int .i64 b, .int .i64 k1, .int .i64 k2, .slice A n cp] : Array Value)[i]? = some v → w1.cell? ⟨w.heap.size, i, none⟩ = some v := by
    intro i v h
    rw [cell_of_row w1 w.heap.size i _ _ _ hst]
    exact h
  have HC := Lib.hid hc
  have HV := Lib.hid (valid_r f m b k1 k2 s A n cp l w1 hs1)
  have hRv : R = if vld ⟨f, s, m, b, k1, k2, l⟩ = true then valv ⟨f, s, m, b, k1, k2, l⟩ (num s r) else (0, 1) := hR
  have HRV := Lib.hid hRv
  clear hR hRv hsl hc hst
  go_enter Try.func20, Try.ntmps20
  go_wp2_with fail
  rw [← hw1]
  clear hw1
  refine (HV.out).mono ?_
  rintro e w2 ⟨rfl, hb2⟩
  have hbb : Below w.heap.size w w2 := hb1.trans (hb2.mono hb1.size)
  have hs2 : PSl w2 A n cp l := hs1.step hb2
  have c0 : w2.cell? ⟨w.heap.size, 0, none⟩ = some (.int .i64 f) := by rw [hb2.cell (p := ⟨w.heap.size, 0, none⟩) hlt]; exact HC.out 0 _ rfl
  have c1 : w2.cell? ⟨w.heap.size, 1, none⟩ = some (.bool s) := by rw [hb2.cell (p := ⟨w.heap.size, 1, none⟩) hlt]; exact HC.out 1 _ rfl
  have c2 : w2.cell? ⟨w.heap.size, 2, none⟩ = some (.int .i64 m) := by rw [hb2.cell (p := ⟨w.heap.size, 2, none⟩) hlt]; exact HC.out 2 _ rfl
  have c3 : w2.cell? ⟨w.heap.size, 3, none⟩ = some (.int .i64 b) := by rw [hb2.cell (p := ⟨w.heap.size, 3, none⟩) hlt]; exact HC.out 3 _ rfl
  have c4 : w2.cell? ⟨w.heap.size, 4, none⟩ = some (.int .i64 k1) := by rw [hb2.cell (p := ⟨w.heap.size, 4, none⟩) hlt]; exact HC.out 4 _ rfl
  have c5 : w2.cell? ⟨w.heap.size, 5, none⟩ = some (.int .i64 k2) := by rw [hb2.cell (p := ⟨w.heap.size, 5, none⟩) hlt]; exact HC.out 5 _ rfl
  have c6 : w2.cell? ⟨w.heap.size, 6, none⟩ = some (.slice A n cp) := by rw [hb2.cell (p := ⟨w.heap.size, 6, none⟩) hlt]; exact HC.out 6 _ rfl
  clear hb1 hb2 hs1 HC HV hlt
  have hnm : n ≤ maxLen := Nat.le_trans hs2.cap hs2.max
  rcases hv : vld ⟨f, s, m, b, k1, k2, l⟩ with _ | _
  · have hres : R = (0, 1) := by rw [HRV.out, hv]; rfl
    subst hres
    go_wp2_with fail
    go_ret2
    exact ⟨rfl, hbb⟩
  have hres : R = valv ⟨f, s, m, b, k1, k2, l⟩ (num s r) := by rw [HRV.out, if_pos hv]
  have HRES := Lib.hid hres
  have HN := Lib.hid (fun u => number_r s r u)
  have hnb := num_b s r
  clear hres HRV
  go_wp2_with fail
  refine (HN.out _).mono ?_
  rintro e w' ⟨rfl, rfl⟩
  by_cases h5 : f = 5
  · obtain ⟨-, ⟨hp1, hp2⟩, hok⟩ := vld_tab hv h5
    have hres : R = (tab s (num s r) none l, 0) := by rw [HRES.out]; unfold valv; rw [if_pos h5]
    have HT := Lib.hid (table_r s (num s r) A n cp l w2 hs2 (by rw [hs2.len]; exact Nat.le_trans (by decide) hp1) (by rw [hs2.len]; exact Nat.le_trans hp2 (by decide)) (by omega) (by omega) (okp_none hok))
    subst hres
    subst h5
    clear hv hok hp1 hp2
    go_wp2_with fail
    refine (HT.out).mono ?_
    rintro e w3 ⟨rfl, hb3⟩
    go_wp2_with fail
    go_ret2
    exact ⟨rfl, hbb.trans (hb3.mono hbb.size)⟩
  obtain ⟨⟨f1, f4⟩, ⟨m1, m2, b1, b2, g1, g2, g3, g4⟩, -⟩ := vld_lin hv h5
  dsimp only at f1 f4 m1 m2 b1 b2 g1 g2 g3 g4
  have h5b : (f == 5) = false := by rw [beq_eq_false_iff_ne]; exact h5
  obtain ⟨x, hx⟩ : ∃ x, num s r = x := ⟨_, rfl⟩
  rw [hx] at HRES hnb
  obtain ⟨T1, hT1⟩ : ∃ T, ten (6 + k2) = T := ⟨_, rfl⟩
  obtain ⟨T2, hT2⟩ : ∃ T, ten (6 + k1 + k2) = T := ⟨_, rfl⟩
  have t1 := ten_in9 (z := 6 + k2) (by omega) (by omega)
  have t2 := ten_in (z := 6 + k1 + k2) (by omega) (by omega)
  rw [hT1] at t1
  rw [hT2] at t2
  obtain ⟨P, hP⟩ : ∃ P, m * x = P := ⟨_, rfl⟩
  obtain ⟨p1, p2⟩ := mul_le (a := m) (b := x) (c := 512) (d := 255) (by omega) (by omega) (by omega) (by omega)
  rw [hP] at p1 p2
  obtain ⟨Q, hQ⟩ : ∃ Q, P * T1 = Q := ⟨_, rfl⟩
  obtain ⟨q1, q2⟩ := mul_le (a := P) (b := T1) (c := 130560) (d := 1000000000) (by omega) (by omega) (by omega) (by omega)
  rw [hQ] at q1 q2
  obtain ⟨S, hS⟩ : ∃ S, b * T2 = S := ⟨_, rfl⟩
  obtain ⟨s1, s2⟩ := mul_le (a := b) (b := T2) (c := 512) (d := 1000000000000) (by omega) (by omega) (by omega) (by omega)
  rw [hS] at s1 s2
  obtain ⟨y, hy⟩ : ∃ y, clp (Q + S) = y := ⟨_, rfl⟩
  have hlin : lin ⟨f, s, m, b, k1, k2, l⟩ x = y := by
    unfold lin
    dsimp only
    rw [hT1, hT2, hP, hQ, hS, hy]
  obtain ⟨y1, y2⟩ := clp_le (Q + S)
  rw [hy] at y1 y2
  have HT := Lib.hid (fun z u h1 h2 => ten_r z u h1 h2)
  have HCL := Lib.hid (fun u => by have := clamp_r (Q + S) u; rw [hy] at this; exact this)
  have hval : R = if f = 2 then (if y = 0 then (0, 12) else (divS 1000000 y, 0)) else if f = 3 then (mulS y y, 0) else if f = 4 then (if y < 0 then (0, 2) else ((rt (y * 1000000).toNat : Int), 0)) else (y, 0) := by
    rw [HRES.out]
    unfold valv
    rw [if_neg h5]
    dsimp only
    rw [hlin]
  have HVAL := Lib.hid hval
  clear hval HRES hlin hv hy h5
  have hbd : ∀ d, Below w.heap.size w (w2.drewN d) := fun d => ⟨hbb.os, hbb.tape, hbb.output, hbb.size, hbb.block⟩
  have HBD := Lib.hid hbd
  clear hbd
  by_cases e2 : f = 2
  · subst e2
    have hd := dout_is y1 y2
    have HD := Lib.hid (fun u => by have := div_r 1000000 y u; rw [hd] at this; exact this)
    have hres : R = (if y = 0 then 0 else divS 1000000 y, if y = 0 then 12 else 0) := by
      rw [HVAL.out, if_pos rfl]
      split <;> rfl
    clear hd
    obtain ⟨q0, hq0⟩ : ∃ q, q = if y = 0 then 0 else divS 1000000 y := ⟨_, rfl⟩
    obtain ⟨x0, hx0⟩ : ∃ q : Int, q = if y = 0 then 12 else 0 := ⟨_, rfl⟩
    rw [← hq0, ← hx0] at hres HD
    subst hres
    clear hq0 hx0
    go_wp2_with fail
    go_quiet ((first | (go_at_call 45; exact quiet_same (HT.out _ _ (by omega) (by omega))) | (go_at_call 39; exact quiet_same (HCL.out _))))
    all_goals go_wp2_with fail
    refine (HD.out _).mono ?_
    rintro e w' ⟨rfl, rfl⟩
    go_wp2_with fail
    go_ret2
    exact ⟨rfl, HBD.out _⟩
  by_cases e3 : f = 3
  · subst e3
    have HM := Lib.hid (fun u => mul_r y y u)
    have hres : R = (mulS y y, 0) := by rw [HVAL.out, if_neg (by decide), if_pos rfl]
    obtain ⟨q0, hq0⟩ : ∃ q, q = mulS y y := ⟨_, rfl⟩
    rw [← hq0] at hres HM
    subst hres
    clear hq0
    go_wp2_with fail
    go_quiet ((first | (go_at_call 45; exact quiet_same (HT.out _ _ (by omega) (by omega))) | (go_at_call 39; exact quiet_same (HCL.out _))))
    all_goals go_wp2_with fail
    refine (HM.out _).mono ?_
    rintro e w' ⟨rfl, rfl⟩
    go_wp2_with fail
    go_ret2
    exact ⟨rfl, HBD.out _⟩
  by_cases e4 : f = 4
  · subst e4
    by_cases hy0 : y < 0
    · have HM := Lib.hid (fun u => root_neg y u hy0)
      have hres : R = (0, 2) := by rw [HVAL.out, if_neg (by decide), if_neg (by decide), if_pos rfl, if_pos hy0]
      subst hres
      go_wp2_with fail
      go_quiet ((first | (go_at_call 45; exact quiet_same (HT.out _ _ (by omega) (by omega))) | (go_at_call 39; exact quiet_same (HCL.out _))))
      all_goals go_wp2_with fail
      refine (HM.out _).mono ?_
      rintro e w' ⟨rfl, rfl⟩
      go_wp2_with fail
      go_ret2
      exact ⟨rfl, HBD.out _⟩
    · have HM := Lib.hid (fun u => by have := root_r y u (by omega); rw [clp_in y1 y2] at this; exact this)
      have hres : R = ((rt (y * 1000000).toNat : Int), 0) := by rw [HVAL.out, if_neg (by decide), if_neg (by decide), if_pos rfl, if_neg hy0]
      have HRT := Lib.hid (rt_is (y * 1000000).toNat)
      obtain ⟨q0, hq0⟩ : ∃ q, q = rt (y * 1000000).toNat := ⟨_, rfl⟩
      rw [← hq0] at hres HRT
      subst hres
      clear hq0
      go_wp2_with fail
      go_quiet ((first | (go_at_call 45; exact quiet_same (HT.out _ _ (by omega) (by omega))) | (go_at_call 39; exact quiet_same (HCL.out _))))
      all_goals go_wp2_with fail
      refine (HM.out _).mono ?_
      rintro e w' ⟨⟨q, rfl, hq, -⟩, rfl⟩
      obtain rfl : q = q0 := root_one hq HRT.out
      go_wp2_with fail
      go_ret2
      exact ⟨rfl, HBD.out _⟩
  · obtain rfl : f = 1 := by omega
    have hres : R = (y, 0) := by rw [HVAL.out, if_neg (by decide), if_neg (by decide), if_neg (by decide)]
    subst hres
    go_wp2_with fail
    go_quiet ((first | (go_at_call 45; exact quiet_same (HT.out _ _ (by omega) (by omega))) | (go_at_call 39; exact quiet_same (HCL.out _))))
    all_goals go_wp2_with fail
    go_ret2
    exact ⟨rfl, HBD.out _⟩
end Go.Proofs.Ytkjjjphpbkcebaa.C4v
