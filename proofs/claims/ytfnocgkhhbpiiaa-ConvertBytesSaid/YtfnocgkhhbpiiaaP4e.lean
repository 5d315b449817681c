/- Walks: the program's conversions: values. -/
import Derived.Test.YtfnocgkhhbpiiaaP4d
namespace Go.Proofs.Ytfnocgkhhbpiiaa.P4
open Go.RowKit Go.Proofs.Ytfnocgkhhbpiiaa.Mem Go.Proofs.Ytfnocgkhhbpiiaa.M3p Go.Proofs.Ytfnocgkhhbpiiaa.M3r Go.Proofs.Ytfnocgkhhbpiiaa.C4p Go.Proofs.Ytfnocgkhhbpiiaa.C4l Go.Proofs.Ytfnocgkhhbpiiaa.C4v
set_option maxRecDepth 100000
set_option maxHeartbeats 4000000

theorem val_p (f m b k1 k2 x : Int) (s : Bool) (A : Option Addr) (n cp : Nat) (l : List Pt) (w : World) (hsl : PSl w A n cp l) (hv : vld ⟨f, s, m, b, k1, k2, l⟩ = true) (x1 : -128 ≤ x) (x2 : x ≤ 255) :
    Calls Try.prog 31 #[.agg #[.int .i64 f, .bool s, .int .i64 m, .int .i64 b, .int .i64 k1, .int .i64 k2, .slice A n cp], .int .i64 x] w fun e w' => e = .returned (.tuple #[.int .i64 (valv ⟨f, s, m, b, k1, k2, l⟩ x).1, .int .i64 (valv ⟨f, s, m, b, k1, k2, l⟩ x).2]) ∧ Below w.heap.size w w' := by
  obtain ⟨R, hR⟩ : ∃ R, R = valv ⟨f, s, m, b, k1, k2, l⟩ x := ⟨_, rfl⟩
  rw [← hR]
  have HR := Lib.hid hR
  have hb1 : Below w.heap.size w (w.alloc (.cells #[.int .i64 f, .bool s, .int .i64 m, .int .i64 b, .int .i64 k1, .int .i64 k2, .slice A n cp] 24)) := (Below.refl _ _).alloc (Nat.le_refl _) _
  have hs1 := hsl.step hb1
  have HB1 := Lib.hid hb1
  by_cases h5 : f = 5
  · obtain ⟨⟨h1, h2, h3, h4⟩, ⟨hp1, hp2⟩, hok⟩ := vld_tab hv h5
    dsimp only at h1 h2 h3 h4 hp1 hp2 hok
    subst h5 h1 h2 h3 h4
    have hres : R = (tab s x none l, 0) := by rw [HR.out]; unfold valv; rw [if_pos rfl]
    have HT := Lib.hid (tablev_p s x A n cp l _ hs1 (by rw [hsl.len]; exact hp1) (by rw [hsl.len]; exact Nat.le_trans hp2 (by decide)) (by omega) (by omega) (okp_none hok))
    subst hres
    clear hR hsl hs1 hv hok hp1 hp2 hb1
    go_enter Try.func31, Try.ntmps31
    go_wp2_with fail
    refine (HT.out).mono ?_
    rintro e w3 ⟨rfl, hb3⟩
    go_wp2_with fail
    go_ret2
    exact ⟨rfl, HB1.out.trans (hb3.mono HB1.out.size)⟩
  obtain ⟨⟨f1, f4⟩, ⟨m1, m2, b1, b2, g1, g2, g3, g4⟩, -⟩ := vld_lin hv h5
  dsimp only at f1 f4 m1 m2 b1 b2 g1 g2 g3 g4
  obtain ⟨y1, y2⟩ := clp_le ((m * x * ten (6 + k2) + b * ten (6 + k1 + k2)))
  have HL := Lib.hid (linear_p f m b k1 k2 x s A n cp l (w.alloc (.cells #[.int .i64 f, .bool s, .int .i64 m, .int .i64 b, .int .i64 k1, .int .i64 k2, .slice A n cp] 24)) m1 m2 b1 b2 g1 g2 g3 g4 x1 x2)
  have hval : R = if f = 2 then (if lin ⟨f, s, m, b, k1, k2, l⟩ x = 0 then (0, 12) else (divS 1000000 (lin ⟨f, s, m, b, k1, k2, l⟩ x), 0)) else if f = 3 then (mulS (lin ⟨f, s, m, b, k1, k2, l⟩ x) (lin ⟨f, s, m, b, k1, k2, l⟩ x), 0) else if f = 4 then (if lin ⟨f, s, m, b, k1, k2, l⟩ x < 0 then (0, 2) else ((rt (lin ⟨f, s, m, b, k1, k2, l⟩ x * 1000000).toNat : Int), 0)) else (lin ⟨f, s, m, b, k1, k2, l⟩ x, 0) := by
    rw [HR.out]
    unfold valv
    rw [if_neg h5]
  have hly : -lim ≤ lin ⟨f, s, m, b, k1, k2, l⟩ x ∧ lin ⟨f, s, m, b, k1, k2, l⟩ x ≤ lim := lin_in _ _
  obtain ⟨y, hy⟩ : ∃ y, lin ⟨f, s, m, b, k1, k2, l⟩ x = y := ⟨_, rfl⟩
  rw [hy] at HL hval hly
  obtain ⟨y1, y2⟩ := hly
  have HVAL := Lib.hid hval
  clear hval hy hR HR hv hsl hs1 hb1
  by_cases e2 : f = 2
  · subst e2
    have hd := dout_is y1 y2
    have HD := Lib.hid (fun u => by have := M3w.div_p 1000000 y u; rw [hd] at this; exact this)
    have hres : R = (if y = 0 then 0 else divS 1000000 y, if y = 0 then 12 else 0) := by
      rw [HVAL.out, if_pos rfl]
      split <;> rfl
    clear hd
    obtain ⟨q0, hq0⟩ : ∃ q, q = if y = 0 then 0 else divS 1000000 y := ⟨_, rfl⟩
    obtain ⟨x0, hx0⟩ : ∃ q : Int, q = if y = 0 then 12 else 0 := ⟨_, rfl⟩
    rw [← hq0, ← hx0] at hres HD
    subst hres
    clear hq0 hx0
    go_enter Try.func31, Try.ntmps31
    go_wp2_with fail
    refine (HL.out).mono ?_
    rintro e w3 ⟨rfl, hb3⟩
    go_wp2_with fail
    refine (HD.out _).mono ?_
    rintro e w' ⟨rfl, rfl⟩
    go_wp2_with fail
    go_ret2
    exact ⟨rfl, HB1.out.trans (hb3.mono HB1.out.size)⟩
  by_cases e3 : f = 3
  · subst e3
    have HM := Lib.hid (fun u => M3w.mul_p y y u)
    have hres : R = (mulS y y, 0) := by rw [HVAL.out, if_neg (by decide), if_pos rfl]
    obtain ⟨q0, hq0⟩ : ∃ q, q = mulS y y := ⟨_, rfl⟩
    rw [← hq0] at hres HM
    subst hres
    clear hq0
    go_enter Try.func31, Try.ntmps31
    go_wp2_with fail
    refine (HL.out).mono ?_
    rintro e w3 ⟨rfl, hb3⟩
    go_wp2_with fail
    refine (HM.out _).mono ?_
    rintro e w' ⟨rfl, rfl⟩
    go_wp2_with fail
    go_ret2
    exact ⟨rfl, HB1.out.trans (hb3.mono HB1.out.size)⟩
  by_cases e4 : f = 4
  · subst e4
    by_cases hy0 : y < 0
    · have HM := Lib.hid (fun u => M3w.rootn_p y u hy0)
      have hres : R = (0, 2) := by rw [HVAL.out, if_neg (by decide), if_neg (by decide), if_pos rfl, if_pos hy0]
      subst hres
      go_enter Try.func31, Try.ntmps31
      go_wp2_with fail
      refine (HL.out).mono ?_
      rintro e w3 ⟨rfl, hb3⟩
      go_wp2_with fail
      refine (HM.out _).mono ?_
      rintro e w' ⟨rfl, rfl⟩
      go_wp2_with fail
      go_ret2
      exact ⟨rfl, HB1.out.trans (hb3.mono HB1.out.size)⟩
    · have HM := Lib.hid (fun u => by have := M3w.root_p y u (by omega); rw [clp_in y1 y2] at this; exact this)
      have hres : R = ((rt (y * 1000000).toNat : Int), 0) := by rw [HVAL.out, if_neg (by decide), if_neg (by decide), if_pos rfl, if_neg hy0]
      have HRT := Lib.hid (rt_is (y * 1000000).toNat)
      obtain ⟨q0, hq0⟩ : ∃ q, q = rt (y * 1000000).toNat := ⟨_, rfl⟩
      rw [← hq0] at hres HRT
      subst hres
      clear hq0
      go_enter Try.func31, Try.ntmps31
      go_wp2_with fail
      refine (HL.out).mono ?_
      rintro e w3 ⟨rfl, hb3⟩
      go_wp2_with fail
      refine (HM.out _).mono ?_
      rintro e w' ⟨⟨q, rfl, hq, -⟩, rfl⟩
      obtain rfl : q = q0 := root_one hq HRT.out
      go_wp2_with fail
      go_ret2
      exact ⟨rfl, HB1.out.trans (hb3.mono HB1.out.size)⟩
  · obtain rfl : f = 1 := by omega
    have hres : R = (y, 0) := by rw [HVAL.out, if_neg (by decide), if_neg (by decide), if_neg (by decide)]
    subst hres
    go_enter Try.func31, Try.ntmps31
    go_wp2_with fail
    refine (HL.out).mono ?_
    rintro e w3 ⟨rfl, hb3⟩
    go_wp2_with fail
    go_ret2
    exact ⟨rfl, HB1.out.trans (hb3.mono HB1.out.size)⟩
theorem value_p (f m b k1 k2 : Int) (s : Bool) (A : Option Addr) (n cp : Nat) (l : List Pt) (r : UInt8) (w : World) (hsl : PSl w A n cp l) :
    Calls Try.prog 16 #[.agg #[.int .i64 f, .bool s, .int .i64 m, .int .i64 b, .int .i64 k1, .int .i64 k2, .slice A n cp], .int .u8 (r.toNat : Int)] w fun e w' => e = .returned (.tuple #[.int .i64 (value ⟨f, s, m, b, k1, k2, l⟩ r).1, .int .i64 (value ⟨f, s, m, b, k1, k2, l⟩ r).2]) ∧ Below w.heap.size w w' := by
  obtain ⟨R, hR⟩ : ∃ R, R = value ⟨f, s, m, b, k1, k2, l⟩ r := ⟨_, rfl⟩
  rw [← hR]
  obtain ⟨w1, hw1⟩ : ∃ w1, w1 = w.alloc (.cells #[.int .i64 f, .bool s, .int .i64 m, .int .i64 b, .int .i64 k1, .int .i64 k2, .slice A n cp] 24) := ⟨_, rfl⟩
  have hb1 : Below w.heap.size w w1 := by rw [hw1]; exact (Below.refl _ _).alloc (Nat.le_refl _) _
  have hst : w1.heap[w.heap.size]? = some (.cells #[.int .i64 f, .bool s, .int .i64 m, .int .i64 b, .int .i64 k1, .int .i64 k2, .slice A n cp] 24 (0, 0)) := by rw [hw1]; exact heap_alloc_new w _
  have hlt : w.heap.size < w1.heap.size := by rw [hw1]; simp
  have hs1 : PSl w1 A n cp l := hsl.step hb1
  have hc : ∀ i v, (#[Value.int .i64 f, .bool s, .int .i64 m, .int .i64 b, .int .i64 k1, .int .i64 k2, .slice A n cp] : Array Value)[i]? = some v → w1.cell? ⟨w.heap.size, i, none⟩ = some v := by
    intro i v h
    rw [cell_of_row w1 w.heap.size i _ _ _ hst]
    exact h
  have HC := Lib.hid hc
  have HV := Lib.hid (valid_p f m b k1 k2 s A n cp l w1 hs1)
  have hRv : R = if vld ⟨f, s, m, b, k1, k2, l⟩ = true then valv ⟨f, s, m, b, k1, k2, l⟩ (num s r) else (0, 1) := hR
  have HRV := Lib.hid hRv
  clear hR hRv hsl hc hst
  go_enter Try.func16, Try.ntmps16
  go_wp2_with fail
  rw [← hw1]
  clear hw1
  refine (HV.out).mono ?_
  rintro e w2 ⟨rfl, hb2⟩
  have hbb : Below w.heap.size w w2 := hb1.trans (hb2.mono hb1.size)
  have hs2 : PSl w2 A n cp l := hs1.step hb2
  have c0 : w2.cell? ⟨w.heap.size, 0, none⟩ = some (.int .i64 f) := by rw [hb2.cell (p := ⟨w.heap.size, 0, none⟩) hlt]; exact HC.out 0 _ rfl
  have c1 : w2.cell? ⟨w.heap.size, 1, none⟩ = some (.bool s) := by rw [hb2.cell (p := ⟨w.heap.size, 1, none⟩) hlt]; exact HC.out 1 _ rfl
  have c2 : w2.cell? ⟨w.heap.size, 2, none⟩ = some (.int .i64 m) := by rw [hb2.cell (p := ⟨w.heap.size, 2, none⟩) hlt]; exact HC.out 2 _ rfl
  have c3 : w2.cell? ⟨w.heap.size, 3, none⟩ = some (.int .i64 b) := by rw [hb2.cell (p := ⟨w.heap.size, 3, none⟩) hlt]; exact HC.out 3 _ rfl
  have c4 : w2.cell? ⟨w.heap.size, 4, none⟩ = some (.int .i64 k1) := by rw [hb2.cell (p := ⟨w.heap.size, 4, none⟩) hlt]; exact HC.out 4 _ rfl
  have c5 : w2.cell? ⟨w.heap.size, 5, none⟩ = some (.int .i64 k2) := by rw [hb2.cell (p := ⟨w.heap.size, 5, none⟩) hlt]; exact HC.out 5 _ rfl
  have c6 : w2.cell? ⟨w.heap.size, 6, none⟩ = some (.slice A n cp) := by rw [hb2.cell (p := ⟨w.heap.size, 6, none⟩) hlt]; exact HC.out 6 _ rfl
  have hlt2 : w.heap.size < w2.heap.size := Nat.lt_of_lt_of_le hlt hb2.size
  clear hb1 hb2 hs1 HC HV hlt
  have hnm : n ≤ maxLen := Nat.le_trans hs2.cap hs2.max
  rcases hv : vld ⟨f, s, m, b, k1, k2, l⟩ with _ | _
  · have hres : R = (0, 1) := by rw [HRV.out, hv]; rfl
    subst hres
    go_wp2_with fail
    go_ret2
    exact ⟨rfl, hbb⟩
  have hres : R = valv ⟨f, s, m, b, k1, k2, l⟩ (num s r) := by rw [HRV.out, if_pos hv]
  have hnb := num_b s r
  have HBB := Lib.hid hbb
  have HN := Lib.hid (fun u => number_p s r u)
  have HVP := Lib.hid (fun u (hu : PSl u A n cp l) => by have := val_p f m b k1 k2 (num s r) s A n cp l u hu hv (by omega) (by omega); rw [← hres] at this; exact this)
  have hsd : PSl w2.drew A n cp l := ⟨hs2.len, hs2.row, hs2.cap, hs2.max, hs2.nil⟩
  have hbd : Below w2.heap.size w2 w2.drew := ⟨rfl, rfl, rfl, Nat.le_refl _, fun _ _ => rfl⟩
  have HC2 := Lib.hid (⟨c0, c1, c2, c3, c4, c5, c6⟩ : w2.cell? ⟨w.heap.size, 0, none⟩ = some (.int .i64 f) ∧ w2.cell? ⟨w.heap.size, 1, none⟩ = some (.bool s) ∧ w2.cell? ⟨w.heap.size, 2, none⟩ = some (.int .i64 m) ∧ w2.cell? ⟨w.heap.size, 3, none⟩ = some (.int .i64 b) ∧ w2.cell? ⟨w.heap.size, 4, none⟩ = some (.int .i64 k1) ∧ w2.cell? ⟨w.heap.size, 5, none⟩ = some (.int .i64 k2) ∧ w2.cell? ⟨w.heap.size, 6, none⟩ = some (.slice A n cp))
  have HALL := Lib.hid (fun wr (hr : Below w2.heap.size w2 wr) => (⟨hr, (hr.cell (p := ⟨w.heap.size, 0, none⟩) hlt2).trans c0, (hr.cell (p := ⟨w.heap.size, 1, none⟩) hlt2).trans c1, (hr.cell (p := ⟨w.heap.size, 2, none⟩) hlt2).trans c2, (hr.cell (p := ⟨w.heap.size, 3, none⟩) hlt2).trans c3, (hr.cell (p := ⟨w.heap.size, 4, none⟩) hlt2).trans c4, (hr.cell (p := ⟨w.heap.size, 5, none⟩) hlt2).trans c5, (hr.cell (p := ⟨w.heap.size, 6, none⟩) hlt2).trans c6⟩ : (fun w' => Below w2.heap.size w2 w' ∧ w'.cell? ⟨w.heap.size, 0, none⟩ = some (.int .i64 f) ∧ w'.cell? ⟨w.heap.size, 1, none⟩ = some (.bool s) ∧ w'.cell? ⟨w.heap.size, 2, none⟩ = some (.int .i64 m) ∧ w'.cell? ⟨w.heap.size, 3, none⟩ = some (.int .i64 b) ∧ w'.cell? ⟨w.heap.size, 4, none⟩ = some (.int .i64 k1) ∧ w'.cell? ⟨w.heap.size, 5, none⟩ = some (.int .i64 k2) ∧ w'.cell? ⟨w.heap.size, 6, none⟩ = some (.slice A n cp)) wr))
  clear hres HRV hv hs2 hbb
  go_wp2_with fail
  go_region_held3 (fun w' => Below w2.heap.size w2 w' ∧ w'.cell? ⟨w.heap.size, 0, none⟩ = some (.int .i64 f) ∧ w'.cell? ⟨w.heap.size, 1, none⟩ = some (.bool s) ∧ w'.cell? ⟨w.heap.size, 2, none⟩ = some (.int .i64 m) ∧ w'.cell? ⟨w.heap.size, 3, none⟩ = some (.int .i64 b) ∧ w'.cell? ⟨w.heap.size, 4, none⟩ = some (.int .i64 k1) ∧ w'.cell? ⟨w.heap.size, 5, none⟩ = some (.int .i64 k2) ∧ w'.cell? ⟨w.heap.size, 6, none⟩ = some (.slice A n cp)) (first | exact HALL.out _ hbd | exact HALL.out _ hb4 | go_keep)
    (first
      | (go_at_call 17; refine (HN.out _).mono ?_; rintro e w' ⟨rfl, rfl⟩)
      | (go_at_call 31; refine (HVP.out _ hsd).mono ?_; rintro e w4 ⟨rfl, hb4'⟩; have hb4 : Below w2.heap.size w2 w4 := hbd.trans hb4'))
  all_goals go_wp2_with fail
  all_goals go_ret2
  all_goals exact ⟨rfl, HBB.out.trans (hb4.mono HBB.out.size)⟩
end Go.Proofs.Ytfnocgkhhbpiiaa.P4
