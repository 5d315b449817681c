/- Walks: the program's conversions: linear values, values of tables. -/
import Derived.Test.YtfnocgkhhbpiiaaP4c
namespace Go.Proofs.Ytfnocgkhhbpiiaa.P4
open Go.RowKit Go.Proofs.Ytfnocgkhhbpiiaa.Mem Go.Proofs.Ytfnocgkhhbpiiaa.M3p Go.Proofs.Ytfnocgkhhbpiiaa.C4p Go.Proofs.Ytfnocgkhhbpiiaa.C4l Go.Proofs.Ytfnocgkhhbpiiaa.C4v
set_option maxRecDepth 100000
set_option maxHeartbeats 4000000

theorem linear_p (f m b k1 k2 x : Int) (s : Bool) (A : Option Addr) (n cp : Nat) (l : List Pt) (w : World) (m1 : -512 ≤ m) (m2 : m ≤ 511) (b1 : -512 ≤ b) (b2 : b ≤ 511) (g1 : -3 ≤ k1) (g2 : k1 ≤ 3) (g3 : -3 ≤ k2) (g4 : k2 ≤ 3) (x1 : -128 ≤ x) (x2 : x ≤ 255) :
    Calls Try.prog 40 #[.agg #[.int .i64 f, .bool s, .int .i64 m, .int .i64 b, .int .i64 k1, .int .i64 k2, .slice A n cp], .int .i64 x] w fun e w' => e = .returned (.int .i64 (lin ⟨f, s, m, b, k1, k2, l⟩ x)) ∧ Below w.heap.size w w' := by
  have hbx : Below w.heap.size w (w.alloc (.cells #[.int .i64 f, .bool s, .int .i64 m, .int .i64 b, .int .i64 k1, .int .i64 k2, .slice A n cp] 24)) := (Below.refl _ _).alloc (Nat.le_refl _) _
  have HBX := Lib.hid hbx
  obtain ⟨T1, hT1⟩ : ∃ T, ten (6 + k2) = T := ⟨_, rfl⟩
  obtain ⟨T2, hT2⟩ : ∃ T, ten (6 + k1 + k2) = T := ⟨_, rfl⟩
  have t1 := ten_in9 (z := 6 + k2) (by omega) (by omega)
  have t2 := ten_in (z := 6 + k1 + k2) (by omega) (by omega)
  rw [hT1] at t1
  rw [hT2] at t2
  obtain ⟨P, hP⟩ : ∃ P, m * x = P := ⟨_, rfl⟩
  obtain ⟨p1, p2⟩ := mul_le (a := m) (b := x) (c := 512) (d := 255) (by omega) (by omega) (by omega) (by omega)
  rw [hP] at p1 p2
  obtain ⟨Q, hQ⟩ : ∃ Q, P * T1 = Q := ⟨_, rfl⟩
  obtain ⟨q1, q2⟩ := mul_le (a := P) (b := T1) (c := 130560) (d := 1000000000) (by omega) (by omega) (by omega) (by omega)
  rw [hQ] at q1 q2
  obtain ⟨S, hS⟩ : ∃ S, b * T2 = S := ⟨_, rfl⟩
  obtain ⟨s1, s2⟩ := mul_le (a := b) (b := T2) (c := 512) (d := 1000000000000) (by omega) (by omega) (by omega) (by omega)
  rw [hS] at s1 s2
  have hlin : lin ⟨f, s, m, b, k1, k2, l⟩ x = clp (Q + S) := by
    unfold lin
    dsimp only
    rw [hT1, hT2, hP, hQ, hS]
  rw [hlin]
  have HT := Lib.hid (fun z u h1 h2 => power_p z u h1 h2)
  have HCL := Lib.hid (fun u => M3w.clamp_p (Q + S) u)
  have w1 := IntWalk.i64_in (6 + k1) ⟨by omega, by omega⟩
  have w2 := IntWalk.i64_in (6 + k1 + k2) ⟨by omega, by omega⟩
  clear hlin hbx
  go_enter Try.func40, Try.ntmps40
  go_wp2_with fail
  go_quiet ((go_at_call 46; exact quiet_same (HT.out _ _ (by omega) (by omega))))
  all_goals go_wp2_with fail
  go_quiet ((go_at_call 46; exact quiet_more (HT.out _ _ (by omega) (by omega))))
  all_goals go_wp2_with fail
  refine (HCL.out _).mono ?_
  rintro e w' ⟨rfl, rfl⟩
  go_wp2_with fail
  go_ret
  exact ⟨rfl, HBX.out.os, HBX.out.tape, HBX.out.output, HBX.out.size, HBX.out.block⟩
/-- The rest of a list of points behind the first one. -/
theorem prow_drop1 {B : Nat} {w : World} {a : Addr} {l : List Pt} (h : PRow B w (some a) l) : PRow B w (some ⟨a.block, a.off + 2, none⟩) (l.drop 1) := by
  intro hpos
  rcases l with _ | ⟨x, l⟩
  · simp [pvs] at hpos
  · obtain ⟨a', e, hb, hc⟩ := h (by simp [pvs])
    injection e with e
    subst e
    refine ⟨_, rfl, hb, fun k hk => ?_⟩
    have hk2 : k + 2 < (pvs (x :: l)).length := by simpa [pvs] using hk
    have := hc (k + 2) hk2
    have e : (⟨a.block, a.off + 2, none⟩ : Addr).add k = a.add (k + 2) := by
      rcases k with _ | k
      · rfl
      · show (⟨a.block, a.off + 2 + (k + 1), none⟩ : Addr) = ⟨a.block, a.off + (k + 1 + 2), none⟩
        rw [show a.off + 2 + (k + 1) = a.off + (k + 1 + 2) by omega]
    rw [e, this]
    rfl
/-- Block g is a point. -/
def Pb (w : World) (g : Nat) (q : Pt) : Prop := w.heap[g]? = some (.cells #[.int .u8 (q.1.toNat : Int), .int .i64 q.2] 46 (0, 0))
theorem Pb.c0 {w : World} {g : Nat} {q : Pt} (h : Pb w g q) : w.cell? ⟨g, 0, none⟩ = some (.int .u8 (q.1.toNat : Int)) := by rw [cell_of_row w g 0 _ _ _ h]; rfl
theorem Pb.c1 {w : World} {g : Nat} {q : Pt} (h : Pb w g q) : w.cell? ⟨g, 1, none⟩ = some (.int .i64 q.2) := by rw [cell_of_row w g 1 _ _ _ h]; rfl
theorem Pb.fz {w : World} {g : Nat} {q : Pt} (h : Pb w g q) (i : Nat) : w.frozen? ⟨g, i, none⟩ = false := frozen_of_row w g i _ _ h
theorem Pb.set {w : World} {g : Nat} {q : Pt} (h : Pb w g q) (p : Pt) : Pb ((w.setCell ⟨g, 0, none⟩ (.int .u8 (p.1.toNat : Int))).setCell ⟨g, 1, none⟩ (.int .i64 p.2)) g p := by
  have h1 := heap_setCell_same w g 0 _ _ (.int .u8 (p.1.toNat : Int)) h
  have h2 := heap_setCell_same _ g 1 _ _ (.int .i64 p.2) h1
  exact h2
theorem tablev_p (s : Bool) (x : Int) (A : Option Addr) (n cp : Nat) (l : List Pt) (w : World) (hsl : PSl w A n cp l) (h2 : 2 ≤ n) (h12 : n ≤ 1000) (hx1 : -1000 ≤ x) (hx2 : x ≤ 1000) (hin : ∀ q ∈ l, -lim ≤ q.2 ∧ q.2 ≤ lim) :
    Calls Try.prog 43 #[.agg #[.int .i64 5, .bool s, .int .i64 0, .int .i64 0, .int .i64 0, .int .i64 0, .slice A n cp], .int .i64 x] w fun e w' => e = .returned (.int .i64 (tab s x none l)) ∧ Below w.heap.size w w' := by
  have HN := Lib.hid (fun r u => number_p s r u)
  have HL := Lib.hid hsl.len
  have hrow := hsl.row
  obtain ⟨R, hR⟩ : ∃ R, R = tab s x none l := ⟨_, rfl⟩
  rw [← hR]
  have HR := Lib.hid hR
  have HIN := Lib.hid hin
  have hjl : 0 < l.length := by rw [← hsl.len]; omega
  have hst := Lib.hid (HR.out.trans (tab_step (j := 0) hjl))
  obtain ⟨a, rfl, hab, hc0, hc1⟩ := prow_0 hrow hjl
  have hl0 : l[0]? = some l[0] := List.getElem?_eq_getElem hjl
  clear hR hin
  obtain ⟨⟨r, v⟩, hq0⟩ : ∃ q, l[0] = q := ⟨_, rfl⟩
  rw [hq0] at hc0 hst hc1 hl0
  dsimp only at hc0 hst hc1
  obtain ⟨w1, hw1⟩ : ∃ w1, w1 = (w.alloc (.cells #[.int .i64 5, .bool s, .int .i64 0, .int .i64 0, .int .i64 0, .int .i64 0, .slice (some a) n cp] 24)).alloc (.cells #[.int .u8 (r.toNat : Int), .int .i64 v] 46) := ⟨_, rfl⟩
  have hbx : Below w.heap.size w w1 := by rw [hw1]; exact ((Below.refl _ _).alloc (Nat.le_refl _) _).alloc (by simp) _
  have hpb : Pb w1 (w.heap.size + 1) (r, v) := by
    rw [hw1]
    have := heap_alloc_new (w.alloc (.cells #[.int .i64 5, .bool s, .int .i64 0, .int .i64 0, .int .i64 0, .int .i64 0, .slice (some a) n cp] 24)) (.cells #[.int .u8 (r.toNat : Int), .int .i64 v] 46)
    simpa [Pb] using this
  have hcb : w1.heap[w.heap.size]? = some (.cells #[.int .i64 5, .bool s, .int .i64 0, .int .i64 0, .int .i64 0, .int .i64 0, .slice (some a) n cp] 24 (0, 0)) := by
    rw [hw1, Below.heap_alloc _ _ _ (by simp)]
    exact heap_alloc_new w _
  have hsz1 : w1.heap.size = w.heap.size + 2 := by rw [hw1]; simp
  have HBX := Lib.hid hbx
  have HPB := Lib.hid hpb
  have HCB := Lib.hid hcb
  have HSZ := Lib.hid hsz1
  have hd0 : (w.alloc (.cells #[.int .i64 5, .bool s, .int .i64 0, .int .i64 0, .int .i64 0, .int .i64 0, .slice (some a) n cp] 24)).cell? a = some (.int .u8 (r.toNat : Int)) := by rw [((Below.refl w.heap.size w).alloc (Nat.le_refl _) _).cell hab]; exact hc0
  have hd1 : (w.alloc (.cells #[.int .i64 5, .bool s, .int .i64 0, .int .i64 0, .int .i64 0, .int .i64 0, .slice (some a) n cp] 24)).cell? ⟨a.block, a.off + 1, none⟩ = some (.int .i64 v) := by rw [((Below.refl w.heap.size w).alloc (Nat.le_refl _) _).cell (p := ⟨a.block, a.off + 1, none⟩) hab]; exact hc1
  have hcap := hsl.cap
  have hmax := hsl.max
  have hcp1 : ¬ cp = 1 := by omega
  unfold maxLen at hmax
  have HL0 := Lib.hid hl0
  have hgt : num s r < x → num s l[0].1 < x := by intro h; rw [hq0]; exact h
  clear hbx hsl hc0 hc1 hq0 hl0 hpb hcb hsz1 hgt
  go_enter Try.func43, Try.ntmps43
  go_wp2_with fail
  rw [← hw1]
  clear hd0 hd1 hw1
  refine (HN.out _ _).mono ?_
  rintro e w' ⟨rfl, rfl⟩
  have hcv : w1.cell? ⟨w.heap.size + 1, 1, none⟩ = some (.int .i64 v) := HPB.out.c1
  have hc6 : w1.cell? ⟨w.heap.size, 6, none⟩ = some (.slice (some a) n cp) := by rw [cell_of_row w1 w.heap.size 6 _ _ _ HCB.out]; rfl
  by_cases g : x ≤ num s r
  · have hres : R = v := by
      rw [hst.out, if_neg (by omega)]
      split <;> rfl
    have HRES := Lib.hid hres
    clear hres
    go_wp2_with fail
    go_ret
    exact ⟨ret_int (by rw [HRES.out]), HBX.out⟩
  · have hnx : R = tab s x (pvAt s l 1) (l.drop 1) := by rw [hst.out, if_pos (by omega)]
    have HX := Lib.hid hnx
    have hgt : num s r < x := by omega
    clear hnx
    go_wp2_with fail
    clear hcv hc6
    obtain ⟨a2, ha2⟩ : ∃ a2 : Addr, (⟨a.block, a.off + 2, none⟩ : Addr) = a2 := ⟨_, rfl⟩
    have hrow2 := prow_drop1 hrow
    rw [ha2] at hrow2 ⊢
    have HROW := Lib.hid hrow2
    clear ha2 hrow2
    go_loopw [27] (fun i wr => ∃ (j : Nat) (q : Pt), j + 1 ≤ n ∧ i = .int .i64 j ∧ Below w.heap.size w wr ∧ w.heap.size + 2 ≤ wr.heap.size ∧ wr.heap[w.heap.size]? = some (.cells #[.int .i64 5, .bool s, .int .i64 0, .int .i64 0, .int .i64 0, .int .i64 0, .slice (some a) n cp] 24 (0, 0)) ∧ Pb wr (w.heap.size + 1) q ∧ l[j]? = some q ∧ num s q.1 < x ∧ R = tab s x (pvAt s l (j + 1)) (l.drop (j + 1))) (fun i _ => n - (intOf i).toNat)
    case atStart => exact ⟨0, (r, v), by omega, rfl, HBX.out, Nat.le_of_eq HSZ.out.symm, HCB.out, HPB.out, HL0.out, hgt, HX.out⟩
    case round =>
      obtain ⟨j, ⟨r1, u⟩, hj, rfl, hbr, hsz, hcb, hpb, hlj, hlo, ht⟩ := hrel
      dsimp only at hlo
      have c1 : wr.cell? ⟨w.heap.size, 1, none⟩ = some (.bool s) := by rw [cell_of_row wr w.heap.size 1 _ _ _ hcb]; rfl
      have d0 : wr.cell? ⟨w.heap.size + 1, 0, none⟩ = some (.int .u8 (r1.toNat : Int)) := hpb.c0
      have d1 : wr.cell? ⟨w.heap.size + 1, 1, none⟩ = some (.int .i64 u) := hpb.c1
      have HLJ := Lib.hid hlj
      have HT := Lib.hid ht
      have HPB1 := Lib.hid hpb
      have HCB1 := Lib.hid hcb
      clear hcb hpb hlj ht
      by_cases hlt : j < n - 1
      · have hjl1 : j + 1 < l.length := by rw [← HL.out]; omega
        have hjd : j < (l.drop 1).length := by rw [List.length_drop]; omega
        obtain ⟨a3, q, e3, hab3, hq, hqb, hc0, hc1⟩ := prow_q (Rd.below HROW.out hbr) hjd
        injection e3 with e3
        subst e3
        have hgl : (l.drop 1)[j] = l[j + 1] := by rw [List.getElem_drop]; congr 1; omega
        rw [hgl] at hc0 hc1
        have hst2 := HT.out.trans (tab_step hjl1)
        have hpv : pvAt s l (j + 1) = some (num s r1, u) := by
          show (l[j]?).map _ = _
          rw [HLJ.out]
          rfl
        unfold mid at hst2
        rw [hpv] at hst2
        have hm2 := HIN.out l[j + 1] (List.getElem_mem hjl1)
        have hm1 : -lim ≤ u ∧ u ≤ lim := HIN.out (r1, u) (List.mem_of_getElem? HLJ.out)
        have hlj1 : l[j + 1]? = some l[j + 1] := List.getElem?_eq_getElem hjl1
        obtain ⟨⟨r2, v2⟩, hq2⟩ : ∃ p, l[j + 1] = p := ⟨_, rfl⟩
        rw [hq2] at hc0 hc1 hst2 hm2 hlj1
        dsimp only at hc0 hc1 hst2 hm2
        unfold lim at hm1 hm2
        have n1 := num_b s r1
        have n2 := num_b s r2
        have HST := Lib.hid hst2
        have HLJ1 := Lib.hid hlj1
        clear hst2 hpv hgl hq2 hlj1
        have hal : Below w.heap.size w (wr.alloc (.cells #[.int .u8 (r2.toNat : Int), .int .i64 v2] 46)) := hbr.alloc hbr.size _
        have HAL := Lib.hid hal
        have hcn : (wr.alloc (.cells #[.int .u8 (r2.toNat : Int), .int .i64 v2] 46)).heap[wr.heap.size]? = some (.cells #[.int .u8 (r2.toNat : Int), .int .i64 v2] 46 (0, 0)) := heap_alloc_new wr _
        have hkeep : ∀ g i v, g < wr.heap.size → wr.cell? ⟨g, i, none⟩ = some v → (wr.alloc (.cells #[.int .u8 (r2.toNat : Int), .int .i64 v2] 46)).cell? ⟨g, i, none⟩ = some v := by
          intro g i v hg h
          rw [((Below.refl wr.heap.size wr).alloc (Nat.le_refl _) _).cell (p := ⟨g, i, none⟩) hg]
          exact h
        have ca1 := hkeep _ _ _ (by omega) c1
        have ca2 := hkeep _ _ _ (by omega) d0
        have ca3 := hkeep _ _ _ (by omega) d1
        clear hal hkeep c1 d0 d1
        by_cases g3 : x ≤ num s r2
        · obtain ⟨d, hd⟩ : ∃ d, num s r2 - num s r1 = d := ⟨_, rfl⟩
          obtain ⟨P, hP⟩ : ∃ P, (v2 - u) * (x - num s r1) = P := ⟨_, rfl⟩
          obtain ⟨p1, p2⟩ := mul_le (a := v2 - u) (b := x - num s r1) (c := 2000000000000) (d := 2000) (by omega) (by omega) (by omega) (by omega)
          rw [hP] at p1 p2
          have hd0' : 0 < d := by omega
          have hres : R = u + P / d := by
            rw [HST.out, if_neg (by omega)]
            by_cases e : x = num s r2
            · rw [if_pos e, ← hP, ← hd, ← e]
              rw [Int.mul_ediv_cancel _ (by omega)]
              omega
            · rw [if_neg e, ← hP, ← hd]
          have HRES := Lib.hid hres
          have HD := Lib.hid (fun z => ddown_p P d z (by omega) (by omega) hd0')
          obtain ⟨Q, hQ⟩ : ∃ Q, P / d = Q := ⟨_, rfl⟩
          have q3 : -4000000000000000 ≤ Q := by
            rw [← hQ]
            exact Int.le_ediv_of_mul_le hd0' (by rw [Int.mul_comm]; have := Int.mul_le_mul_of_nonneg_right (show 1 ≤ d by omega) (show (0 : Int) ≤ 4000000000000000 by omega); omega)
          have q4 : Q ≤ 4000000000000000 := by
            rw [← hQ]
            exact Int.ediv_le_of_le_mul hd0' (by rw [Int.mul_comm]; have := Int.mul_le_mul_of_nonneg_right (show 1 ≤ d by omega) (show (0 : Int) ≤ 4000000000000000 by omega); omega)
          rw [hQ] at HD HRES
          have b1 := IntWalk.i64_in (v2 - u) ⟨by omega, by omega⟩
          have b2 := IntWalk.i64_in (x - num s r1) ⟨by omega, by omega⟩
          have b3 := IntWalk.i64_in P ⟨by omega, by omega⟩
          have b4 := IntWalk.i64_in d ⟨by omega, by omega⟩
          have b5 := IntWalk.i64_in (u + Q) ⟨by omega, by omega⟩
          clear hQ hres
          go_wp2_with fail
          go_quiet ((go_at_call 17; exact quiet_same (HN.out _ _)))
          all_goals go_wp2_with fail
          go_quiet ((go_at_call 47; exact quiet_more (HD.out _)))
          all_goals go_wp2_with fail
          all_goals go_ret
          all_goals exact ⟨ret_int (by rw [HRES.out]), HAL.out.os, HAL.out.tape, HAL.out.output, HAL.out.size, HAL.out.block⟩
        · have hnx : R = tab s x (pvAt s l (j + 2)) (l.drop (j + 2)) := by rw [HST.out, if_pos (by omega)]
          have HX2 := Lib.hid hnx
          have hpn : Pb (wr.alloc (.cells #[.int .u8 (r2.toNat : Int), .int .i64 v2] 46)) (w.heap.size + 1) (r1, u) := by
            unfold Pb
            rw [Below.heap_alloc _ _ _ (by omega)]
            exact HPB1.out
          have hcn2 : (wr.alloc (.cells #[.int .u8 (r2.toNat : Int), .int .i64 v2] 46)).heap[w.heap.size]? = some (.cells #[.int .i64 5, .bool s, .int .i64 0, .int .i64 0, .int .i64 0, .int .i64 0, .slice (some a) n cp] 24 (0, 0)) := by
            rw [Below.heap_alloc _ _ _ (by omega)]
            exact HCB1.out
          have hfz := hpn.fz 0
          have hfz1 := hpn.fz 1
          have HPN := Lib.hid hpn
          have HCN2 := Lib.hid hcn2
          clear hnx hpn hcn2
          go_wp2_with fail
          go_quiet ((go_at_call 17; exact quiet_same (HN.out _ _)))
          all_goals go_wp2_with fail
          refine ⟨⟨j + 1, (r2, v2), by omega, by go_num, ?_, ?_, ?_, (show Pb _ _ _ from HPN.out).set (r2, v2), HLJ1.out, by show num s r2 < x; omega, HX2.out⟩, by simp [intOf]; omega⟩
          · exact ((show Below w.heap.size w _ from ⟨HAL.out.os, HAL.out.tape, HAL.out.output, HAL.out.size, HAL.out.block⟩ : Below w.heap.size w ((wr.alloc (.cells #[.int .u8 (r2.toNat : Int), .int .i64 v2] 46)).drewN _)).setCell (p := ⟨w.heap.size + 1, 0, none⟩) (by show w.heap.size ≤ w.heap.size + 1; omega) _).setCell (p := ⟨w.heap.size + 1, 1, none⟩) (by show w.heap.size ≤ w.heap.size + 1; omega) _
          · have := (((Below.refl (w.heap.size + 1) ((wr.alloc (.cells #[.int .u8 (r2.toNat : Int), .int .i64 v2] 46)).drewN nq)).setCell (p := ⟨w.heap.size + 1, 0, none⟩) (Nat.le_refl _) (.int .u8 (r2.toNat : Int))).setCell (p := ⟨w.heap.size + 1, 1, none⟩) (Nat.le_refl _) (.int .i64 v2)).size
            have h3 : ((wr.alloc (.cells #[.int .u8 (r2.toNat : Int), .int .i64 v2] 46)).drewN nq).heap.size = wr.heap.size + 1 := by show (wr.alloc _).heap.size = _; simp
            omega
          · rw [(((Below.refl (w.heap.size + 1) ((wr.alloc (.cells #[.int .u8 (r2.toNat : Int), .int .i64 v2] 46)).drewN nq)).setCell (p := ⟨w.heap.size + 1, 0, none⟩) (Nat.le_refl _) (.int .u8 (r2.toNat : Int))).setCell (p := ⟨w.heap.size + 1, 1, none⟩) (Nat.le_refl _) (.int .i64 v2)).block w.heap.size (by omega)]
            exact HCN2.out
      · obtain ⟨j0, rfl⟩ : ∃ j0, n = j0 + 1 := ⟨n - 1, by omega⟩
        obtain rfl : j = j0 := by omega
        have hln : l.length = j + 1 := HL.out.symm
        have hres : R = u := by
          rw [HT.out, tab_end hln]
          have := HLJ.out
          rw [List.getElem?_eq_getElem (by omega)] at this
          injection this with this
          rw [this]
        have HRES := Lib.hid hres
        clear hres
        go_wp2_with fail
        go_ret
        exact ⟨ret_int (by rw [HRES.out]), hbr⟩
end Go.Proofs.Ytfnocgkhhbpiiaa.P4
