/- Walks: the reference of conversions: tables. -/
import Derived.Test.YtkjjjphpbkcebaaC4x
namespace Go.Proofs.Ytkjjjphpbkcebaa.C4v
open Go.RowKit Go.Proofs.Ytkjjjphpbkcebaa.Mem Go.Proofs.Ytkjjjphpbkcebaa.M3p Go.Proofs.Ytkjjjphpbkcebaa.C4p Go.Proofs.Ytkjjjphpbkcebaa.C4l
set_option maxRecDepth 100000
set_option maxHeartbeats 4000000

/-- Rounding down, by the quotient and the rest that round toward zero. -/
theorem ediv_t (p d : Int) (hd : 0 < d) : p / d = if p.tmod d < 0 then p.tdiv d - 1 else p.tdiv d := by
  rw [Int.tdiv_eq_ediv, Int.tmod_eq_emod]
  have h0 := Int.emod_nonneg p (show d ≠ 0 by omega)
  have h1 := Int.emod_lt_of_pos p hd
  by_cases h : 0 ≤ p ∨ d ∣ p
  · rw [if_pos h, if_pos h, if_neg (by omega)]; omega
  · rw [if_neg h, if_neg h, if_pos (by omega), Int.sign_eq_one_of_pos hd]; omega
def pvAt (s : Bool) (l : List Pt) : Nat → Option (Int × Int)
  | 0 => none
  | j + 1 => (l[j]?).map fun q => (num s q.1, q.2)
theorem tab_step {s : Bool} {x : Int} {l : List Pt} {j : Nat} (hj : j < l.length) :
    tab s x (pvAt s l j) (l.drop j) = if num s l[j].1 < x then tab s x (pvAt s l (j + 1)) (l.drop (j + 1)) else if x = num s l[j].1 then l[j].2 else mid s x (pvAt s l j) l[j].1 l[j].2 := by
  rw [List.drop_eq_getElem_cons hj]
  have e : pvAt s l (j + 1) = some (num s l[j].1, l[j].2) := by
    show (l[j]?).map _ = _
    rw [List.getElem?_eq_getElem hj]
    rfl
  rw [e]
  exact tab_cons s x _ _ _ _
theorem tab_end {s : Bool} {x : Int} {l : List Pt} {j : Nat} (hj : l.length = j + 1) : tab s x (pvAt s l (j + 1)) (l.drop (j + 1)) = l[j].2 := by
  rw [List.drop_of_length_le (by omega)]
  have e : pvAt s l (j + 1) = some (num s l[j].1, l[j].2) := by
    show (l[j]?).map _ = _
    rw [List.getElem?_eq_getElem (by omega)]
    rfl
  rw [e]
  rfl
theorem num_b (s : Bool) (r : UInt8) : -128 ≤ num s r ∧ num s r ≤ 255 := by
  have := num_in s r
  unfold least at this
  cases s
  · rw [if_neg (by simp)] at this; omega
  · rw [if_pos rfl] at this; omega
theorem table_r (s : Bool) (x : Int) (A : Option Addr) (n cp : Nat) (l : List Pt) (w : World) (hsl : PSl w A n cp l) (h2 : 1 ≤ n) (h12 : n ≤ 1000) (hx1 : -1000 ≤ x) (hx2 : x ≤ 1000) (hin : ∀ q ∈ l, -lim ≤ q.2 ∧ q.2 ≤ lim) :
    Calls Try.prog 44 #[.slice A n cp, .bool s, .int .i64 x] w fun e w' => e = .returned (.int .i64 (tab s x none l)) ∧ Below w.heap.size w w' := by
  have HN := Lib.hid (fun r u => number_r s r u)
  have HL := Lib.hid hsl.len
  have hrow := hsl.row
  obtain ⟨R, hR⟩ : ∃ R, R = tab s x none l := ⟨_, rfl⟩
  rw [← hR]
  have HR := Lib.hid hR
  have HIN := Lib.hid hin
  have hbw : ∀ d, Below w.heap.size w (w.drewN d) := fun d => ⟨rfl, rfl, rfl, Nat.le_refl _, fun _ _ => rfl⟩
  have HBW := Lib.hid hbw
  clear hsl hR hin hbw
  go_enter Try.func44, Try.ntmps44
  go_wp2_with fail
  go_loop [7] (fun i => ∃ j : Nat, j ≤ n ∧ i = .int .i64 j ∧ R = tab s x (pvAt s l j) (l.drop j) ∧ ∀ k (h : k < l.length), k + 1 = j → num s l[k].1 < x) (fun i => n - (intOf i).toNat)
  case atStart => exact ⟨0, Nat.zero_le _, rfl, HR.out, fun k h h0 => by omega⟩
  case round =>
    obtain ⟨j, hj, rfl, ht, hlo⟩ := hrel
    have HT := Lib.hid ht
    have HLO := Lib.hid hlo
    clear ht hlo
    by_cases hlt : j < n
    · have hjl : j < l.length := by rw [← HL.out]; exact hlt
      have hst := Lib.hid (HT.out.trans (tab_step hjl))
      have hm := HIN.out l[j] (List.getElem_mem hjl)
      have hnum := num_b s l[j].1
      rcases j with _ | j
      · obtain ⟨a, rfl, hab, hc0, hc1⟩ := prow_0 hrow hjl
        obtain ⟨v, hv0⟩ : ∃ v, v = l[0].2 := ⟨_, rfl⟩
        obtain ⟨r, hr0⟩ : ∃ r, r = l[0].1 := ⟨_, rfl⟩
        have HR0 := Lib.hid hr0
        rw [← hr0] at hc0 hst hnum
        rw [← hv0] at hc1 hst
        have HN0 := Lib.hid (fun u => HN.out r u)
        obtain ⟨y, hy⟩ : ∃ y, y = num s r := ⟨_, rfl⟩
        rw [← hy] at HN0 hst hnum
        have HY := Lib.hid hy
        clear hy
        clear hv0 hr0 hm
        by_cases g : y < x
        · have hnx : R = tab s x (pvAt s l 1) (l.drop 1) := by rw [hst.out, if_pos g]
          have HX := Lib.hid hnx
          clear hnx
          go_wp2_with fail
          refine (HN0.out _).mono ?_
          rintro e w' ⟨rfl, rfl⟩
          go_wp2_with fail
          refine ⟨⟨1, by omega, rfl, HX.out, fun k h h0 => ?_⟩, by simp [intOf]; omega⟩
          obtain rfl : k = 0 := by omega
          rw [← HR0.out]
          rw [← HY.out]; exact g
        · have g2 : ¬ y < x := g
          have hle : x ≤ y := by omega
          have hres : R = v := by
            rw [hst.out, if_neg g]
            split
            · rfl
            · rfl
          have HRES := Lib.hid hres
          clear hres
          go_wp2_with fail
          refine (HN0.out _).mono ?_
          rintro e w' ⟨rfl, rfl⟩
          go_wp2_with fail
          all_goals go_ret
          all_goals exact ⟨ret_int (by rw [HRES.out]), HBW.out 0⟩
      · obtain ⟨a, q1, rfl, hab, hq1, hqb1, hc0, hc1⟩ := prow_q hrow (k := j) (by omega)
        obtain ⟨a2, q2, e2, hab2, hq2, hqb2, hd0, hd1⟩ := prow_q hrow hjl
        injection e2 with e2
        subst e2
        have hm1 := HIN.out l[j] (List.getElem_mem (by omega))
        have hn1 := num_b s l[j].1
        have hlo1 := HLO.out j (by omega) rfl
        have hpv : pvAt s l (j + 1) = some (num s l[j].1, l[j].2) := by
          show (l[j]?).map _ = _
          rw [List.getElem?_eq_getElem (by omega)]
          rfl
        have hst2 := hst.out
        unfold mid at hst2
        rw [hpv] at hst2
        have HST := Lib.hid hst2
        clear hst hst2 hpv
        obtain ⟨v, hv0⟩ : ∃ v, v = l[j + 1].2 := ⟨_, rfl⟩
        obtain ⟨r, hr0⟩ : ∃ r, r = l[j + 1].1 := ⟨_, rfl⟩
        obtain ⟨u, hu0⟩ : ∃ u, u = l[j].2 := ⟨_, rfl⟩
        obtain ⟨r1, hr1⟩ : ∃ r, r = l[j].1 := ⟨_, rfl⟩
        have HR0 := Lib.hid hr0
        rw [← hr0] at hd0 HST hnum
        rw [← hv0] at hd1 HST hm
        rw [← hr1] at hc0 HST hn1 hlo1
        rw [← hu0] at hc1 HST hm1
        have HN0 := Lib.hid (fun z => HN.out r z)
        have HN1 := Lib.hid (fun z => HN.out r1 z)
        obtain ⟨y, hy⟩ : ∃ y, y = num s r := ⟨_, rfl⟩
        obtain ⟨y1, hy1⟩ : ∃ y, y = num s r1 := ⟨_, rfl⟩
        rw [← hy] at HN0 HST hnum
        rw [← hy1] at HN1 HST hn1 hlo1
        have HY := Lib.hid hy
        clear hy hy1 hv0 hr0 hu0 hr1
        unfold lim at hm hm1
        by_cases g : y < x
        · have hnx : R = tab s x (pvAt s l (j + 2)) (l.drop (j + 2)) := by rw [HST.out, if_pos g]
          have HX := Lib.hid hnx
          clear hnx
          go_wp2_with fail
          refine (HN0.out _).mono ?_
          rintro e w' ⟨rfl, rfl⟩
          go_wp2_with fail
          refine ⟨⟨j + 2, by omega, vi (by push_cast; omega), HX.out, fun k h h0 => ?_⟩, by simp [intOf]; omega⟩
          obtain rfl : k = j + 1 := by omega
          rw [← HR0.out, ← HY.out]
          exact g
        · by_cases g2 : x = y
          · have hres : R = v := by rw [HST.out, if_neg g, if_pos g2]
            have HRES := Lib.hid hres
            clear hres
            subst g2
            go_wp2_with fail
            refine (HN0.out _).mono ?_
            rintro e w' ⟨rfl, rfl⟩
            go_wp2_with fail
            all_goals go_ret
            all_goals exact ⟨ret_int (by rw [HRES.out]), HBW.out 0⟩
          · have hxy : x < y := by omega
            obtain ⟨d, hd⟩ : ∃ d, y - y1 = d := ⟨_, rfl⟩
            obtain ⟨P, hP⟩ : ∃ P, (v - u) * (x - y1) = P := ⟨_, rfl⟩
            obtain ⟨m1, m2⟩ := mul_le (a := v - u) (b := x - y1) (c := 2000000000000) (d := 2000) (by omega) (by omega) (by omega) (by omega)
            rw [hP] at m1 m2
            have hd0' : 0 < d := by omega
            have hdz : (d == 0) = false := by rw [beq_eq_false_iff_ne]; omega
            have hres : R = u + P / d := by
              rw [HST.out, if_neg g, if_neg g2]
              show u + (v - u) * (x - y1) / (y - y1) = _
              rw [hP, hd]
            have q1' : (P.tdiv d).natAbs ≤ P.natAbs := by rw [Int.natAbs_tdiv]; exact Nat.div_le_self _ _
            have q3 : -4000000000000000 ≤ P.tdiv d := by omega
            have q4 : P.tdiv d ≤ 4000000000000000 := by omega
            rw [ediv_t P d hd0'] at hres
            obtain ⟨Q, hQ⟩ : ∃ Q, P.tdiv d = Q := ⟨_, rfl⟩
            obtain ⟨M, hM⟩ : ∃ M, P.tmod d = M := ⟨_, rfl⟩
            rw [hQ, hM] at hres
            rw [hQ] at q3 q4
            have HRES := Lib.hid hres
            have hxe : (x == y) = false := by rw [beq_eq_false_iff_ne]; exact g2
            clear hres q1' HST g2
            by_cases hMn : M < 0
            · have HR2 := Lib.hid (show R = u + (Q - 1) by rw [HRES.out, if_pos hMn])
              go_wp2_with fail
              refine (HN0.out _).mono ?_
              rintro e w' ⟨rfl, rfl⟩
              go_wp2_with fail
              refine (HN1.out _).mono ?_
              rintro e w' ⟨rfl, rfl⟩
              go_wp2_with fail
              go_quiet (fail)
              all_goals go_wp2_with fail
              all_goals go_ret
              all_goals exact ⟨ret_int (by rw [HR2.out]), HBW.out _⟩
            · have HR2 := Lib.hid (show R = u + Q by rw [HRES.out, if_neg hMn])
              go_wp2_with fail
              refine (HN0.out _).mono ?_
              rintro e w' ⟨rfl, rfl⟩
              go_wp2_with fail
              refine (HN1.out _).mono ?_
              rintro e w' ⟨rfl, rfl⟩
              go_wp2_with fail
              go_quiet (fail)
              all_goals go_wp2_with fail
              all_goals go_ret
              all_goals exact ⟨ret_int (by rw [HR2.out]), HBW.out _⟩
    · obtain ⟨j0, hj0⟩ : ∃ j0, n = j0 + 1 := ⟨n - 1, by omega⟩
      obtain rfl : j = n := by omega
      have hln : l.length = j0 + 1 := by rw [← HL.out]; exact hj0
      have hjl : j0 < l.length := by omega
      obtain ⟨a, q1, rfl, hab, hq1, hqb1, hc0, hc1⟩ := prow_q hrow hjl
      have hres : R = l[j0].2 := by
        rw [HT.out, hj0]
        exact tab_end hln
      have HRES := Lib.hid hres
      have hjI : (j : Int) - 1 = (j0 : Int) := by omega
      have HJ := Lib.hid hj0
      clear hres hj0 hln
      go_wp2_with fail
      go_ret
      exact ⟨ret_int (by rw [HRES.out]), HBW.out 0⟩
end Go.Proofs.Ytkjjjphpbkcebaa.C4v
