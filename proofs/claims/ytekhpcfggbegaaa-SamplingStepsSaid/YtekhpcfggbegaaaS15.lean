/- Walks: the program's conversions: which tables are valid. -/
import Derived.Test.YtekhpcfggbegaaaS14
namespace Go.Proofs.Ytekhpcfggbegaaa.P4
open Go.RowKit Go.Proofs.Ytekhpcfggbegaaa.Mem Go.Proofs.Ytekhpcfggbegaaa.M3p Go.Proofs.Ytekhpcfggbegaaa.C4p Go.Proofs.Ytekhpcfggbegaaa.C4l Go.Proofs.Ytekhpcfggbegaaa.C4v
set_option maxRecDepth 100000
set_option maxHeartbeats 4000000

theorem clp_out {v : Int} (h : ¬ (-1000000000000 ≤ v ∧ v ≤ 1000000000000)) : clp v ≠ v := by
  unfold clp lim
  split
  · omega
  · split <;> omega
theorem istab_few (s : Bool) (A : Option Addr) (n cp : Nat) (w : World) (h : n < 2 ∨ 12 < n) (hm : n ≤ maxLen) :
    Calls Try.prog 160 #[.bool s, .slice A n cp] w fun e w' => e = .returned (.bool false) ∧ w = w' := by
  unfold maxLen at hm
  rcases h with h | h
  · go_enter Try.func160, Try.ntmps160
    go_wp2_with fail
    go_ret
    exact ⟨rfl, rfl⟩
  · have h2 : ¬ n < 2 := by omega
    go_enter Try.func160, Try.ntmps160
    go_wp2_with fail
    go_ret
    exact ⟨rfl, rfl⟩
theorem istab_some (s : Bool) (A : Option Addr) (n cp : Nat) (l : List Pt) (w : World) (hsl : PSl w A n cp l) (h2 : 2 ≤ n) (h12 : n ≤ 12) :
    Calls Try.prog 160 #[.bool s, .slice A n cp] w fun e w' => e = .returned (.bool (okp s none l)) ∧ Below w.heap.size w w' := by
  have HN := Lib.hid (fun r u => number_p s r u)
  have HOK := Lib.hid (okp_iff s l)
  have HL := Lib.hid hsl.len
  have hrow := hsl.row
  clear hsl
  generalize okp s none l = R at *
  have g2 : ¬ n < 2 := by omega
  have g12 : ¬ 12 < n := by omega
  go_enter Try.func160, Try.ntmps160
  go_wp2_with fail
  go_loopw [17] (fun i wr => ∃ j : Nat, j ≤ n ∧ i = .int .i64 j ∧ Below w.heap.size w wr ∧ (∀ k (h : k < l.length), k < j → -lim ≤ l[k].2 ∧ l[k].2 ≤ lim) ∧ (∀ k (h : k + 1 < l.length), k + 1 < j → num s l[k].1 < num s l[k + 1].1)) (fun i _ => n - (intOf i).toNat)
  case atStart => exact ⟨0, Nat.zero_le _, rfl, Below.refl _ _, fun k h h0 => by omega, fun k h h0 => by omega⟩
  case round =>
    obtain ⟨j, hj, rfl, hbr, hr, ho⟩ := hrel
    have HR := Lib.hid hr
    have HO := Lib.hid ho
    clear hr ho
    by_cases hlt : j < n
    · have hjl : j < l.length := by rw [← HL.out]; exact hlt
      have hgood : ¬ (-1000000000000 ≤ l[j].2 ∧ l[j].2 ≤ 1000000000000) → R = false := by
        intro hv
        rw [← Bool.not_eq_true, HOK.out]
        rintro ⟨h1, -⟩
        exact hv (h1 j hjl)
      have HG := Lib.hid hgood
      clear hgood
      obtain ⟨a2, q2, rfl, hab2, hq2, hqb2, hd0, hd1⟩ := prow_q (Rd.below hrow hbr) hjl
      obtain ⟨v, hv0⟩ : ∃ v, v = l[j].2 := ⟨_, rfl⟩
      obtain ⟨r2, hr2⟩ : ∃ r, r = l[j].1 := ⟨_, rfl⟩
      rw [← hv0] at hd1
      rw [← hr2] at hd0
      have HV := Lib.hid hv0
      have HR2 := Lib.hid hr2
      rw [← hv0] at HG
      clear hv0 hr2
      obtain ⟨C, hC⟩ : ∃ C, C = clp v := ⟨_, rfl⟩
      have HC := Lib.hid (fun u => by have := M3w.clamp_p v u; rw [← hC] at this; exact this)
      have hbn : Below w.heap.size w (wr.alloc (.cells #[.int .u8 (r2.toNat : Int), .int .i64 v] 139)) := hbr.alloc hbr.size _
      have HBN := Lib.hid hbn
      clear hbn
      by_cases hv : -1000000000000 ≤ v ∧ v ≤ 1000000000000
      case neg =>
        have hne : (v != C) = true := by rw [bne_iff_ne]; intro e; exact clp_out hv (by rw [← hC]; exact e.symm)
        have hR := HG.out hv
        subst hR
        clear hC hv
        go_wp2_with fail
        go_quiet ((go_at_call 178; exact quiet_same (HC.out _)))
        all_goals go_wp2_with fail
        all_goals go_ret
        all_goals exact ⟨rfl, HBN.out.os, HBN.out.tape, HBN.out.output, HBN.out.size, HBN.out.block⟩
      obtain ⟨hv1, hv2⟩ := hv
      obtain rfl : C = v := by rw [hC]; exact clp_in hv1 hv2
      clear hC
      have hne : (C != C) = false := by simp
      have hlast : (∀ k (h : k < l.length), k < j + 1 → -lim ≤ l[k].2 ∧ l[k].2 ≤ lim) := by
        intro k h h0
        rcases Nat.lt_or_ge k j with g | g
        · exact HR.out k h g
        · obtain rfl : k = j := by omega
          rw [← HV.out]
          exact ⟨hv1, hv2⟩
      have HLAST := Lib.hid hlast
      clear hlast
      rcases j with _ | j
      · go_wp2_with fail
        go_quiet ((go_at_call 178; exact quiet_same (HC.out _)))
        all_goals go_wp2_with fail
        go_quiet (fail)
        all_goals go_wp2_with fail
        all_goals exact ⟨⟨1, by omega, rfl, ⟨HBN.out.os, HBN.out.tape, HBN.out.output, HBN.out.size, HBN.out.block⟩, HLAST.out, fun k h h0 => by omega⟩, by simp [intOf]; omega⟩
      · obtain ⟨a, q, e2, hab, hq, hqb, hc0, hc1⟩ := prow_q (Rd.below hrow HBN.out) (k := j) (by omega)
        injection e2 with e2
        subst e2
        obtain ⟨r1, hr1⟩ : ∃ r, r = l[j].1 := ⟨_, rfl⟩
        rw [← hr1] at hc0
        have HR1 := Lib.hid hr1
        clear hr1 hc1
        by_cases hlt2 : num s r1 < num s r2
        · have hge : ¬ num s r2 ≤ num s r1 := by omega
          go_wp2_with fail
          go_quiet ((go_at_call 178; exact quiet_same (HC.out _)))
          all_goals go_wp2_with fail
          go_quiet ((go_at_call 61; exact quiet_more (HN.out _ _)))
          all_goals go_wp2_with fail
          refine ⟨⟨j + 2, by omega, vi (by push_cast; omega), ⟨HBN.out.os, HBN.out.tape, HBN.out.output, HBN.out.size, HBN.out.block⟩, HLAST.out, fun k h h0 => ?_⟩, by simp [intOf]; omega⟩
          rcases Nat.lt_or_ge (k + 1) (j + 1) with g | g
          · exact HO.out k h g
          · obtain rfl : k = j := by omega
            rw [← HR1.out, ← HR2.out]
            exact hlt2
        · have hge : num s r2 ≤ num s r1 := by omega
          have hR : R = false := by
            rw [← Bool.not_eq_true, HOK.out]
            rintro ⟨-, h1⟩
            have := h1 j hjl
            rw [← HR1.out, ← HR2.out] at this
            omega
          subst hR
          go_wp2_with fail
          go_quiet ((go_at_call 178; exact quiet_same (HC.out _)))
          all_goals go_wp2_with fail
          go_quiet ((go_at_call 61; exact quiet_more (HN.out _ _)))
          all_goals go_wp2_with fail
          all_goals go_ret
          all_goals exact ⟨rfl, HBN.out.os, HBN.out.tape, HBN.out.output, HBN.out.size, HBN.out.block⟩
    · have hyes : R = true := by
        rw [HOK.out]
        have hln := HL.out
        exact ⟨fun k h => HR.out k h (by omega), fun k h => HO.out k h (by omega)⟩
      subst hyes
      go_wp2_with fail
      go_ret
      exact ⟨rfl, hbr⟩
theorem istab_p (s : Bool) (A : Option Addr) (n cp : Nat) (l : List Pt) (w : World) (hsl : PSl w A n cp l) :
    Calls Try.prog 160 #[.bool s, .slice A n cp] w fun e w' => e = .returned (.bool (decide (2 ≤ n ∧ n ≤ 12) && okp s none l)) ∧ Below w.heap.size w w' := by
  by_cases h : 2 ≤ n ∧ n ≤ 12
  · rw [decide_eq_true h, Bool.true_and]
    exact istab_some s A n cp l w hsl h.1 h.2
  · rw [decide_eq_false h, Bool.false_and]
    exact (istab_few s A n cp w (by omega) (Nat.le_trans hsl.cap hsl.max)).mono fun _ _ ⟨h1, h2⟩ => ⟨h1, by subst h2; exact Below.refl _ _⟩
end Go.Proofs.Ytekhpcfggbegaaa.P4
