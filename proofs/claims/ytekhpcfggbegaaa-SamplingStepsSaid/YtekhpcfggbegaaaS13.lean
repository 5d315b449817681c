/- Walks: the reference of conversions: which tables are valid; Valid, whole. -/
import Derived.Test.YtekhpcfggbegaaaS12
namespace Go.Proofs.Ytekhpcfggbegaaa.C4v
open Go.RowKit Go.Proofs.Ytekhpcfggbegaaa.Mem Go.Proofs.Ytekhpcfggbegaaa.M3p Go.Proofs.Ytekhpcfggbegaaa.C4p Go.Proofs.Ytekhpcfggbegaaa.C4l
set_option maxRecDepth 100000
set_option maxHeartbeats 4000000

/-- A point of a list that is read, by its own address. -/
theorem prow_q {B : Nat} {w : World} {A : Option Addr} {l : List Pt} (h : PRow B w A l) {k : Nat} (hk : k < l.length) :
    ∃ a q, A = some a ∧ a.block < B ∧ a.add (k * 2) = q ∧ q.block < B ∧ w.cell? q = some (.int .u8 (l[k].1.toNat : Int)) ∧ w.cell? ⟨q.block, q.off + 1, none⟩ = some (.int .i64 l[k].2) := by
  obtain ⟨a, e, hb, h0, h1⟩ := prow_at h hk
  refine ⟨a, _, e, hb, rfl, by rw [add_block]; exact hb, h0, ?_⟩
  rw [← add_add, add_next] at h1
  exact h1
theorem prow_0 {B : Nat} {w : World} {A : Option Addr} {l : List Pt} (h : PRow B w A l) (hk : 0 < l.length) :
    ∃ a, A = some a ∧ a.block < B ∧ w.cell? a = some (.int .u8 (l[0].1.toNat : Int)) ∧ w.cell? ⟨a.block, a.off + 1, none⟩ = some (.int .i64 l[0].2) := by
  obtain ⟨a, q, e, hb, hq, -, h0, h1⟩ := prow_q h hk
  have : a.add (0 * 2) = a := rfl
  rw [this] at hq
  subst hq
  exact ⟨a, e, hb, h0, h1⟩
theorem valid_tab (s : Bool) (A : Option Addr) (n cp : Nat) (l : List Pt) (w : World) (hsl : PSl w A n cp l) (h2 : 2 ≤ n) (h12 : n ≤ 12) :
    Calls Try.prog 97 #[.agg #[.int .i64 5, .bool s, .int .i64 0, .int .i64 0, .int .i64 0, .int .i64 0, .slice A n cp]] w fun e w' => e = .returned (.bool (okp s none l)) ∧ Below w.heap.size w w' := by
  have HN := Lib.hid (fun r u => number_r s r u)
  have HOK := Lib.hid (okp_iff s l)
  have HL := Lib.hid hsl.len
  have hrow := hsl.row
  clear hsl
  generalize okp s none l = R at *
  go_enter Try.func97, Try.ntmps97
  go_wp2_with fail
  obtain ⟨w1, hw1⟩ : ∃ w1, w1 = w.alloc (.cells #[.int .i64 5, .bool s, .int .i64 0, .int .i64 0, .int .i64 0, .int .i64 0, .slice A n cp] 26) := ⟨_, rfl⟩
  have hb1 : Below w.heap.size w w1 := by rw [hw1]; exact (Below.refl _ _).alloc (Nat.le_refl _) _
  have hst : w1.heap[w.heap.size]? = some (.cells #[.int .i64 5, .bool s, .int .i64 0, .int .i64 0, .int .i64 0, .int .i64 0, .slice A n cp] 26 (0, 0)) := by rw [hw1]; exact heap_alloc_new w _
  rw [← hw1]
  clear hw1
  go_loopw [3] (fun i wr => ∃ j d : Nat, j ≤ n ∧ i = .int .i64 j ∧ wr = w1.drewN d ∧ (∀ k (h : k < l.length), k < j → -lim ≤ l[k].2 ∧ l[k].2 ≤ lim) ∧ (∀ k (h : k + 1 < l.length), k + 1 < j → num s l[k].1 < num s l[k + 1].1)) (fun i _ => n - (intOf i).toNat)
  case atStart => exact ⟨0, 0, Nat.zero_le _, rfl, rfl, fun k h h0 => by omega, fun k h h0 => by omega⟩
  case round =>
    obtain ⟨j, d, hj, rfl, rfl, hr, ho⟩ := hrel
    have HR := Lib.hid hr
    have HO := Lib.hid ho
    have hbd : Below w.heap.size w (w1.drewN d) := ⟨hb1.os, hb1.tape, hb1.output, hb1.size, hb1.block⟩
    have c1 : w1.cell? ⟨w.heap.size, 1, none⟩ = some (.bool s) := by rw [cell_of_row w1 w.heap.size 1 _ _ _ hst]; rfl
    have c6 : w1.cell? ⟨w.heap.size, 6, none⟩ = some (.slice A n cp) := by rw [cell_of_row w1 w.heap.size 6 _ _ _ hst]; rfl
    clear hr ho
    by_cases hlt : j < n
    · have hjl : j < l.length := by rw [← HL.out]; exact hlt
      have hgood : ¬ (-1000000000000 ≤ l[j].2 ∧ l[j].2 ≤ 1000000000000) → R = false := by
        intro hv
        rw [← Bool.not_eq_true, HOK.out]
        rintro ⟨h1, -⟩
        exact hv (h1 j hjl)
      have HG := Lib.hid hgood
      clear hgood
      rcases j with _ | j
      · obtain ⟨a, rfl, hab, hc0, hc1⟩ := prow_0 (Rd.below hrow hb1) hjl
        have hz := Lib.hid (rfl : l[0].2 = l[0].2)
        generalize hv0 : l[0].2 = v at *
        generalize l[0].1 = r0 at *
        by_cases hv : -1000000000000 ≤ v ∧ v ≤ 1000000000000
        · obtain ⟨hv1, hv2⟩ := hv
          have hv3 : ¬ v < -1000000000000 := by omega
          have hv4 : ¬ 1000000000000 < v := by omega
          have HV := Lib.hid hv0
          clear hv0
          go_wp2_with fail
          go_quiet (fail)
          all_goals go_wp2_with fail
          refine ⟨⟨1, _, by omega, rfl, rfl, fun k h h0 => ?_, fun k h h0 => by omega⟩, by simp [intOf]; omega⟩
          obtain rfl : k = 0 := by omega
          rw [HV.out]
          exact ⟨hv1, hv2⟩
        · have hbad := HG.out hv
          subst hbad
          clear hv0
          rcases (show v < -1000000000000 ∨ (¬ v < -1000000000000 ∧ 1000000000000 < v) by omega) with g | ⟨g, g2⟩
          · clear hv
            go_wp2_with fail
            go_ret
            exact ⟨rfl, hbd⟩
          · clear hv
            go_wp2_with fail
            go_ret
            exact ⟨rfl, hbd⟩
      · obtain ⟨a, q, rfl, hab, hq, hqb, hc0, hc1⟩ := prow_q (Rd.below hrow hb1) (k := j) (by omega)
        obtain ⟨a2, q2, e2, hab2, hq2, hqb2, hd0, hd1⟩ := prow_q (Rd.below hrow hb1) hjl
        injection e2 with e2
        subst e2
        obtain ⟨v, hv0⟩ : ∃ v, v = l[j + 1].2 := ⟨_, rfl⟩
        obtain ⟨r1, hr1⟩ : ∃ r, r = l[j].1 := ⟨_, rfl⟩
        obtain ⟨r2, hr2⟩ : ∃ r, r = l[j + 1].1 := ⟨_, rfl⟩
        rw [← hr1] at hc0
        rw [← hv0] at hd1
        rw [← hr2] at hd0
        have HV := Lib.hid hv0
        have HR1 := Lib.hid hr1
        have HR2 := Lib.hid hr2
        rw [← hv0] at HG
        clear hv0 hr1 hr2 hc1
        by_cases hv : -1000000000000 ≤ v ∧ v ≤ 1000000000000
        · obtain ⟨hv1, hv2⟩ := hv
          have hv3 : ¬ v < -1000000000000 := by omega
          have hv4 : ¬ 1000000000000 < v := by omega
          have hnb : num s r2 ≤ num s r1 → R = false := by
            intro hle
            rw [← Bool.not_eq_true, HOK.out]
            rintro ⟨-, h1⟩
            have := h1 j hjl
            rw [← HR1.out, ← HR2.out] at this
            omega
          have HNB := Lib.hid hnb
          clear hnb
          by_cases hlt2 : num s r1 < num s r2
          · have hge : ¬ num s r2 ≤ num s r1 := by omega
            go_wp2_with fail
            go_quiet ((go_at_call 27; exact quiet_more (HN.out _ _)))
            all_goals go_wp2_with fail
            refine ⟨⟨j + 2, _, by omega, vi (by push_cast; omega), rfl, fun k h h0 => ?_, fun k h h0 => ?_⟩, by simp [intOf]; omega⟩
            · rcases Nat.lt_or_ge k (j + 1) with g | g
              · exact HR.out k h g
              · obtain rfl : k = j + 1 := by omega
                rw [← HV.out]
                exact ⟨hv1, hv2⟩
            · rcases Nat.lt_or_ge (k + 1) (j + 1) with g | g
              · exact HO.out k h g
              · obtain rfl : k = j := by omega
                rw [← HR1.out, ← HR2.out]
                exact hlt2
          · have hbad := HNB.out (by omega)
            have hge : num s r2 ≤ num s r1 := by omega
            subst hbad
            go_wp2_with fail
            go_quiet ((go_at_call 27; exact quiet_more (HN.out _ _)))
            all_goals go_wp2_with fail
            go_ret
            exact ⟨rfl, hb1.os, hb1.tape, hb1.output, hb1.size, hb1.block⟩
        · have hbad := HG.out hv
          subst hbad
          rcases (show v < -1000000000000 ∨ (¬ v < -1000000000000 ∧ 1000000000000 < v) by omega) with g | ⟨g, g2⟩
          · clear hv
            go_wp2_with fail
            go_ret
            exact ⟨rfl, hbd⟩
          · clear hv
            go_wp2_with fail
            go_ret
            exact ⟨rfl, hbd⟩
    · have hyes : R = true := by
        rw [HOK.out]
        have hln := HL.out
        exact ⟨fun k h => HR.out k h (by omega), fun k h => HO.out k h (by omega)⟩
      subst hyes
      go_wp2_with fail
      go_ret
      exact ⟨rfl, hbd⟩
theorem valid_r (f m b k1 k2 : Int) (s : Bool) (A : Option Addr) (n cp : Nat) (l : List Pt) (w : World) (hsl : PSl w A n cp l) :
    Calls Try.prog 97 #[.agg #[.int .i64 f, .bool s, .int .i64 m, .int .i64 b, .int .i64 k1, .int .i64 k2, .slice A n cp]] w fun e w' => e = .returned (.bool (vld ⟨f, s, m, b, k1, k2, l⟩)) ∧ Below w.heap.size w w' := by
  by_cases h : 1 ≤ f ∧ f ≤ 4
  · exact valid_four f m b k1 k2 s A n cp l w hsl.len h
  · by_cases h2 : f = 5 ∧ m = 0 ∧ b = 0 ∧ k1 = 0 ∧ k2 = 0 ∧ 2 ≤ n ∧ n ≤ 12
    · obtain ⟨rfl, rfl, rfl, rfl, rfl, h2, h12⟩ := h2
      rw [vld_five s l (by rw [← hsl.len]; exact h2) (by rw [← hsl.len]; exact h12)]
      exact valid_tab s A n cp l w hsl h2 h12
    · rw [vld_not f m b k1 k2 s l h (by rw [← hsl.len]; exact h2)]
      exact valid_bad f m b k1 k2 s A n cp w h h2
end Go.Proofs.Ytekhpcfggbegaaa.C4v
