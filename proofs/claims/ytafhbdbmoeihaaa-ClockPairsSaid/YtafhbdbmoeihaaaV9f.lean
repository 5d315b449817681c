/- Walks: the reference of clocks: Advance, Adjust. -/
import Derived.Test.YtafhbdbmoeihaaaV9d
namespace Go.Proofs.Ytafhbdbmoeihaaa.V9
open Go.RowKit Go.Proofs.Ytafhbdbmoeihaaa.Mem Go.Proofs.Ytafhbdbmoeihaaa.F2p Go.Proofs.Ytafhbdbmoeihaaa.V7
set_option maxRecDepth 100000
set_option maxHeartbeats 1000000

theorem advance_r (c : Ck) (hf : c.Fit) (n : Int) (w : World) : Calls Try.prog 11 #[c.v, .int .i64 n] w fun x w' => x = .returned (.tuple #[(adv c n).1.v, .int .i64 (adv c n).2]) ∧ Below w.heap.size w w' := by
  have hv := Lib.hid (fun u => valid_rck c hf u)
  unfold adv
  rcases hk : c.ok with _ | _
  · rw [hk] at hv
    rw [if_neg (by simp)]
    obtain ⟨t, b, s⟩ := c
    simp only [Ck.v, Ck.cells, Ck.none] at *
    clear hk hf
    have hs0 : Below w.heap.size w ((w.alloc (.cells (Ck.mk t b s).cells 23)).alloc (.cells Ck.none.cells 23)) := ((Below.refl _ _).alloc (Nat.le_refl _) _).alloc (by simp) _
    have hr0 := CBox.new (w.alloc (.cells (Ck.mk t b s).cells 23)) Ck.none
    have hc0 := (CBox.new w (Ck.mk t b s)).alloc (.cells Ck.none.cells 23)
    have hz0 : (w.alloc (.cells (Ck.mk t b s).cells 23)).heap.size = w.heap.size + 1 := by simp
    have hz1 : ((w.alloc (.cells (Ck.mk t b s).cells 23)).alloc (.cells Ck.none.cells 23)).heap.size = w.heap.size + 2 := by simp
    rw [hz0] at hr0
    simp only [Ck.cells, Ck.none] at hs0 hr0 hz1 hc0
    replace hr0 := Lib.hid hr0
    replace hs0 := Lib.hid hs0
    replace hc0 := Lib.hid hc0
    go_enter Try.func11, Try.ntmps11
    go_wp2_with fail
    refine (hv.out _).mono ?_
    rintro e w1 ⟨rfl, hb1⟩
    have hs1 := Lib.hid (hs0.out.trans (hb1.mono (by omega)))
    have hR := CBox.below hr0.out hb1 (by omega)
    have hC := CBox.below hc0.out hb1 (by omega)
    have c0 : w1.cell? ⟨w.heap.size, 0, none⟩ = some (.int .i64 t) := hC.c0
    have c1 : w1.cell? ⟨w.heap.size, 1, none⟩ = some (.int .i64 b) := hC.c1
    have c2 : w1.cell? ⟨w.heap.size, 2, none⟩ = some (.bool s) := hC.c2
    clear hb1
    go_wp2_with (refine wpList_store_ck rfl (.tmp 4) (.tmp 10) rfl (w.heap.size + 1) Ck.none Ck.none rfl rfl hR ?_; intro w2 hR2 hg2)
    exact out_ck2 (r := w.heap.size + 1) Try.results11 rfl rfl rfl hR2 ⟨rfl, hs1.out.grown hg2 hs1.out.size (fun k hk => by injection hk; omega)⟩
  · rw [hk] at hv
    rw [if_pos rfl]
    obtain ⟨h1, h2, h3, h4, h5⟩ := Ck.ok_b hk
    unfold Ck.tm at h4 h5
    obtain ⟨t, b, s⟩ := c
    simp only [Ck.v, Ck.cells, Ck.none] at *
    clear hk hf
    have hw1 : wrap64 (17179869184 - t) = 17179869184 - t := by unfold wrap64; omega
    by_cases hn : n < 0 ∨ 17179869184 - t < n
    · rw [if_pos hn]
      clear h3 h4 h5
      have hs0 : Below w.heap.size w ((w.alloc (.cells (Ck.mk t b s).cells 23)).alloc (.cells Ck.none.cells 23)) := ((Below.refl _ _).alloc (Nat.le_refl _) _).alloc (by simp) _
      have hr0 := CBox.new (w.alloc (.cells (Ck.mk t b s).cells 23)) Ck.none
      have hc0 := (CBox.new w (Ck.mk t b s)).alloc (.cells Ck.none.cells 23)
      have hz0 : (w.alloc (.cells (Ck.mk t b s).cells 23)).heap.size = w.heap.size + 1 := by simp
      have hz1 : ((w.alloc (.cells (Ck.mk t b s).cells 23)).alloc (.cells Ck.none.cells 23)).heap.size = w.heap.size + 2 := by simp
      rw [hz0] at hr0
      simp only [Ck.cells, Ck.none] at hs0 hr0 hz1 hc0
      replace hr0 := Lib.hid hr0
      replace hs0 := Lib.hid hs0
      replace hc0 := Lib.hid hc0
      rcases Int.lt_or_le n 0 with hn0 | hn0
      · clear hn
        go_enter Try.func11, Try.ntmps11
        go_wp2_with fail
        refine (hv.out _).mono ?_
        rintro e w1 ⟨rfl, hb1⟩
        have hs1 := Lib.hid (hs0.out.trans (hb1.mono (by omega)))
        have hR := CBox.below hr0.out hb1 (by omega)
        have hC := CBox.below hc0.out hb1 (by omega)
        have c0 : w1.cell? ⟨w.heap.size, 0, none⟩ = some (.int .i64 t) := hC.c0
        have c1 : w1.cell? ⟨w.heap.size, 1, none⟩ = some (.int .i64 b) := hC.c1
        have c2 : w1.cell? ⟨w.heap.size, 2, none⟩ = some (.bool s) := hC.c2
        clear hb1
        go_wp2_with (refine wpList_store_ck rfl (.tmp 4) (.tmp 20) rfl (w.heap.size + 1) Ck.none Ck.none rfl rfl hR ?_; intro w2 hR2 hg2)
        exact out_ck2 (r := w.heap.size + 1) Try.results11 rfl rfl rfl hR2 ⟨rfl, hs1.out.grown hg2 hs1.out.size (fun k hk => by injection hk; omega)⟩
      · have hn1 : 17179869184 - t < n := by omega
        clear hn
        go_enter Try.func11, Try.ntmps11
        go_wp2_with fail
        refine (hv.out _).mono ?_
        rintro e w1 ⟨rfl, hb1⟩
        have hs1 := Lib.hid (hs0.out.trans (hb1.mono (by omega)))
        have hR := CBox.below hr0.out hb1 (by omega)
        have hC := CBox.below hc0.out hb1 (by omega)
        have c0 : w1.cell? ⟨w.heap.size, 0, none⟩ = some (.int .i64 t) := hC.c0
        have c1 : w1.cell? ⟨w.heap.size, 1, none⟩ = some (.int .i64 b) := hC.c1
        have c2 : w1.cell? ⟨w.heap.size, 2, none⟩ = some (.bool s) := hC.c2
        clear hb1
        go_wp2_with (refine wpList_store_ck rfl (.tmp 4) (.tmp 20) rfl (w.heap.size + 1) Ck.none Ck.none rfl rfl hR ?_; intro w2 hR2 hg2)
        exact out_ck2 (r := w.heap.size + 1) Try.results11 rfl rfl rfl hR2 ⟨rfl, hs1.out.grown hg2 hs1.out.size (fun k hk => by injection hk; omega)⟩
    · rw [if_neg hn]
      have hn0 : ¬ n < 0 := by omega
      have hn1 : ¬ 17179869184 - t < n := by omega
      have hw2 : wrap64 (t + n) = t + n := by unfold wrap64; omega
      have ht2 := Lib.hid (fun u => time_r ⟨t + n, b, s⟩ ⟨by show 0 ≤ t + n; omega, by show t + n ≤ _; omega⟩ ⟨by show _ ≤ b; omega, by show b ≤ _; omega⟩ u)
      have hok : (Ck.mk (t + n) b s).ok = !decide (4294967294 < (Ck.mk (t + n) b s).tm) := by
        clear hw2 ht2; rcases h3 with rfl | rfl <;> rw [Bool.eq_iff_iff] <;> simp [Ck.ok, Ck.tm]
        · omega
        · exact ⟨fun h => decide_eq_false (by omega), fun h => by have := of_decide_eq_false h; omega⟩
      rw [hok]
      clear hn hok h3 h4 h5
      obtain ⟨x, hx⟩ : ∃ x, t + n = x := ⟨_, rfl⟩
      rw [hx] at ht2 hw2 ⊢
      have hx := Lib.hid hx
      obtain ⟨m, hm⟩ : ∃ m, m = (Ck.mk x b s).tm := ⟨_, rfl⟩
      rw [← hm] at ht2 ⊢
      clear hm
      simp only [Ck.v, Ck.cells] at ht2
      by_cases hmax : 4294967294 < m
      · rw [if_neg (by simpa using hmax)]
        simp only
        have hs0 : Below w.heap.size w ((w.alloc (.cells (Ck.mk t b s).cells 23)).alloc (.cells Ck.none.cells 23)) := ((Below.refl _ _).alloc (Nat.le_refl _) _).alloc (by simp) _
        have hr0 := CBox.new (w.alloc (.cells (Ck.mk t b s).cells 23)) Ck.none
        have hc0 := (CBox.new w (Ck.mk t b s)).alloc (.cells Ck.none.cells 23)
        have hz0 : (w.alloc (.cells (Ck.mk t b s).cells 23)).heap.size = w.heap.size + 1 := by simp
        have hz1 : ((w.alloc (.cells (Ck.mk t b s).cells 23)).alloc (.cells Ck.none.cells 23)).heap.size = w.heap.size + 2 := by simp
        rw [hz0] at hr0
        simp only [Ck.cells, Ck.none] at hs0 hr0 hz1 hc0
        replace hr0 := Lib.hid hr0
        replace hs0 := Lib.hid hs0
        replace hc0 := Lib.hid hc0
        go_enter Try.func11, Try.ntmps11
        go_wp2_with fail
        refine (hv.out _).mono ?_
        rintro e w1 ⟨rfl, hb1⟩
        have hs1 := Lib.hid (hs0.out.trans (hb1.mono (by omega)))
        have hR := CBox.below hr0.out hb1 (by omega)
        have hC := CBox.below hc0.out hb1 (by omega)
        have c0 : w1.cell? ⟨w.heap.size, 0, none⟩ = some (.int .i64 t) := hC.c0
        have c1 : w1.cell? ⟨w.heap.size, 1, none⟩ = some (.int .i64 b) := hC.c1
        have c2 : w1.cell? ⟨w.heap.size, 2, none⟩ = some (.bool s) := hC.c2
        clear hb1
        have hltR := hR.lt
        have hlt := hC.lt
        replace hR := Lib.hid hR
        replace hC := Lib.hid hC
        go_upto_region 7 with fail
        have hB6 := CBox.new w1 ⟨x, b, s⟩
        have hR6 := hR.out.alloc (.cells (Ck.mk x b s).cells 23)
        have hs6 := Lib.hid (hs1.out.alloc hs1.out.size (.cells (Ck.mk x b s).cells 23))
        have hz6 : (w1.alloc (.cells (Ck.mk x b s).cells 23)).heap.size = w1.heap.size + 1 := by simp
        have hz1 : w.heap.size ≤ w1.heap.size := hs1.out.size
        simp only [Ck.cells] at hB6 hR6 hs6 hz6
        clear hs1 hR hC c0 c1 c2
        generalize w1.alloc (.cells #[.int .i64 x, .int .i64 b, .bool s] 23) = w2 at *
        have d0 := hB6.c0
        have d1 := hB6.c1
        have d2 := hB6.c2
        simp only at d0 d1 d2
        replace hB6 := Lib.hid hB6
        replace hR6 := Lib.hid hR6
        go_wp2_with fail
        refine (ht2.out _).mono ?_
        rintro e w3 ⟨rfl, hb3⟩
        have hs3 := Lib.hid (hs6.out.trans (hb3.mono hs6.out.size))
        have hR3 := CBox.below hR6.out hb3 (by omega)
        have hB3 := CBox.below hB6.out hb3 (by omega)
        clear hb3 d0 d1 d2
        go_wp2_with (refine wpList_store_ck rfl (.tmp 4) (.tmp 30) rfl (w.heap.size + 1) Ck.none Ck.none rfl rfl hR3 ?_; intro w4 hR4 hg4)
        exact out_ck2 (r := w.heap.size + 1) Try.results11 rfl rfl rfl hR4 ⟨rfl, hs3.out.grown hg4 hs3.out.size (fun k hk => by injection hk; omega)⟩
      · rw [if_pos (by simpa using hmax)]
        simp only
        have hs0 : Below w.heap.size w ((w.alloc (.cells (Ck.mk t b s).cells 23)).alloc (.cells Ck.none.cells 23)) := ((Below.refl _ _).alloc (Nat.le_refl _) _).alloc (by simp) _
        have hr0 := CBox.new (w.alloc (.cells (Ck.mk t b s).cells 23)) Ck.none
        have hc0 := (CBox.new w (Ck.mk t b s)).alloc (.cells Ck.none.cells 23)
        have hz0 : (w.alloc (.cells (Ck.mk t b s).cells 23)).heap.size = w.heap.size + 1 := by simp
        have hz1 : ((w.alloc (.cells (Ck.mk t b s).cells 23)).alloc (.cells Ck.none.cells 23)).heap.size = w.heap.size + 2 := by simp
        rw [hz0] at hr0
        simp only [Ck.cells, Ck.none] at hs0 hr0 hz1 hc0
        replace hr0 := Lib.hid hr0
        replace hs0 := Lib.hid hs0
        replace hc0 := Lib.hid hc0
        go_enter Try.func11, Try.ntmps11
        go_wp2_with fail
        refine (hv.out _).mono ?_
        rintro e w1 ⟨rfl, hb1⟩
        have hs1 := Lib.hid (hs0.out.trans (hb1.mono (by omega)))
        have hR := CBox.below hr0.out hb1 (by omega)
        have hC := CBox.below hc0.out hb1 (by omega)
        have c0 : w1.cell? ⟨w.heap.size, 0, none⟩ = some (.int .i64 t) := hC.c0
        have c1 : w1.cell? ⟨w.heap.size, 1, none⟩ = some (.int .i64 b) := hC.c1
        have c2 : w1.cell? ⟨w.heap.size, 2, none⟩ = some (.bool s) := hC.c2
        clear hb1
        have hltR := hR.lt
        have hlt := hC.lt
        replace hR := Lib.hid hR
        replace hC := Lib.hid hC
        go_upto_region 7 with fail
        have hB6 := CBox.new w1 ⟨x, b, s⟩
        have hR6 := hR.out.alloc (.cells (Ck.mk x b s).cells 23)
        have hs6 := Lib.hid (hs1.out.alloc hs1.out.size (.cells (Ck.mk x b s).cells 23))
        have hz6 : (w1.alloc (.cells (Ck.mk x b s).cells 23)).heap.size = w1.heap.size + 1 := by simp
        have hz1 : w.heap.size ≤ w1.heap.size := hs1.out.size
        simp only [Ck.cells] at hB6 hR6 hs6 hz6
        clear hs1 hR hC c0 c1 c2
        generalize w1.alloc (.cells #[.int .i64 x, .int .i64 b, .bool s] 23) = w2 at *
        have d0 := hB6.c0
        have d1 := hB6.c1
        have d2 := hB6.c2
        simp only at d0 d1 d2
        replace hB6 := Lib.hid hB6
        replace hR6 := Lib.hid hR6
        go_wp2_with fail
        refine (ht2.out _).mono ?_
        rintro e w3 ⟨rfl, hb3⟩
        have hs3 := Lib.hid (hs6.out.trans (hb3.mono hs6.out.size))
        have hR3 := CBox.below hR6.out hb3 (by omega)
        have hB3 := CBox.below hB6.out hb3 (by omega)
        clear hb3 d0 d1 d2
        go_wp2_with (first
          | (refine wpList_load_ck rfl (.tmp 6) rfl w1.heap.size ⟨x, b, s⟩ rfl hB3 ?_)
          | (refine wpList_store_ck rfl (.tmp 4) (.tmp 31) rfl (w.heap.size + 1) ⟨x, b, s⟩ Ck.none rfl rfl hR3 ?_; intro w4 hR4 hg4))
        exact out_ck2 (r := w.heap.size + 1) Try.results11 rfl rfl rfl hR4 ⟨rfl, hs3.out.grown hg4 hs3.out.size (fun k hk => by injection hk; omega)⟩
end Go.Proofs.Ytafhbdbmoeihaaa.V9
