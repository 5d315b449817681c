/- Walks: the dice's fields that are often not valid. -/
import Derived.Test.YtkhdldemhaifpaaFq
import Derived.Deep.RegionLaw
namespace Go.Proofs.Ytkhdldemhaifpaa.Made
open Go.RowKit Go.Proofs.Ytkhdldemhaifpaa.Mem Go.Proofs.Ytkhdldemhaifpaa.F2p Go.Proofs.Ytkhdldemhaifpaa.Fa
set_option maxRecDepth 100000
set_option maxHeartbeats 2000000

theorem Dz.drew {w : World} {g n c : Nat} {A : Option Addr} {l : List Int} (h : Dz w g A n c l) : Dz w.drew g A n c l := by
  obtain ⟨a, ha, hd⟩ := h.at_
  exact ⟨h.len, h.bnd, h.few, Rd.drew h.row, a, ha, hd⟩
/-- What OddField leaves. -/
def Od (w : World) (g n c : Nat) (A : Option Addr) (l : List Int) (e : Ending) (w' : World) : Prop := ∃ (k : Int) (s : ByteArray), e = .returned (.agg #[.int .i64 k, .string s]) ∧ s.size ≤ 300 ∧ Dz w' g A n c l ∧ w.grownBy w' (some g)
theorem Dz.odd {w : World} {g n c : Nat} {A : Option Addr} {l : List Int} (h : Dz w g A n c l) :
    Calls Try.prog 16 #[.pointer (some ⟨g, 0, none⟩)] w (Od w g n c A l) := by
  have hlt := h.lt
  have hal0 := World.grownBy_alloc w (.cells #[.int .i64 0, .string ⟨#[]⟩] 23) (some g)
  have hd0 := h.grown (World.grownBy_alloc w (.cells #[.int .i64 0, .string ⟨#[]⟩] 23) none) (by simp) (fun k hk => by cases hk)
  have hst0 : (w.alloc (.cells #[.int .i64 0, .string ⟨#[]⟩] 23)).heap[w.heap.size]? = some (.cells #[.int .i64 0, .string ⟨#[]⟩] 23 (0, 0)) := heap_alloc_new w _
  clear h
  go_enter Try.func16, Try.ntmps16
  go_wp2_with fail
  generalize w.alloc (.cells #[.int .i64 0, .string ⟨#[]⟩] 23) = w1 at *
  refine hd0.field.mono ?_
  rintro e w2 ⟨k, s, rfl, hv, hd2, hg2⟩
  have hs := vld_size hv
  have hst2 := (hg2.block w.heap.size (lt_of_some hst0) (fun e => by injection e; omega)).trans hst0
  have hgw2 := grown_trans hal0 hg2
  have hsz2 : w.heap.size < w2.heap.size := lt_of_some hst2
  clear hd0 hst0 hal0 hg2 hv
  go_wp2_with fail
  have hd3 := hd2.grown (World.grownBy_alloc w2 (.cells #[.int .i64 k, .string s] 23) none) (by simp) (fun k hk => by cases hk)
  have hgw3 := grown_trans hgw2 (World.grownBy_alloc w2 (.cells #[.int .i64 k, .string s] 23) (some g))
  have hst3 : (w2.alloc (.cells #[.int .i64 k, .string s] 23)).heap[w.heap.size]? = some (.cells #[.int .i64 0, .string ⟨#[]⟩] 23 (0, 0)) := (Below.heap_alloc w2 _ _ hsz2).trans hst2
  have hsu3 : (w2.alloc (.cells #[.int .i64 k, .string s] 23)).heap[w2.heap.size]? = some (.cells #[.int .i64 k, .string s] 23 (0, 0)) := heap_alloc_new w2 _
  have hF : w.heap.size ≠ w2.heap.size := by omega
  have hgF : g < w2.heap.size := by omega
  generalize w2.heap.size = F at *
  generalize w2.alloc (.cells #[.int .i64 k, .string s] 23) = w3 at *
  clear hst2 hd2 hgw2
  refine (hd3.next 5 (by omega) (by omega)).mono ?_
  rintro e w4 ⟨r, hr, rfl, hd4, hg4⟩
  have hst4 := (hg4.block w.heap.size (lt_of_some hst3) (fun e => by injection e; omega)).trans hst3
  have hsu4 := (hg4.block F (lt_of_some hsu3) (fun e => by injection e; omega)).trans hsu3
  have hgw4 := grown_trans hgw3 hg4
  clear hd3 hst3 hsu3 hgw3 hg4
  by_cases r0 : r = 0
  · subst r0
    go_wp2_with fail
    refine (hd4.next 7 (by omega) (by omega)).mono ?_
    rintro e w5 ⟨q, hq, rfl, hd5, hg5⟩
    have hst5 := (hg5.block w.heap.size (lt_of_some hst4) (fun e => by injection e; omega)).trans hst4
    have hsu5 := (hg5.block F (lt_of_some hsu4) (fun e => by injection e; omega)).trans hsu4
    have hgw5 := grown_trans hgw4 hg5
    obtain ⟨k0, k1, kf⟩ := pair_cells hsu5
    have kf0 := kf 0
    have k0' := fun v => World.cell?_setCell_same (v := v) _ _ k0
    have k1' : ∀ v, (w5.setCell ⟨F, 0, none⟩ v).cell? ⟨F, 1, none⟩ = some (.string s) := fun v => by
      rw [World.cell?_setCell_other _ _ _ _ (by simp)]; exact k1
    have hst6 : ∀ v, (w5.setCell ⟨F, 0, none⟩ v).heap[w.heap.size]? = some (.cells #[.int .i64 0, .string ⟨#[]⟩] 23 (0, 0)) := fun v => (heap_setCell_other w5 ⟨F, 0, none⟩ _ _ (fun e => by simp at e; omega)).trans hst5
    have R := fun v => pair_cells (hst6 v)
    have r0 := fun v => (R v).1
    have r1 := fun v => (R v).2.1
    have rf0 := fun v => (R v).2.2 0
    have rf1 := fun v => (R v).2.2 1
    have r1' : ∀ v x, ((w5.setCell ⟨F, 0, none⟩ v).setCell ⟨w.heap.size, 0, none⟩ x).cell? ⟨w.heap.size, 1, none⟩ = some (.string ⟨#[]⟩) := fun v x => by
      rw [World.cell?_setCell_other _ _ _ _ (by simp)]; exact r1 v
    have HE := Lib.hid r1'
    clear R hst6 hst5 hsu5 kf hst4 hsu4 hd4 hg5 hgw4
    go_wp2_with fail
    refine bodyPost_ret (v := .agg #[.int .i64 ((q : Int) - 1), .string s]) ?_ rfl ⟨_, s, rfl, by omega, ?_, ?_⟩
    · have e0 := fun v x => World.cell?_setCell_same (v := x) _ _ (r0 v)
      have e1 := fun v x y => World.cell?_setCell_same (v := y) _ _ (r1' v x)
      simp [results, Try.results16, go_sem, e0, e1]
    · exact ((hd5.grown (set_grown _ F 0 _) (fun e => by injection e; omega) (fun k hk => by injection hk; omega)).grown (set_grown _ w.heap.size 0 _) (fun e => by injection e; omega) (fun k hk => by injection hk; omega)).grown (set_grown _ w.heap.size 1 _) (fun e => by injection e; omega) (fun k hk => by injection hk; omega)
    · exact grown_new (grown_new (grown_new hgw5 (set_grown _ F 0 _) (fun b hb => by injection hb; omega)) (set_grown _ w.heap.size 0 _) (fun b hb => by injection hb; omega)) (set_grown _ w.heap.size 1 _) (fun b hb => by injection hb; omega)
  by_cases r1 : r = 1
  · subst r1
    obtain ⟨k0, k1, kf⟩ := pair_cells hsu4
    have kf1 := kf 1
    go_wp2_with fail
    have ht1 := Lib.hid (fun u (hu : Dz u g A n c l) => hu.text_at ⟨#[48, 32, 65, 126, 97]⟩ 1 1 rfl (by decide) (by decide) (by omega))
    go_region_law (first | (go_simp; go_at_call 35; go_loud (refine (ht1.out _ hd4.drew).mono ?_); rintro e w5 ⟨t, rfl, ht, hall, hd5, hg5⟩; have hcat : ¬ (9223372036854775807 < s.size + t.size) := (by omega); have hcs : (s ++ t).size ≤ 300 := (by rw [ByteArray.size_append]; omega); have hsu5 := (hg5.block F (lt_of_some hsu4) (fun e => (by injection e; omega))).trans hsu4; have hst5 := (hg5.block w.heap.size (lt_of_some hst4) (fun e => (by injection e; omega))).trans hst4; have kf5 := (pair_cells hsu5).2.2 1; have k15 := (pair_cells hsu5).2.1; clear ht))
    all_goals
      have hst6 := (heap_setCell_other w5 ⟨F, 1, none⟩ w.heap.size (.string (s ++ t)) (fun e => by simp at e; omega)).trans hst5
      have hsu6 := heap_setCell_same w5 F 1 _ _ (.string (s ++ t)) hsu5
      have hd6 := hd5.grown (set_grown w5 F 1 (.string (s ++ t))) (fun e => by injection e; omega) (fun k hk => by injection hk; omega)
      have hg6 := grown_new (grown_trans (grown_drew hgw4) hg5) (set_grown w5 F 1 (.string (s ++ t))) (fun b hb => by injection hb; omega)
      generalize w5.setCell ⟨F, 1, none⟩ (.string (s ++ t)) = w6 at *
      generalize s ++ t = x at *
      clear hst5 hsu5 hd5 hst4 hsu4 hd4 hg5 hgw4 kf5 k15 hcat
      obtain ⟨c0, c1, -⟩ := pair_cells hsu6
      obtain ⟨r0, r1, rf⟩ := pair_cells hst6
      have rf0 := rf 0
      have rf1 := rf 1
      have r1' : ∀ v, (w6.setCell ⟨w.heap.size, 0, none⟩ v).cell? ⟨w.heap.size, 1, none⟩ = some (.string ⟨#[]⟩) := fun v => by
        rw [World.cell?_setCell_other _ _ _ _ (by simp)]; exact r1
      clear rf hst6 hsu6
      go_wp2_with fail
      refine bodyPost_ret (v := .agg #[.int .i64 k, .string x]) ?_ rfl ⟨_, x, rfl, hcs, ?_, ?_⟩
      · have e0 := fun v => World.cell?_setCell_same (v := v) w6 _ r0
        have e1 := fun u v => World.cell?_setCell_same (v := v) _ _ (r1' u)
        simp [results, Try.results16, go_sem, e0, e1]
      · exact (hd6.grown (set_grown w6 w.heap.size 0 _) (fun e => by injection e; omega) (fun k hk => by injection hk; omega)).grown (set_grown _ w.heap.size 1 _) (fun e => by injection e; omega) (fun k hk => by injection hk; omega)
      · exact grown_new (grown_new hg6 (set_grown w6 w.heap.size 0 _) (fun b hb => by injection hb; omega)) (set_grown _ w.heap.size 1 _) (fun b hb => by injection hb; omega)
  by_cases r2 : r = 2
  · subst r2
    obtain ⟨k0, k1, kf⟩ := pair_cells hsu4
    have kf1 := kf 1
    go_wp2_with fail
    have hn1 := Lib.hid (fun u (hu : Dz u g A n c l) => hu.next 70 (by omega) (by omega))
    go_region_law (first | (go_simp; go_at_call 36; go_loud (refine (hn1.out _ hd4.drew).mono ?_); rintro e w5 ⟨q, hq, rfl, hd5, hg5⟩; have hsum : IntKind.i64.wrap (60 + (q : Int)) = 60 + (q : Int) := (IntWalk.i64_in _ ⟨(by omega), (by omega)⟩); have hsu5 := (hg5.block F (lt_of_some hsu4) (fun e => (by injection e; omega))).trans hsu4; have hst5 := (hg5.block w.heap.size (lt_of_some hst4) (fun e => (by injection e; omega))).trans hst4; have k15 := (pair_cells hsu5).2.1; have ht1 := Lib.hid (hd5.text_at ⟨#[48]⟩ (60 + q) (60 + (q : Int)) (by omega) (by decide) (by decide) (by omega))) | (go_simp; go_at_call 35; go_loud (refine ht1.out.mono ?_); rintro e w7 ⟨t, rfl, ht, hall, hd7, hg7⟩; have hcat : ¬ (9223372036854775807 < s.size + t.size) := (by omega); have hcs : (s ++ t).size ≤ 300 := (by rw [ByteArray.size_append]; omega); have hsu7 := (hg7.block F (lt_of_some hsu5) (fun e => (by injection e; omega))).trans hsu5; have hst7 := (hg7.block w.heap.size (lt_of_some hst5) (fun e => (by injection e; omega))).trans hst5; have kf7 := (pair_cells hsu7).2.2 1; have k17 := (pair_cells hsu7).2.1; clear ht))
    all_goals
      have hst6 := (heap_setCell_other w7 ⟨F, 1, none⟩ w.heap.size (.string (s ++ t)) (fun e => by simp at e; omega)).trans hst7
      have hsu6 := heap_setCell_same w7 F 1 _ _ (.string (s ++ t)) hsu7
      have hd6 := hd7.grown (set_grown w7 F 1 (.string (s ++ t))) (fun e => by injection e; omega) (fun k hk => by injection hk; omega)
      have hg6 := grown_new (grown_trans (grown_trans (grown_drew hgw4) hg5) hg7) (set_grown w7 F 1 (.string (s ++ t))) (fun b hb => by injection hb; omega)
      generalize w7.setCell ⟨F, 1, none⟩ (.string (s ++ t)) = w6 at *
      generalize s ++ t = x at *
      clear hst7 hsu7 hd7 hst5 hsu5 hd5 hst4 hsu4 hd4 hg7 hg5 hgw4 kf7 k17 k15 hcat
      obtain ⟨c0, c1, -⟩ := pair_cells hsu6
      obtain ⟨r0, r1, rf⟩ := pair_cells hst6
      have rf0 := rf 0
      have rf1 := rf 1
      have r1' : ∀ v, (w6.setCell ⟨w.heap.size, 0, none⟩ v).cell? ⟨w.heap.size, 1, none⟩ = some (.string ⟨#[]⟩) := fun v => by
        rw [World.cell?_setCell_other _ _ _ _ (by simp)]; exact r1
      clear rf hst6 hsu6
      go_wp2_with fail
      refine bodyPost_ret (v := .agg #[.int .i64 k, .string x]) ?_ rfl ⟨_, x, rfl, hcs, ?_, ?_⟩
      · have e0 := fun v => World.cell?_setCell_same (v := v) w6 _ r0
        have e1 := fun u v => World.cell?_setCell_same (v := v) _ _ (r1' u)
        simp [results, Try.results16, go_sem, e0, e1]
      · exact (hd6.grown (set_grown w6 w.heap.size 0 _) (fun e => by injection e; omega) (fun k hk => by injection hk; omega)).grown (set_grown _ w.heap.size 1 _) (fun e => by injection e; omega) (fun k hk => by injection hk; omega)
      · exact grown_new (grown_new hg6 (set_grown w6 w.heap.size 0 _) (fun b hb => by injection hb; omega)) (set_grown _ w.heap.size 1 _) (fun b hb => by injection hb; omega)
  have t0 : ((r : Int) == 0) = false := by rw [beq_eq_false_iff_ne]; omega
  have t1 : ((r : Int) == 1) = false := by rw [beq_eq_false_iff_ne]; omega
  have t2 : ((r : Int) == 2) = false := by rw [beq_eq_false_iff_ne]; omega
  have hst6 := hst4
  have hsu6 := hsu4
  have hd6 := hd4
  have hg6 := hgw4
  have hcs : s.size ≤ 300 := by omega
  clear hst4 hsu4 hd4 hgw4
  generalize s = x at *
  generalize w4 = w6 at *
  obtain ⟨c0, c1, -⟩ := pair_cells hsu6
  obtain ⟨r0, r1, rf⟩ := pair_cells hst6
  have rf0 := rf 0
  have rf1 := rf 1
  have r1' : ∀ v, (w6.setCell ⟨w.heap.size, 0, none⟩ v).cell? ⟨w.heap.size, 1, none⟩ = some (.string ⟨#[]⟩) := fun v => by
    rw [World.cell?_setCell_other _ _ _ _ (by simp)]; exact r1
  clear rf hst6 hsu6
  go_wp2_with fail
  refine bodyPost_ret (v := .agg #[.int .i64 k, .string x]) ?_ rfl ⟨_, x, rfl, hcs, ?_, ?_⟩
  · have e0 := fun v => World.cell?_setCell_same (v := v) w6 _ r0
    have e1 := fun u v => World.cell?_setCell_same (v := v) _ _ (r1' u)
    simp [results, Try.results16, go_sem, e0, e1]
  · exact (hd6.grown (set_grown w6 w.heap.size 0 _) (fun e => by injection e; omega) (fun k hk => by injection hk; omega)).grown (set_grown _ w.heap.size 1 _) (fun e => by injection e; omega) (fun k hk => by injection hk; omega)
  · exact grown_new (grown_new hg6 (set_grown w6 w.heap.size 0 _) (fun b hb => by injection hb; omega)) (set_grown _ w.heap.size 1 _) (fun b hb => by injection hb; omega)
end Go.Proofs.Ytkhdldemhaifpaa.Made
