/- Walks: the program's package fields: Best. -/
import Derived.Test.YtkhdldemhaifpaaFg
namespace Go.Proofs.Ytkhdldemhaifpaa.Fa
open Go.RowKit Go.Proofs.Ytkhdldemhaifpaa.Mem Go.Proofs.Ytkhdldemhaifpaa.F2p
set_option maxRecDepth 100000
set_option maxHeartbeats 1000000

/-- The kinds below q do not fit. -/
def low (l : List UInt8) (q : Nat) : Prop := ∀ k : Nat, 1 ≤ k → k < q → vld k l = false
theorem best_yes {l : List UInt8} {q : Nat} (hl : low l q) (h1 : 1 ≤ q) (h3 : q ≤ 3) (hv : vld q l = true) : best l = ((q : Int), l, 0) := by
  unfold best
  have h : q = 1 ∨ q = 2 ∨ q = 3 := by omega
  rcases h with rfl | rfl | rfl
  · rw [if_pos (show vld 1 l = true from hv)]; rfl
  · rw [if_neg (by rw [show vld 1 l = false from hl 1 (by omega) (by omega)]; simp), if_pos (show vld 2 l = true from hv)]; rfl
  · rw [if_neg (by rw [show vld 1 l = false from hl 1 (by omega) (by omega)]; simp), if_neg (by rw [show vld 2 l = false from hl 2 (by omega) (by omega)]; simp), if_pos (show vld 3 l = true from hv)]; rfl
theorem best_no {l : List UInt8} (hl : low l 4) : best l = (0, [], 6) := by
  unfold best
  rw [if_neg (by rw [show vld 1 l = false from hl 1 (by omega) (by omega)]; simp), if_neg (by rw [show vld 2 l = false from hl 2 (by omega) (by omega)]; simp), if_neg (by rw [show vld 3 l = false from hl 3 (by omega) (by omega)]; simp)]
theorem low_succ {l : List UInt8} {q : Nat} (hl : low l q) (h : vld q l = false) : low l (q + 1) := fun k h1 h2 => by
  by_cases hk : k = q
  · subst hk; exact h
  · exact hl k h1 (by omega)
def bout (r : Int × List UInt8 × Int) : Ending := .returned (.tuple #[.agg #[.int .i64 r.1, .string ⟨r.2.1.toArray⟩], .int .i64 r.2.2])
theorem best_p (s : ByteArray) (w : World) (hs : s.size ≤ 100000) :
    Calls Try.prog 26 #[.string s] w fun e w' => e = bout (best (bl s)) ∧ Below w.heap.size w w' := by
  have hbx : Below w.heap.size w (w.alloc (.cells #[.int .i64 0, .string ⟨#[]⟩] 23)) := (Below.refl _ _).alloc (Nat.le_refl _) _
  have hst : (w.alloc (.cells #[.int .i64 0, .string ⟨#[]⟩] 23)).heap[w.heap.size]? = some (.cells #[.int .i64 0, .string ⟨#[]⟩] 23 (0, 0)) := heap_alloc_new w _
  have hsz := lt_of_some hst
  have HB := Lib.hid (show True from trivial)
  obtain ⟨R, hR⟩ : ∃ R, R = best (bl s) := ⟨_, rfl⟩
  rw [← hR]
  have HR := Lib.hid hR
  clear hR HB
  go_enter Try.func26, Try.ntmps26
  go_wp2_with fail
  generalize w.alloc (.cells #[.int .i64 0, .string ⟨#[]⟩] 23) = w1 at *
  go_loopw [4] (fun i wr => ∃ q : Nat, 1 ≤ q ∧ q ≤ 4 ∧ i = .int .i64 q ∧ low (bl s) q ∧ Below w1.heap.size w1 wr) (fun i _ => 4 - (intOf i).toNat)
  case atStart => exact ⟨1, by omega, by omega, rfl, fun k h1 h2 => by omega, Below.refl _ _⟩
  case round =>
    obtain ⟨q, h1, h4, rfl, hlow, hbel⟩ := hrel
    have HLOW := Lib.hid hlow
    clear hlow
    have hz := hbel.size
    by_cases h3 : q ≤ 3
    · have hst2 := (hbel.block w.heap.size hsz).trans hst
      go_wp2_with fail
      refine (valid_p q s _ hs).mono ?_
      rintro e w2 ⟨rfl, hb2⟩
      have hst3 := (hb2.block w.heap.size (by omega)).trans hst2
      have hz2 := hb2.size
      have hbel2 : Below w1.heap.size w1 w2 := hbel.trans (hb2.mono hz)
      rcases hv : vld (q : Int) (bl s) with _ | _
      · have HL2 := Lib.hid (low_succ HLOW.out hv)
        clear hv hst3
        go_wp2_with fail
        exact ⟨⟨q + 1, by omega, by omega, by go_num, HL2.out, hbel2⟩, by simp [intOf]; omega⟩
      · have hbest := best_yes HLOW.out h1 h3 hv
        have HBB := Lib.hid hbest
        clear hv hbest
        go_wp2_with fail
        refine (clone_any s _ hs).mono ?_
        rintro e w3 ⟨rfl, hb3⟩
        obtain ⟨c0, c1, hf⟩ := pair_cells ((hb3.block w.heap.size (by omega)).trans hst3)
        have f0 := hf 0
        have f1 := hf 1
        have d1 : (w3.setCell ⟨w.heap.size, 0, none⟩ (.int .i64 (q : Int))).cell? ⟨w.heap.size, 1, none⟩ = some (.string ⟨#[]⟩) := by
          rw [World.cell?_setCell_other _ _ _ _ (by simp)]; exact c1
        have hbz : Below w.heap.size w w3 := hbx.trans ((hbel2.trans (hb3.mono (by omega))).mono (by omega))
        clear hf hst hst2 hst3
        go_wp2_with fail
        refine bodyPost_ret (v := .tuple #[.agg #[.int .i64 (q : Int), .string s], .int .i64 0]) ?_ rfl ⟨?_, ?_⟩
        · have e0 := World.cell?_setCell_same (v := .int .i64 (q : Int)) w3 _ c0
          have e1 := World.cell?_setCell_same (v := .string s) _ _ d1
          simp [results, Try.results26, go_sem, e0, e1]
        · rw [HR.out, HBB.out]
          unfold bout
          simp only [mk_bl]
        · exact (hbz.setCell (p := ⟨w.heap.size, 0, none⟩) (Nat.le_refl _) _).setCell (p := ⟨w.heap.size, 1, none⟩) (Nat.le_refl _) _
    · obtain rfl : q = 4 := by omega
      have hbest := best_no HLOW.out
      have HBB := Lib.hid hbest
      clear hbest
      obtain ⟨c0, c1, hf⟩ := pair_cells ((hbel.block w.heap.size hsz).trans hst)
      have f0 := hf 0
      have f1 := hf 1
      have d1 : (wr.setCell ⟨w.heap.size, 0, none⟩ (.int .i64 0)).cell? ⟨w.heap.size, 1, none⟩ = some (.string ⟨#[]⟩) := by
        rw [World.cell?_setCell_other _ _ _ _ (by simp)]; exact c1
      have hbz : Below w.heap.size w wr := hbx.trans (hbel.mono (by omega))
      clear hf hst
      go_wp2_with fail
      refine bodyPost_ret (v := .tuple #[.agg #[.int .i64 0, .string ⟨#[]⟩], .int .i64 6]) ?_ rfl ⟨?_, ?_⟩
      · have e0 := World.cell?_setCell_same (v := .int .i64 0) wr _ c0
        have e1 := World.cell?_setCell_same (v := .string ⟨#[]⟩) _ _ d1
        simp [results, Try.results26, go_sem, e0, e1]
      · rw [HR.out, HBB.out]; rfl
      · exact (hbz.setCell (p := ⟨w.heap.size, 0, none⟩) (Nat.le_refl _) _).setCell (p := ⟨w.heap.size, 1, none⟩) (Nat.le_refl _) _
end Go.Proofs.Ytkhdldemhaifpaa.Fa
