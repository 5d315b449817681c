/- Walks: the reference's best field. -/
import Derived.Test.YtkhdldemhaifpaaF2s
import Derived.Test.YtkhdldemhaifpaaFh
namespace Go.Proofs.Ytkhdldemhaifpaa.F2b
open Go.RowKit Go.Proofs.Ytkhdldemhaifpaa.Mem Go.Proofs.Ytkhdldemhaifpaa.F2p Go.Proofs.Ytkhdldemhaifpaa.Fa
set_option maxRecDepth 100000
set_option maxHeartbeats 1000000

theorem heap_two {w : World} {g : Nat} {u v x y : Value} {t : TypeId} (h : w.heap[g]? = some (.cells #[u, v] t (0, 0))) : ((w.setCell ⟨g, 0, none⟩ x).setCell ⟨g, 1, none⟩ y).heap[g]? = some (.cells #[x, y] t (0, 0)) := by
  have h1 := heap_setCell_same w g 0 _ _ x h
  have h2 := heap_setCell_same _ g 1 _ _ y h1
  exact h2
theorem heap_two_far {w : World} {g k : Nat} {x y : Value} {o : Obj} (h : w.heap[k]? = some o) (hne : k ≠ g) : ((w.setCell ⟨g, 0, none⟩ x).setCell ⟨g, 1, none⟩ y).heap[k]? = some o := by
  rw [heap_setCell_other _ ⟨g, 1, none⟩ _ _ (fun e => by simp at e; omega), heap_setCell_other _ ⟨g, 0, none⟩ _ _ (fun e => by simp at e; omega)]
  exact h
theorem dat_least (l : List UInt8) {p q : Nat} (h1 : 1 ≤ p) (hpq : p ≤ q) (h3 : q ≤ 3) : (dat (p : Int) l).length ≤ (dat (q : Int) l).length := by
  rw [dat_len, dat_len]
  have hp : p = 1 ∨ p = 2 ∨ p = 3 := by omega
  have hq : q = 1 ∨ q = 2 ∨ q = 3 := by omega
  rcases hp with rfl | rfl | rfl <;> rcases hq with rfl | rfl | rfl <;> simp [sixB] <;> omega
/-- What the loop has found: nothing yet, or a kind. -/
def Found (l : List UInt8) (s : ByteArray) (q : Nat) (n : Int) (k : Int) (t : ByteArray) : Prop :=
  (n = -1 ∧ k = 0 ∧ t = ⟨#[]⟩ ∧ low l q) ∨ ∃ p : Nat, 1 ≤ p ∧ p < q ∧ p ≤ 3 ∧ low l p ∧ vld (p : Int) l = true ∧ n = ((dat (p : Int) l).length : Int) ∧ k = (p : Int) ∧ t = s
theorem best_r (s : ByteArray) (w : World) (hs : s.size ≤ 100000) :
    Calls Try.prog 27 #[.string s] w fun e w' => e = bout (best (bl s)) ∧ Below w.heap.size w w' := by
  have hbx : Below w.heap.size w ((w.alloc (.cells #[.int .i64 0, .string ⟨#[]⟩] 23)).alloc (.cells #[.int .i64 0, .string ⟨#[]⟩] 23)) := ((Below.refl _ _).alloc (Nat.le_refl _) _).alloc (by simp) _
  have hst : ((w.alloc (.cells #[.int .i64 0, .string ⟨#[]⟩] 23)).alloc (.cells #[.int .i64 0, .string ⟨#[]⟩] 23)).heap[w.heap.size]? = some (.cells #[.int .i64 0, .string ⟨#[]⟩] 23 (0, 0)) := (Below.heap_alloc _ _ _ (by simp)).trans (heap_alloc_new w _)
  have hsu : ((w.alloc (.cells #[.int .i64 0, .string ⟨#[]⟩] 23)).alloc (.cells #[.int .i64 0, .string ⟨#[]⟩] 23)).heap[w.heap.size + 1]? = some (.cells #[.int .i64 0, .string ⟨#[]⟩] 23 (0, 0)) := by
    have := heap_alloc_new (w.alloc (.cells #[.int .i64 0, .string ⟨#[]⟩] 23)) (.cells #[.int .i64 0, .string ⟨#[]⟩] 23)
    simpa using this
  obtain ⟨R, hR⟩ : ∃ R, R = best (bl s) := ⟨_, rfl⟩
  rw [← hR]
  have HR := Lib.hid hR
  clear hR
  go_enter Try.func27, Try.ntmps27
  go_wp2_with fail
  have hne : w.heap.size ≠ w.heap.size + 1 := by omega
  have hlt : w.heap.size ≤ w.heap.size + 1 := by omega
  generalize w.heap.size + 1 = B at *
  generalize (w.alloc (.cells #[.int .i64 0, .string ⟨#[]⟩] 23)).alloc (.cells #[.int .i64 0, .string ⟨#[]⟩] 23) = w1 at *
  go_loopw [5, 6] (fun v i wr => ∃ (q : Nat) (n k : Int) (t : ByteArray), 1 ≤ q ∧ q ≤ 4 ∧ i = .int .i64 q ∧ v = .int .i64 n ∧ Found (bl s) s q n k t ∧ wr.heap[w.heap.size]? = some (.cells #[.int .i64 0, .string ⟨#[]⟩] 23 (0, 0)) ∧ wr.heap[B]? = some (.cells #[.int .i64 k, .string t] 23 (0, 0)) ∧ Below w.heap.size w wr) (fun _ i _ => 4 - (intOf i).toNat)
  case atStart => exact ⟨1, -1, 0, ⟨#[]⟩, by omega, by omega, rfl, rfl, .inl ⟨rfl, rfl, rfl, fun k h1 h2 => by omega⟩, hst, hsu, hbx⟩
  case round =>
    clear hst hsu hbx
    obtain ⟨q, n, k, t, h1, h4, rfl, rfl, hfo, hst, hsu, hbel⟩ := hrel
    have HFO := Lib.hid hfo
    clear hfo
    have hz := hbel.size
    by_cases h3 : q ≤ 3
    · go_wp2_with fail
      have hst2 := (Below.heap_alloc wr (.cells #[.int .i64 (q : Int), .string s] 23) _ (lt_of_some hst)).trans hst
      have hsu2 := (Below.heap_alloc wr (.cells #[.int .i64 (q : Int), .string s] 23) _ (lt_of_some hsu)).trans hsu
      have hsv2 : (wr.alloc (.cells #[.int .i64 (q : Int), .string s] 23)).heap[wr.heap.size]? = some (.cells #[.int .i64 (q : Int), .string s] 23 (0, 0)) := heap_alloc_new wr _
      have hb2 : Below w.heap.size w (wr.alloc (.cells #[.int .i64 (q : Int), .string s] 23)) := hbel.alloc hz _
      have hFB : wr.heap.size ≠ B := fun e => by have := lt_of_some hsu; omega
      generalize wr.alloc (.cells #[.int .i64 (q : Int), .string s] 23) = w2 at *
      generalize wr.heap.size = F at *
      clear hst hsu hbel
      refine (F2r.valid_any q s w2 hs).mono ?_
      rintro e w3 ⟨rfl, hb3⟩
      have hst3 := (hb3.block _ (lt_of_some hst2)).trans hst2
      have hsu3 := (hb3.block _ (lt_of_some hsu2)).trans hsu2
      have hsv3 := (hb3.block _ (lt_of_some hsv2)).trans hsv2
      have hbw3 : Below w.heap.size w w3 := hb2.trans (hb3.mono hb2.size)
      clear hst2 hsu2 hsv2 hb2 hb3
      rcases hv : vld (q : Int) (bl s) with _ | _
      · have HF2 : Found (bl s) s (q + 1) n k t := by
          rcases HFO.out with ⟨a1, a2, a3, a4⟩ | ⟨p, p1, p2, p3, p4, p5, p6, p7, p8⟩
          · exact .inl ⟨a1, a2, a3, low_succ a4 hv⟩
          · exact .inr ⟨p, p1, by omega, p3, p4, p5, p6, p7, p8⟩
        have HF3 := Lib.hid HF2
        clear hv HF2 hFB
        go_wp2_with fail
        exact ⟨⟨q + 1, n, k, t, by omega, by omega, by go_num, rfl, HF3.out, hst3, hsu3, hbw3⟩, by simp [intOf]; omega⟩
      · obtain ⟨c0, c1, -⟩ := pair_cells hsv3
        go_wp2_with fail
        refine (F2s.data_any q s w3 hv hs).mono ?_
        rintro e w4 ⟨A, m, c, rfl, -, s4, hb4⟩
        have hst4 := (hb4.block _ (lt_of_some hst3)).trans hst3
        have hsu4 := (hb4.block _ (lt_of_some hsu3)).trans hsu3
        have hsv4 := (hb4.block _ (lt_of_some hsv3)).trans hsv3
        have hbw4 : Below w.heap.size w w4 := hbw3.trans (hb4.mono hbw3.size)
        have hm := s4.len
        have hm63 : m ≤ 63 := by rw [hm]; exact (vld_dat hv).1
        clear hst3 hsu3 hsv3 hbw3 hb4 c0 c1
        rcases HFO.out with ⟨a1, a2, a3, a4⟩ | ⟨p, p1, p2, p3, p4, p5, p6, p7, p8⟩
        · subst a1 a2 a3
          have HF3 := Lib.hid (show Found (bl s) s (q + 1) (m : Int) (q : Int) s from .inr ⟨q, h1, by omega, h3, a4, hv, by rw [hm], rfl, rfl⟩)
          obtain ⟨c0, c1, -⟩ := pair_cells hsv4
          obtain ⟨k0, k1, kf⟩ := pair_cells hsu4
          have kf0 := kf 0
          have kf1 := kf 1
          have k1' : ∀ v, (w4.setCell ⟨B, 0, none⟩ v).cell? ⟨B, 1, none⟩ = some (.string ⟨#[]⟩) := fun v => by
            rw [World.cell?_setCell_other _ _ _ _ (by simp)]; exact k1
          have HS4 := Lib.hid hst4
          have HU4 := Lib.hid hsu4
          clear hv hm a4 kf s4 hsv4 hst4 hsu4
          go_wp2_with fail
          exact ⟨⟨q + 1, _, _, s, by omega, by omega, by go_num, rfl, HF3.out, heap_two_far HS4.out hne, heap_two HU4.out, (hbw4.setCell (p := ⟨B, 0, none⟩) hlt _).setCell (p := ⟨B, 1, none⟩) hlt _⟩, by simp [intOf]; omega⟩
        · have hle := dat_least (bl s) p1 (by omega : p ≤ q) h3
          have hnn : n ≤ (m : Int) := by rw [p6, hm]; omega
          have hn0 : 0 ≤ n := by rw [p6]; omega
          have HF3 := Lib.hid (show Found (bl s) s (q + 1) n k t from .inr ⟨p, p1, by omega, p3, p4, p5, p6, p7, p8⟩)
          clear hv hm s4 hsv4 hle p4 p5 p6 p7 p8
          go_wp2_with fail
          exact ⟨⟨q + 1, n, k, t, by omega, by omega, by go_num, rfl, HF3.out, hst4, hsu4, hbw4⟩, by simp [intOf]; omega⟩
    · obtain rfl : q = 4 := by omega
      obtain ⟨r0, r1, rf⟩ := pair_cells hst
      obtain ⟨k0, k1, -⟩ := pair_cells hsu
      have rf0 := rf 0
      have rf1 := rf 1
      have r1' : ∀ v, (wr.setCell ⟨w.heap.size, 0, none⟩ v).cell? ⟨w.heap.size, 1, none⟩ = some (.string ⟨#[]⟩) := fun v => by
        rw [World.cell?_setCell_other _ _ _ _ (by simp)]; exact r1
      clear rf hst hsu
      rcases HFO.out with ⟨a1, a2, a3, a4⟩ | ⟨p, p1, p2, p3, p4, p5, p6, p7, p8⟩
      · subst a1 a2 a3
        have hbest := Lib.hid (best_no a4)
        clear a4
        go_wp2_with fail
        refine bodyPost_ret (v := .tuple #[.agg #[.int .i64 0, .string ⟨#[]⟩], .int .i64 6]) ?_ rfl ⟨?_, ?_⟩
        · have e0 := fun v => World.cell?_setCell_same (v := v) wr _ r0
          have e1 := fun u v => World.cell?_setCell_same (v := v) _ _ (r1' u)
          simp [results, Try.results27, go_sem, e0, e1]
        · rw [HR.out, hbest.out]; rfl
        · exact (hbel.setCell (p := ⟨w.heap.size, 0, none⟩) (Nat.le_refl _) _).setCell (p := ⟨w.heap.size, 1, none⟩) (Nat.le_refl _) _
      · have hn0 : ¬ (n < 0) := by rw [p6]; omega
        have hbest := Lib.hid (best_yes p4 p1 p3 p5)
        subst p7 p8
        clear p4 p5 p6
        go_wp2_with fail
        refine bodyPost_ret (v := .tuple #[.agg #[.int .i64 (p : Int), .string t], .int .i64 0]) ?_ rfl ⟨?_, ?_⟩
        · have e0 := fun v => World.cell?_setCell_same (v := v) wr _ r0
          have e1 := fun u v => World.cell?_setCell_same (v := v) _ _ (r1' u)
          simp [results, Try.results27, go_sem, e0, e1]
        · rw [HR.out, hbest.out]
          unfold bout
          simp only [mk_bl]
        · exact (hbel.setCell (p := ⟨w.heap.size, 0, none⟩) (Nat.le_refl _) _).setCell (p := ⟨w.heap.size, 1, none⟩) (Nat.le_refl _) _
end Go.Proofs.Ytkhdldemhaifpaa.F2b
