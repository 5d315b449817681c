/- Walks: the dice's fixed-point numbers. -/
import Derived.Test.YtekhpcfggbegaaaS26
import Derived.Test.YtekhpcfggbegaaaS02
namespace Go.Proofs.Ytekhpcfggbegaaa.Made
open Go.RowKit Go.Proofs.Ytekhpcfggbegaaa.Mem Go.Proofs.Ytekhpcfggbegaaa.F2p
set_option maxRecDepth 100000
set_option maxHeartbeats 1000000

def mlims : Array Value := #[.int .i64 0, .int .i64 1, .int .i64 (-1), .int .i64 1000000, .int .i64 (-1000000), .int .i64 1000000000000, .int .i64 (-1000000000000), .int .i64 500000]
theorem mlims_at (r : Nat) (h : r < 8) : ∃ x : Int, mlims[r]? = some (.int .i64 x) ∧ -1000000000000 ≤ x ∧ x ≤ 1000000000000 := by
  match r, h with
  | 0, _ => exact ⟨0, rfl, by omega, by omega⟩
  | 1, _ => exact ⟨1, rfl, by omega, by omega⟩
  | 2, _ => exact ⟨-1, rfl, by omega, by omega⟩
  | 3, _ => exact ⟨1000000, rfl, by omega, by omega⟩
  | 4, _ => exact ⟨-1000000, rfl, by omega, by omega⟩
  | 5, _ => exact ⟨1000000000000, rfl, by omega, by omega⟩
  | 6, _ => exact ⟨-1000000000000, rfl, by omega, by omega⟩
  | 7, _ => exact ⟨500000, rfl, by omega, by omega⟩
theorem Dz.micro {w : World} {g n c : Nat} {A : Option Addr} {l : List Int} (h : Dz w g A n c l) :
    Calls Try.prog 87 #[.pointer (some ⟨g, 0, none⟩)] w fun e w' => ∃ x : Int, e = .returned (.int .i64 x) ∧ (-1000000000000 ≤ x ∧ x ≤ 1000000000000) ∧ Dz w' g A n c l ∧ w.grownBy w' (some g) := by
  have hlt := h.lt
  have hal0 := World.grownBy_alloc w (.cells mlims 164) (some g)
  have hd0 := h.grown (World.grownBy_alloc w (.cells mlims 164) none) (by simp) (fun k hk => by cases hk)
  have hst0 : (w.alloc (.cells mlims 164)).heap[w.heap.size]? = some (.cells mlims 164 (0, 0)) := heap_alloc_new w _
  have hsz0 : w.heap.size < (w.alloc (.cells mlims 164)).heap.size := by simp
  clear h
  go_enter Try.func87, Try.ntmps87
  go_wp2_with fail
  refine (hd0.next 3 (by omega) (by omega)).mono ?_
  rintro e w2 ⟨r, hr, rfl, hd2, hg2⟩
  have hst2 := (hg2.block w.heap.size hsz0 (fun e => by injection e; omega)).trans hst0
  have hgw2 := grown_trans hal0 hg2
  have hsz2 : w.heap.size < w2.heap.size := Nat.lt_of_lt_of_le hsz0 hg2.size
  clear hd0 hst0 hal0 hg2 hsz0
  by_cases r0 : r = 0
  · subst r0
    go_wp2_with fail
    refine (hd2.next 8 (by omega) (by omega)).mono ?_
    rintro e w3 ⟨q, hq, rfl, hd3, hg3⟩
    have hst3 := (hg3.block w.heap.size hsz2 (fun e => by injection e; omega)).trans hst2
    obtain ⟨x, hx, x1, x2⟩ := mlims_at q hq
    have hcell : w3.cell? ⟨w.heap.size, q, none⟩ = some (.int .i64 x) := (cell_of_row w3 w.heap.size q _ _ _ hst3).trans hx
    have b1 : (0 : Int) ≤ (q : Int) := by omega
    have b2 : (q : Int) < 8 := by omega
    clear hx hst3 hst2
    go_wp2_with fail
    go_ret
    exact ⟨x, rfl, ⟨x1, x2⟩, hd3, grown_trans hgw2 hg3⟩
  by_cases r1 : r = 1
  · subst r1
    go_wp2_with fail
    refine (hd2.next 2000001 (by omega) (by omega)).mono ?_
    rintro e w3 ⟨q, hq, rfl, hd3, hg3⟩
    go_wp2_with fail
    go_ret
    exact ⟨_, rfl, ⟨by omega, by omega⟩, hd3, grown_trans hgw2 hg3⟩
  have t0 : ((r : Int) == 0) = false := by rw [beq_eq_false_iff_ne]; omega
  have t1 : ((r : Int) == 1) = false := by rw [beq_eq_false_iff_ne]; omega
  clear hst2
  go_wp2_with fail
  refine (hd2.next 2000001 (by omega) (by omega)).mono ?_
  rintro e w3 ⟨q, hq, rfl, hd3, hg3⟩
  go_wp2_with fail
  refine (hd3.next 1000 (by omega) (by omega)).mono ?_
  rintro e w4 ⟨p, hp, rfl, hd4, hg4⟩
  obtain ⟨m1, m2⟩ := M3p.mul_le (a := ((q : Int) - 1000000) * 1000) (b := 1 + (p : Int)) (c := 1000000000) (d := 1000) (by omega) (by omega) (by omega) (by omega)
  go_wp2_with fail
  go_ret
  exact ⟨_, rfl, ⟨by omega, by omega⟩, hd4, grown_trans hgw2 (grown_trans hg3 hg4)⟩
end Go.Proofs.Ytekhpcfggbegaaa.Made
