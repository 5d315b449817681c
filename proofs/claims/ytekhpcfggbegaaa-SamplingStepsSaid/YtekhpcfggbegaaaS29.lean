/- Walks: the dice's entities; bits of masks; the mathematics of the dice's thresholds. -/
import Derived.Test.YtekhpcfggbegaaaS22
import Derived.Test.YtekhpcfggbegaaaS28
namespace Go.Proofs.Ytekhpcfggbegaaa.Tl
open Go.RowKit Go.Proofs.Ytekhpcfggbegaaa.Mem Go.Proofs.Ytekhpcfggbegaaa.F2p Go.Proofs.Ytekhpcfggbegaaa.Made Go.Proofs.Ytekhpcfggbegaaa.C4l Go.Proofs.Ytekhpcfggbegaaa.D5 Go.Proofs.Ytekhpcfggbegaaa.Ta Go.Proofs.Ytekhpcfggbegaaa.Tb
set_option maxRecDepth 100000
set_option maxHeartbeats 1000000

theorem has_r (m i : Nat) (hm : m < 65536) (hi : i ≤ 16) (w : World) : Calls Try.prog 88 #[.int .u16 (m : Int), .int .i64 (i : Int)] w fun e w' => e = .returned (.bool (has m i)) ∧ w = w' := by
  have h2 : (m : Int) / 2 ^ i % 2 = ((m / 2 ^ i % 2 : Nat) : Int) := by rw [Int.natCast_emod, Int.natCast_ediv, Int.natCast_pow]; rfl
  have hl : m / 2 ^ i ≤ m := Nat.div_le_self _ _
  have h3 : (m : Int) / 2 ^ i = ((m / 2 ^ i : Nat) : Int) := by rw [Int.natCast_ediv, Int.natCast_pow]; rfl
  unfold has
  rw [h3] at h2
  generalize m / 2 ^ i = q at *
  have hq : q < 65536 := by omega
  generalize q % 2 = R at *
  clear hl
  go_enter Try.func88, Try.ntmps88
  go_wp2_with fail
  go_ret
  exact ⟨ret_bool (by rw [Bool.eq_iff_iff]; simp; try omega), rfl⟩
/-- What the dice's Entity leaves. -/
def Ent (w : World) (g n c : Nat) (A : Option Addr) (l : List Int) (e : Ending) (w' : World) : Prop := ∃ x y : UInt8, e = .returned (.agg #[.int .u8 (x.toNat : Int), .int .u8 (y.toNat : Int)]) ∧ Dz w' g A n c l ∧ w.grownBy w' (some g)
theorem u8_int (q : Nat) (h : q < 256) : ∃ x : UInt8, (q : Int) = (x.toNat : Int) := ⟨UInt8.ofNat q, by rw [UInt8.toNat_ofNat', Nat.mod_eq_of_lt h]⟩
theorem entity_any {w : World} {g n c : Nat} {A : Option Addr} {l : List Int} (h : Dz w g A n c l) :
    Calls Try.prog 51 #[.pointer (some ⟨g, 0, none⟩)] w (Ent w g n c A l) := by
  have hlt := h.lt
  have hal0 := World.grownBy_alloc w (.cells #[.int .u8 0, .int .u8 0] 23) (some g)
  have hd0 := h.grown (World.grownBy_alloc w (.cells #[.int .u8 0, .int .u8 0] 23) none) (by simp) (fun k hk => by cases hk)
  have hst0 : (w.alloc (.cells #[.int .u8 0, .int .u8 0] 23)).heap[w.heap.size]? = some (.cells #[.int .u8 0, .int .u8 0] 23 (0, 0)) := heap_alloc_new w _
  clear h
  go_enter Try.func51, Try.ntmps51
  go_wp2_with fail
  refine (hd0.next 4 (by omega) (by omega)).mono ?_
  rintro e w2 ⟨q, hq, rfl, hd2, hg2⟩
  have hst2 := (hg2.block w.heap.size (lt_of_some hst0) (fun e => by injection e; omega)).trans hst0
  have hgw2 := grown_trans hal0 hg2
  clear hd0 hal0 hst0 hg2
  go_wp2_with fail
  refine (hd2.next 2 (by omega) (by omega)).mono ?_
  rintro e w3 ⟨q2, hq2, rfl, hd3, hg3⟩
  have hst3 := (hg3.block w.heap.size (lt_of_some hst2) (fun e => by injection e; omega)).trans hst2
  have hgw3 := grown_trans hgw2 hg3
  have f0 : w3.frozen? ⟨w.heap.size, 0, none⟩ = false := frozen_of_row w3 _ 0 _ _ hst3
  have f1 : w3.frozen? ⟨w.heap.size, 1, none⟩ = false := frozen_of_row w3 _ 1 _ _ hst3
  have c0 : w3.cell? ⟨w.heap.size, 0, none⟩ = some (.int .u8 0) := cell_of_row w3 _ 0 _ _ _ hst3
  have c1 : w3.cell? ⟨w.heap.size, 1, none⟩ = some (.int .u8 0) := cell_of_row w3 _ 1 _ _ _ hst3
  obtain ⟨x, hx⟩ := u8_int (1 + q) (by omega)
  obtain ⟨y, hy⟩ := u8_int q2 (by omega)
  have G1 := set_grown w3 w.heap.size 0 (.int .u8 (1 + (q : Int)))
  have B1 := heap_setCell_same w3 w.heap.size 0 _ _ (.int .u8 (1 + (q : Int))) hst3
  have G2 := set_grown (w3.setCell ⟨w.heap.size, 0, none⟩ (.int .u8 (1 + (q : Int)))) w.heap.size 1 (.int .u8 (q2 : Int))
  have B2 := heap_setCell_same (w3.setCell ⟨w.heap.size, 0, none⟩ (.int .u8 (1 + (q : Int)))) w.heap.size 1 _ _ (.int .u8 (q2 : Int)) B1
  have hd5 := hd3.grown (grown_trans G1 G2) (fun e => by injection e; omega) (fun k hk => by injection hk; omega)
  have hg5 := grown_new (grown_new hgw3 G1 (fun b hb => by injection hb; omega)) G2 (fun b hb => by injection hb; omega)
  have P := Lib.hid (And.intro hd5 (And.intro hg5 B2))
  have HX := Lib.hid hx
  have HY := Lib.hid hy
  clear hd2 hst2 hgw2 hg3 hd3 hgw3 hst3 G1 B1 G2 B2 hd5 hg5 hx hy
  go_wp2_with fail
  refine bodyPost_ret (results_cell_row Try.results51 _ _ w.heap.size _ _ _ _ rfl P.out.2.2 Try.underlying23 rfl (by kernel_rfl)) rfl ⟨x, y, ?_, P.out.1, P.out.2.1⟩
  rw [← HX.out, ← HY.out]; push_cast; rfl
end Go.Proofs.Ytekhpcfggbegaaa.Tl
