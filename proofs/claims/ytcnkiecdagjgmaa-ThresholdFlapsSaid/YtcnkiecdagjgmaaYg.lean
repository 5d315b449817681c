/- Walks: the sanity check of layer 12. -/
import Derived.Test.YtcnkiecdagjgmaaYf
import Derived.Deep.RegionHeld3
namespace Go.Proofs.Ytcnkiecdagjgmaa.Ya
open Go.RowKit Go.Proofs.Ytcnkiecdagjgmaa.Mem Go.Proofs.Ytcnkiecdagjgmaa.F2p Go.Proofs.Ytcnkiecdagjgmaa.C4l Go.Proofs.Ytcnkiecdagjgmaa.Ta Go.Proofs.Ytcnkiecdagjgmaa.Tb
set_option maxRecDepth 100000
set_option maxHeartbeats 1000000

theorem ex_valid : (vs snX && !snX.d) = true := by decide +kernel
theorem ex_step (st : Nat) (raw : UInt8) (nx : Nat) (hst : st < 256) (h1 : andn8 st snX.mx.toNat = 0) (h2 : nxt snX (C4p.num false raw) st = nx) (w : World) :
    Calls Try.prog 21 #[.agg (cells snX (.slice none 0 0)), .int .u8 (st : Int), .int .u8 (raw.toNat : Int)] w fun e w' => (∃ v, e = .returned (.tuple #[.int .u8 (nx : Int), v, .int .i64 0])) ∧ Below w.heap.size w w' := by
  refine (step_q snX none 0 0 st hst raw w PSl.none (show (1 : Nat) ≤ maxLen by unfold maxLen; omega)).mono ?_
  rintro e w' ⟨hb, h⟩
  rw [if_neg (by rw [ex_valid]; simp), if_neg (by simpa using h1)] at h
  obtain ⟨v, he, -⟩ := h
  refine ⟨⟨v, ?_⟩, hb⟩
  rw [← h2]; exact he
theorem ex_steps (w : World) : Calls Try.prog 21 #[.agg (cells snX (.slice none 0 0)), .int .u8 0, .int .u8 85] w (fun e w' => (∃ v, e = .returned (.tuple #[.int .u8 8, v, .int .i64 0])) ∧ Below w.heap.size w w') ∧
    Calls Try.prog 21 #[.agg (cells snX (.slice none 0 0)), .int .u8 8, .int .u8 95] w (fun e w' => (∃ v, e = .returned (.tuple #[.int .u8 24, v, .int .i64 0])) ∧ Below w.heap.size w w') ∧
    Calls Try.prog 21 #[.agg (cells snX (.slice none 0 0)), .int .u8 24, .int .u8 89] w (fun e w' => (∃ v, e = .returned (.tuple #[.int .u8 24, v, .int .i64 0])) ∧ Below w.heap.size w w') ∧
    Calls Try.prog 21 #[.agg (cells snX (.slice none 0 0)), .int .u8 24, .int .u8 88] w (fun e w' => (∃ v, e = .returned (.tuple #[.int .u8 24, v, .int .i64 0])) ∧ Below w.heap.size w w') ∧
    Calls Try.prog 21 #[.agg (cells snX (.slice none 0 0)), .int .u8 24, .int .u8 87] w (fun e w' => (∃ v, e = .returned (.tuple #[.int .u8 8, v, .int .i64 0])) ∧ Below w.heap.size w w') :=
  ⟨ex_step 0 85 8 (by omega) (by decide +kernel) (by decide +kernel) w,
   ex_step 8 95 24 (by omega) (by decide +kernel) (by decide +kernel) w,
   ex_step 24 89 24 (by omega) (by decide +kernel) (by decide +kernel) w,
   ex_step 24 88 24 (by omega) (by decide +kernel) (by decide +kernel) w,
   ex_step 24 87 8 (by omega) (by decide +kernel) (by decide +kernel) w⟩
theorem awake_q (w : World) : Calls Try.prog 16 #[] w fun e w' => e = .returned (.bool true) ∧ Below w.heap.size w w' := by
  have HEX := Lib.hid fun (u : World) => example_q u
  have HST := Lib.hid fun (u : World) => ex_steps u
  have hb0 : Below w.heap.size w (w.alloc (.cells #[.int .u8 85, .int .u8 95, .int .u8 89, .int .u8 88, .int .u8 87] 102)) := (Below.refl _ _).alloc (Nat.le_refl _) _
  have hb1 := hb0.alloc hb0.size (.cells #[.int .u8 8, .int .u8 24, .int .u8 24, .int .u8 24, .int .u8 8] 102)
  have hr1 : (w.alloc (.cells #[.int .u8 85, .int .u8 95, .int .u8 89, .int .u8 88, .int .u8 87] 102)).heap[w.heap.size]? = some (.cells #[.int .u8 85, .int .u8 95, .int .u8 89, .int .u8 88, .int .u8 87] 102 (0, 0)) := heap_alloc_new w _
  have hr2 := (heap_alloc_old (w.alloc (.cells #[.int .u8 85, .int .u8 95, .int .u8 89, .int .u8 88, .int .u8 87] 102)) (.cells #[.int .u8 8, .int .u8 24, .int .u8 24, .int .u8 24, .int .u8 8] 102) (show w.heap.size < _ by rw [World.size_alloc]; omega)).trans hr1
  have hw2 : ((w.alloc (.cells #[.int .u8 85, .int .u8 95, .int .u8 89, .int .u8 88, .int .u8 87] 102)).alloc (.cells #[.int .u8 8, .int .u8 24, .int .u8 24, .int .u8 24, .int .u8 8] 102)).heap[w.heap.size + 1]? = some (.cells #[.int .u8 8, .int .u8 24, .int .u8 24, .int .u8 24, .int .u8 8] 102 (0, 0)) := by
    have := heap_alloc_new (w.alloc (.cells #[.int .u8 85, .int .u8 95, .int .u8 89, .int .u8 88, .int .u8 87] 102)) (.cells #[.int .u8 8, .int .u8 24, .int .u8 24, .int .u8 24, .int .u8 8] 102)
    rwa [World.size_alloc] at this
  clear hr1 hb0
  go_enter Try.func16, Try.ntmps16
  go_wp2_with fail
  generalize (w.alloc (.cells #[.int .u8 85, .int .u8 95, .int .u8 89, .int .u8 88, .int .u8 87] 102)).alloc (.cells #[.int .u8 8, .int .u8 24, .int .u8 24, .int .u8 24, .int .u8 8] 102) = w1 at *
  go_loopw [1, 4] (fun v i wr => ∃ k : Nat, k ≤ 5 ∧ i = .int .i64 (k : Int) ∧ v = .int .u8 (([0, 8, 24, 24, 24, 8] : List Int).getD k 0) ∧ wr.heap[w.heap.size]? = some (.cells #[.int .u8 85, .int .u8 95, .int .u8 89, .int .u8 88, .int .u8 87] 102 (0, 0)) ∧ wr.heap[w.heap.size + 1]? = some (.cells #[.int .u8 8, .int .u8 24, .int .u8 24, .int .u8 24, .int .u8 8] 102 (0, 0)) ∧ Below w.heap.size w wr) (fun _ i _ => 5 - (intOf i).toNat)
  case atStart => exact ⟨0, by omega, rfl, rfl, hr2, hw2, hb1⟩
  case round =>
    clear hr2 hw2 hb1
    obtain ⟨k, hk, rfl, rfl, hr, hw, hb⟩ := hrel
    have hlt : w.heap.size + 1 < wr.heap.size := by
      rcases Nat.lt_or_ge (w.heap.size + 1) wr.heap.size with h1 | h1
      · exact h1
      · rw [Array.getElem?_eq_none h1] at hw; cases hw
    rcases (show k = 0 ∨ k = 1 ∨ k = 2 ∨ k = 3 ∨ k = 4 ∨ k = 5 by omega) with rfl | rfl | rfl | rfl | rfl | rfl
    · have c1 : wr.cell? ⟨w.heap.size, 0, none⟩ = some (.int .u8 85) := cell_of_row wr _ 0 _ _ _ hr
      have hS : ∀ V : World, Below wr.heap.size wr V → V.cell? ⟨w.heap.size, 0, none⟩ = some (.int .u8 85) := fun V h => (h.cell (p := ⟨w.heap.size, 0, none⟩) (by show w.heap.size < _; omega)).trans c1
      have hq := Below.refl wr.heap.size wr
      have hq := below_drew hq
      have HS := Lib.hid hS
      have HB := Lib.hid hb
      have HR := Lib.hid hr
      have HW := Lib.hid hw
      clear hS hr hw hb
      go_wp2_with fail
      go_region_held3 (fun V => V.cell? ⟨w.heap.size, 0, none⟩ = some (.int .u8 85)) (exact HS.out _ hq)
        (first | (go_at_call 68; (with_reducible refine (HEX.out _).mono ?_); rintro e u1 ⟨rfl, hu1⟩; have hq := hq.trans (hu1.mono hq.size)) | (go_at_call 21; refine ((HST.out _).1).mono ?_; rintro e u2 ⟨⟨v2, rfl⟩, hu2⟩; have hq := hq.trans (hu2.mono hq.size)))
      have hwu : u2.heap[w.heap.size + 1]? = some (.cells #[.int .u8 8, .int .u8 24, .int .u8 24, .int .u8 24, .int .u8 8] 102 (0, 0)) := (hq.block _ hlt).trans HW.out
      have hru : u2.heap[w.heap.size]? = some (.cells #[.int .u8 85, .int .u8 95, .int .u8 89, .int .u8 88, .int .u8 87] 102 (0, 0)) := (hq.block _ (by omega)).trans HR.out
      have c2 : u2.cell? ⟨w.heap.size + 1, 0, none⟩ = some (.int .u8 8) := cell_of_row u2 _ 0 _ _ _ hwu
      have hbu := HB.out.trans (hq.mono HB.out.size)
      clear hq c1 hu1 hu2
      go_wp2_with fail
      exact ⟨⟨1, by omega, rfl, rfl, hru, hwu, hbu⟩, by simp [intOf]⟩
    · have c1 : wr.cell? ⟨w.heap.size, 1, none⟩ = some (.int .u8 95) := cell_of_row wr _ 1 _ _ _ hr
      have hS : ∀ V : World, Below wr.heap.size wr V → V.cell? ⟨w.heap.size, 1, none⟩ = some (.int .u8 95) := fun V h => (h.cell (p := ⟨w.heap.size, 1, none⟩) (by show w.heap.size < _; omega)).trans c1
      have hq := Below.refl wr.heap.size wr
      have hq := below_drew hq
      have HS := Lib.hid hS
      have HB := Lib.hid hb
      have HR := Lib.hid hr
      have HW := Lib.hid hw
      clear hS hr hw hb
      go_wp2_with fail
      go_region_held3 (fun V => V.cell? ⟨w.heap.size, 1, none⟩ = some (.int .u8 95)) (exact HS.out _ hq)
        (first | (go_at_call 68; (with_reducible refine (HEX.out _).mono ?_); rintro e u1 ⟨rfl, hu1⟩; have hq := hq.trans (hu1.mono hq.size)) | (go_at_call 21; refine ((HST.out _).2.1).mono ?_; rintro e u2 ⟨⟨v2, rfl⟩, hu2⟩; have hq := hq.trans (hu2.mono hq.size)))
      have hwu : u2.heap[w.heap.size + 1]? = some (.cells #[.int .u8 8, .int .u8 24, .int .u8 24, .int .u8 24, .int .u8 8] 102 (0, 0)) := (hq.block _ hlt).trans HW.out
      have hru : u2.heap[w.heap.size]? = some (.cells #[.int .u8 85, .int .u8 95, .int .u8 89, .int .u8 88, .int .u8 87] 102 (0, 0)) := (hq.block _ (by omega)).trans HR.out
      have c2 : u2.cell? ⟨w.heap.size + 1, 1, none⟩ = some (.int .u8 24) := cell_of_row u2 _ 1 _ _ _ hwu
      have hbu := HB.out.trans (hq.mono HB.out.size)
      clear hq c1 hu1 hu2
      go_wp2_with fail
      exact ⟨⟨2, by omega, rfl, rfl, hru, hwu, hbu⟩, by simp [intOf]⟩
    · have c1 : wr.cell? ⟨w.heap.size, 2, none⟩ = some (.int .u8 89) := cell_of_row wr _ 2 _ _ _ hr
      have hS : ∀ V : World, Below wr.heap.size wr V → V.cell? ⟨w.heap.size, 2, none⟩ = some (.int .u8 89) := fun V h => (h.cell (p := ⟨w.heap.size, 2, none⟩) (by show w.heap.size < _; omega)).trans c1
      have hq := Below.refl wr.heap.size wr
      have hq := below_drew hq
      have HS := Lib.hid hS
      have HB := Lib.hid hb
      have HR := Lib.hid hr
      have HW := Lib.hid hw
      clear hS hr hw hb
      go_wp2_with fail
      go_region_held3 (fun V => V.cell? ⟨w.heap.size, 2, none⟩ = some (.int .u8 89)) (exact HS.out _ hq)
        (first | (go_at_call 68; (with_reducible refine (HEX.out _).mono ?_); rintro e u1 ⟨rfl, hu1⟩; have hq := hq.trans (hu1.mono hq.size)) | (go_at_call 21; refine ((HST.out _).2.2.1).mono ?_; rintro e u2 ⟨⟨v2, rfl⟩, hu2⟩; have hq := hq.trans (hu2.mono hq.size)))
      have hwu : u2.heap[w.heap.size + 1]? = some (.cells #[.int .u8 8, .int .u8 24, .int .u8 24, .int .u8 24, .int .u8 8] 102 (0, 0)) := (hq.block _ hlt).trans HW.out
      have hru : u2.heap[w.heap.size]? = some (.cells #[.int .u8 85, .int .u8 95, .int .u8 89, .int .u8 88, .int .u8 87] 102 (0, 0)) := (hq.block _ (by omega)).trans HR.out
      have c2 : u2.cell? ⟨w.heap.size + 1, 2, none⟩ = some (.int .u8 24) := cell_of_row u2 _ 2 _ _ _ hwu
      have hbu := HB.out.trans (hq.mono HB.out.size)
      clear hq c1 hu1 hu2
      go_wp2_with fail
      exact ⟨⟨3, by omega, rfl, rfl, hru, hwu, hbu⟩, by simp [intOf]⟩
    · have c1 : wr.cell? ⟨w.heap.size, 3, none⟩ = some (.int .u8 88) := cell_of_row wr _ 3 _ _ _ hr
      have hS : ∀ V : World, Below wr.heap.size wr V → V.cell? ⟨w.heap.size, 3, none⟩ = some (.int .u8 88) := fun V h => (h.cell (p := ⟨w.heap.size, 3, none⟩) (by show w.heap.size < _; omega)).trans c1
      have hq := Below.refl wr.heap.size wr
      have hq := below_drew hq
      have HS := Lib.hid hS
      have HB := Lib.hid hb
      have HR := Lib.hid hr
      have HW := Lib.hid hw
      clear hS hr hw hb
      go_wp2_with fail
      go_region_held3 (fun V => V.cell? ⟨w.heap.size, 3, none⟩ = some (.int .u8 88)) (exact HS.out _ hq)
        (first | (go_at_call 68; (with_reducible refine (HEX.out _).mono ?_); rintro e u1 ⟨rfl, hu1⟩; have hq := hq.trans (hu1.mono hq.size)) | (go_at_call 21; refine ((HST.out _).2.2.2.1).mono ?_; rintro e u2 ⟨⟨v2, rfl⟩, hu2⟩; have hq := hq.trans (hu2.mono hq.size)))
      have hwu : u2.heap[w.heap.size + 1]? = some (.cells #[.int .u8 8, .int .u8 24, .int .u8 24, .int .u8 24, .int .u8 8] 102 (0, 0)) := (hq.block _ hlt).trans HW.out
      have hru : u2.heap[w.heap.size]? = some (.cells #[.int .u8 85, .int .u8 95, .int .u8 89, .int .u8 88, .int .u8 87] 102 (0, 0)) := (hq.block _ (by omega)).trans HR.out
      have c2 : u2.cell? ⟨w.heap.size + 1, 3, none⟩ = some (.int .u8 24) := cell_of_row u2 _ 3 _ _ _ hwu
      have hbu := HB.out.trans (hq.mono HB.out.size)
      clear hq c1 hu1 hu2
      go_wp2_with fail
      exact ⟨⟨4, by omega, rfl, rfl, hru, hwu, hbu⟩, by simp [intOf]⟩
    · have c1 : wr.cell? ⟨w.heap.size, 4, none⟩ = some (.int .u8 87) := cell_of_row wr _ 4 _ _ _ hr
      have hS : ∀ V : World, Below wr.heap.size wr V → V.cell? ⟨w.heap.size, 4, none⟩ = some (.int .u8 87) := fun V h => (h.cell (p := ⟨w.heap.size, 4, none⟩) (by show w.heap.size < _; omega)).trans c1
      have hq := Below.refl wr.heap.size wr
      have hq := below_drew hq
      have HS := Lib.hid hS
      have HB := Lib.hid hb
      have HR := Lib.hid hr
      have HW := Lib.hid hw
      clear hS hr hw hb
      go_wp2_with fail
      go_region_held3 (fun V => V.cell? ⟨w.heap.size, 4, none⟩ = some (.int .u8 87)) (exact HS.out _ hq)
        (first | (go_at_call 68; (with_reducible refine (HEX.out _).mono ?_); rintro e u1 ⟨rfl, hu1⟩; have hq := hq.trans (hu1.mono hq.size)) | (go_at_call 21; refine ((HST.out _).2.2.2.2).mono ?_; rintro e u2 ⟨⟨v2, rfl⟩, hu2⟩; have hq := hq.trans (hu2.mono hq.size)))
      have hwu : u2.heap[w.heap.size + 1]? = some (.cells #[.int .u8 8, .int .u8 24, .int .u8 24, .int .u8 24, .int .u8 8] 102 (0, 0)) := (hq.block _ hlt).trans HW.out
      have hru : u2.heap[w.heap.size]? = some (.cells #[.int .u8 85, .int .u8 95, .int .u8 89, .int .u8 88, .int .u8 87] 102 (0, 0)) := (hq.block _ (by omega)).trans HR.out
      have c2 : u2.cell? ⟨w.heap.size + 1, 4, none⟩ = some (.int .u8 8) := cell_of_row u2 _ 4 _ _ _ hwu
      have hbu := HB.out.trans (hq.mono HB.out.size)
      clear hq c1 hu1 hu2
      go_wp2_with fail
      exact ⟨⟨5, by omega, rfl, rfl, hru, hwu, hbu⟩, by simp [intOf]⟩
    · go_wp2_with fail
      go_ret
      exact ⟨rfl, hb⟩
end Go.Proofs.Ytcnkiecdagjgmaa.Ya
