/- Walks: a flash device of the reference: reading, a new one. -/
import Derived.Test.YtkmkpidoajfhmaaE5w
namespace Go.Proofs.Ytkmkpidoajfhmaa.E5v
open Go.RowKit Go.Proofs.Ytkmkpidoajfhmaa.Mem Go.Proofs.Ytkmkpidoajfhmaa.E5p Go.Proofs.Ytkmkpidoajfhmaa.E5m Go.Proofs.Ytkmkpidoajfhmaa.E5a
set_option maxRecDepth 100000
set_option maxHeartbeats 1000000
section
variable {base : Nat} {w : World} {d : Sh} {s : Fl}
theorem read_r (h : RDev base w d s) {m : Nat} (ok : s.Ok m) (k n : Int) (hk1 : -9223372036854775808 ≤ k) (hk2 : k ≤ 9223372036854775807) :
    Calls Try.prog 24 #[.pointer (some ⟨d.g, 0, none⟩), .int .i64 k, .int .i64 n] w (Got w (s.read k n)) := by
  have c6 := h.c6
  by_cases hd : s.down = true
  · rw [hd] at c6
    have hR : s.read k n = ([], 10) := by simp [Fl.read, hd]
    rw [hR]
    go_enter Try.func24, Try.ntmps24
    go_wp2_with fail
    go_ret2
    exact ⟨_, rfl, Own.nil, Below.refl _ _⟩
  · replace hd : s.down = false := by simpa using hd
    rw [hd] at c6
    have hlen := ok.bytes_le
    have HH := Lib.hid (fits_r h k n hk1 hk2 (by omega))
    cases hf : s.fits k n
    · rw [hf] at HH
      have hR : s.read k n = ([], 2) := by simp [Fl.read, hd, hf]
      rw [hR]
      clear hf hR
      go_enter Try.func24, Try.ntmps24
      go_wp2_with fail
      refine HH.out.mono ?_
      rintro e w1 ⟨rfl, q, rfl⟩
      go_wp2_with fail
      go_ret2
      exact ⟨_, rfl, Own.nil, below_of_drawn⟩
    · rw [hf] at HH
      obtain ⟨K, N, rfl, rfl, hKN⟩ := Fl.fits_nat hf
      have hR : s.read (K : Int) (N : Int) = ((s.bytes.drop K).take N, 0) := by simp [Fl.read, hd, hf]
      obtain ⟨R, hR'⟩ : ∃ R, R = s.read (K : Int) (N : Int) := ⟨_, rfl⟩
      rw [← hR']
      have HR := Lib.hid (hR'.trans hR)
      clear hf hR hR' hd
      obtain ⟨i0, hi, hz0, hz1, hzq⟩ := info_parts info5
      go_enter Try.func24, Try.ntmps24
      go_wp2_with fail
      refine HH.out.mono ?_
      rintro e w1 ⟨rfl, q, rfl⟩
      clear c6 HH
      go_wp2_with fail
      go_loopw [8, 9] (fun v i wr => ∃ j : Nat, j ≤ N ∧ i = .int .i64 j ∧ Own w.heap.size wr v ((s.bytes.drop K).take j) ∧ Below w.heap.size w wr) (fun _ i _ => N - (intOf i).toNat)
      case atStart => exact ⟨0, Nat.zero_le _, rfl, Own.nil, below_of_drawn⟩
      case round =>
        obtain ⟨j, hj, rfl, hown, hb⟩ := hrel
        by_cases hlt : j < N
        · have hdv := h.below hb (Nat.le_refl _)
          have c1 := hdv.c1
          have hi2 : K + j < s.bytes.length := by omega
          have hcell := own_cell hdv.bytes rfl hi2
          have u1 : (0 : Int) ≤ (K : Int) + (j : Int) := by omega
          have u2 : (K : Int) + (j : Int) < (s.bytes.length : Int) := by omega
          have u3 : ((K : Int) + (j : Int)).toNat = K + j := by omega
          have u4 : (j : Int) < (N : Int) := by omega
          have hsn : (s.bytes.drop K).take (j + 1) = (s.bytes.drop K).take j ++ [s.bytes[K + j]] := by
            rw [List.take_succ_eq_append_getElem (by simp; omega), List.getElem_drop]
          have HS := Lib.hid hsn; clear hsn
          have hl : ((s.bytes.drop K).take j).length ≤ 20000 := by simp; omega
          have hsz := hb.size
          generalize s.bytes[K + j] = y at *
          go_wp2_with (at_builtin; go_loud (refine wpList_append_rd _ rfl _ _ _ rfl w.heap.size 5 i0 _ 1 Try.underlying35 hi hz0 hz1 hzq rfl _ _ _ rfl (World.ownsRow.alloc hown _) _ _ 1 1 (bvs [y]) rfl rfl (Rd.new wr _ _) (fun hh => by cases hh) (bvs_one _) (by unfold maxLen; omega) (by omega) (by simp; omega) ?_); intro v1 w3 hown3 hg3)
          have hob : ∀ b, Value.ownBlock u8 = some b → w.heap.size ≤ b := fun b hb => (World.ownsRow.lt hown b hb).1
          refine ⟨⟨j + 1, by omega, by go_num, ?_, (hb.alloc hsz _).grown hg3 (by simp; omega) hob⟩, by simp [intOf]; omega⟩
          rw [HS.out]
          exact own_app hown3
        · obtain rfl : j = N := by omega
          go_wp2_with fail
          go_ret2
          rw [HR.out]
          exact ⟨_, rfl, hown, hb⟩
theorem new_no_r (a b : Int) (w : World) (hn : ¬ (1 ≤ a ∧ a ≤ 16 ∧ 64 ≤ b ∧ b ≤ 1024)) :
    Calls Try.prog 14 #[.int .i64 a, .int .i64 b] w fun e w' => e = .returned (.tuple #[.pointer none, .int .i64 2]) ∧ w = w' := by
  by_cases h1 : a < 1
  · have g1 : decide (a < 1) = true := by simpa using h1
    go_enter Try.func14, Try.ntmps14
    go_wp2_with fail
    go_ret2
    exact ⟨rfl, rfl⟩
  · have g1 : decide (a < 1) = false := by simpa using h1
    by_cases h2 : 16 < a
    · have g2 : decide (16 < a) = true := by simpa using h2
      go_enter Try.func14, Try.ntmps14
      go_wp2_with fail
      go_ret2
      exact ⟨rfl, rfl⟩
    · have g2 : decide (16 < a) = false := by simpa using h2
      by_cases h3 : b < 64
      · have g3 : decide (b < 64) = true := by simpa using h3
        go_enter Try.func14, Try.ntmps14
        go_wp2_with fail
        go_ret2
        exact ⟨rfl, rfl⟩
      · have g3 : decide (b < 64) = false := by simpa using h3
        have h4 : 1024 < b := by omega
        have g4 : decide (1024 < b) = true := by simpa using h4
        clear hn
        go_enter Try.func14, Try.ntmps14
        go_wp2_with fail
        go_ret2
        exact ⟨rfl, rfl⟩
theorem new_r (a b : Nat) (h1 : 1 ≤ a) (h2 : a ≤ 16) (h3 : 64 ≤ b) (h4 : b ≤ 1024) (w : World) :
    Calls Try.prog 14 #[.int .i64 (a : Int), .int .i64 (b : Int)] w fun e w' => ∃ d, e = .returned (.tuple #[.pointer (some ⟨d.g, 0, none⟩), .int .i64 0]) ∧ Born 67 w (Fl.new a b) d w' := by
  have hle : a * b ≤ 16384 := Nat.le_trans (Nat.mul_le_mul h2 h4) (by decide)
  have hpos : 0 < a * b := Nat.mul_pos (by omega) (by omega)
  obtain ⟨N, hN⟩ : ∃ N, N = a * b := ⟨_, rfl⟩
  have hwr : IntKind.i64.wrap ((a : Int) * (b : Int)) = (N : Int) := by
    have : ((a * b : Nat) : Int) = (a : Int) * (b : Int) := by push_cast; rfl
    rw [hN, ← this]
    exact IntWalk.i64_in _ (by omega)
  rw [← hN] at hle hpos
  have HN := Lib.hid hN; clear hN
  obtain ⟨M2, hM2, hmk2⟩ := make_i a (by omega)
  have HM2 := Lib.hid hM2; clear hM2
  obtain ⟨i0, hi, hz0, hz1, hzq⟩ := info_parts info5
  go_enter Try.func14, Try.ntmps14
  go_wp2_with fail
  obtain ⟨G, hG⟩ : ∃ G, G = w.heap.size := ⟨_, rfl⟩
  have hst : Below w.heap.size w ((w.alloc (.cells M2 3)).alloc (.cells #[.int .i64 (b : Int), .slice none 0 0, .slice (some ⟨w.heap.size, 0, none⟩) a a, .int .i64 0, .int .i64 0, .int .u8 0, .bool false] 67)) := ((Below.refl _ _).alloc (Nat.le_refl _) _).alloc (by simp) _
  have e1 : (w.alloc (.cells M2 3)).heap.size = w.heap.size + 1 := by simp
  have hgw : ((w.alloc (.cells M2 3)).alloc (.cells #[.int .i64 (b : Int), .slice none 0 0, .slice (some ⟨w.heap.size, 0, none⟩) a a, .int .i64 0, .int .i64 0, .int .u8 0, .bool false] 67)).heap[w.heap.size]? = some (.cells M2 3 (0, 0)) := by
    rw [((Below.refl (w.heap.size + 1) _).alloc (by omega) _).block _ (by omega)]
    exact heap_alloc_new w _
  have hgg : ((w.alloc (.cells M2 3)).alloc (.cells #[.int .i64 (b : Int), .slice none 0 0, .slice (some ⟨w.heap.size, 0, none⟩) a a, .int .i64 0, .int .i64 0, .int .u8 0, .bool false] 67)).heap[w.heap.size + 1]? = some (.cells #[.int .i64 (b : Int), .slice none 0 0, .slice (some ⟨w.heap.size, 0, none⟩) a a, .int .i64 0, .int .i64 0, .int .u8 0, .bool false] 67 (0, 0)) := by
    rw [← e1]
    exact heap_alloc_new _ _
  clear e1
  generalize (w.alloc (.cells M2 3)).alloc (.cells #[.int .i64 (b : Int), .slice none 0 0, .slice (some ⟨w.heap.size, 0, none⟩) a a, .int .i64 0, .int .i64 0, .int .u8 0, .bool false] 67) = w1 at *
  rw [← hG] at hst hgw hgg ⊢
  have HG := Lib.hid hG; clear hG
  go_loopw [7] (fun i wr => ∃ (j : Nat) (v : Value), j ≤ N ∧ i = .int .i64 j ∧ wr.heap[G + 1]? = some (.cells #[.int .i64 (b : Int), v, .slice (some ⟨G, 0, none⟩) a a, .int .i64 0, .int .i64 0, .int .u8 0, .bool false] 67 (0, 0)) ∧ Own (G + 2) wr v (List.replicate j 255) ∧ wr.heap[G]? = some (.cells M2 3 (0, 0)) ∧ Below G w wr) (fun i _ => N - (intOf i).toNat)
  case atStart => exact ⟨0, _, Nat.zero_le _, rfl, hgg, Own.nil, hgw, hst⟩
  case round =>
    clear hst hgw hgg
    obtain ⟨j, v, hj, rfl, hgg, hown, hgw, hb⟩ := hrel
    by_cases hlt : j < N
    · have u4 : (j : Int) < (N : Int) := by omega
      have c1 := cell_of_row wr (G + 1) 1 _ _ _ hgg
      replace c1 : wr.cell? ⟨G + 1, 1, none⟩ = some v := c1
      have hlg := lt_of_some hgg
      have hob : ∀ b, Value.ownBlock v = some b → G + 2 ≤ b := fun b hb => (World.ownsRow.lt hown b hb).1
      go_wp2_with (at_builtin; go_loud (refine wpList_append_rd _ rfl _ _ _ rfl (G + 2) 5 i0 _ 1 Try.underlying35 hi hz0 hz1 hzq rfl _ _ _ rfl (World.ownsRow.alloc hown _) _ _ 1 1 (bvs [255]) rfl rfl (Rd.new wr _ _) (fun hh => by cases hh) (bvs_one _) (by simp; unfold maxLen; omega) (by simp; omega) (by simp; omega) ?_); intro v1 w3 hown3 hg3; have ho3 : Own (G + 2) w3 v1 (List.replicate (j + 1) 255) := (by rw [List.replicate_succ']; exact own_app hown3); obtain ⟨A1, n1, q1, rfl, hsl1⟩ := Sl.of_own ho3; have hh3 := (hg3.block (G + 1) (by simp; omega) (fun e => by have := hob _ e.symm; omega)).trans ((World.grownBy_alloc wr (.cells #[.int .u8 255] 5) (none : Option Nat)).block (G + 1) hlg (by simp) |>.trans hgg); have k1 : w3.cell? ⟨G + 1, 1, none⟩ = some v := cell_of_row w3 (G + 1) 1 _ _ _ hh3; have k1f := frozen_of_row w3 (G + 1) 1 _ _ hh3)
      have hs5 := heap_setCell_same w3 (G + 1) 1 _ _ (.slice A1 n1 q1) hh3
      have hob2 : ∀ b, Value.ownBlock (.slice A1 n1 q1) = some b → G + 2 ≤ b := fun b hb => (World.ownsRow.lt ho3 b hb).1
      have hsz := hb.size
      have hwG := HG.out
      have hb3 : Below G w w3 := (hb.alloc (by omega) _).grown hg3 (by simp; omega) (fun k hk => by have := hob k hk; omega)
      refine ⟨⟨j + 1, .slice A1 n1 q1, by omega, by go_num, hs5, ?_, ?_, hb3.setCell (by show _ ≤ G + 1; omega) _⟩, by simp [intOf]; omega⟩
      · exact World.ownsRow.kept ho3 (set_grown w3 (G + 1) 1 _) (.inr (fun e => by have := hob2 _ e; omega))
      · rw [other_block _ _ _ _ _ (by omega), hg3.block G (by simp; omega) (fun e => by have := hob _ e.symm; omega)]
        exact ((World.grownBy_alloc wr (.cells #[.int .u8 255] 5) (none : Option Nat)).block G (by omega) (by simp)).trans hgw
    · have u4 : ¬ ((j : Int) < (N : Int)) := by omega
      have hjn : j = N := by omega
      have HJ := Lib.hid hjn; clear hjn
      go_wp2_with fail
      go_ret2
      have hjn := HJ.out
      subst hjn
      have hpl : 0 < (List.replicate j (255 : UInt8)).length := by simp; omega
      obtain ⟨gb, cb, rfl, q1, q2⟩ := own_pos hown hpl
      rw [List.length_replicate] at hown hgg
      have hG := HG.out
      have hiw := iown_block hgw HM2.out (base := G) (Nat.le_refl _) (by simp; unfold maxLen; omega)
      refine ⟨⟨G + 1, gb, cb, G, a⟩, rfl, ⟨?_, ?_, ?_, by show _ ≤ G + 1; omega, by show G + 1 ≠ gb; omega, by show G + 1 ≠ G; omega, by show gb ≠ G; omega⟩, hG ▸ hb⟩
      · rw [hgg]; simp [cellsOf, Fl.new, HN.out]
      · have := own_base hown (show w.heap.size ≤ G + 2 by omega)
        simpa [Fl.new, HN.out, Own] using this
      · have := own_base hiw (show w.heap.size ≤ G by omega)
        simpa [Fl.new, IOwn] using this
end
end Go.Proofs.Ytkmkpidoajfhmaa.E5v
