/- Walks: the program's conversions: reading a conversion that is no table. -/
import Derived.Test.YtafoaonkjcfbaaaK56
namespace Go.Proofs.Ytafoaonkjcfbaaa.P5
open Go.RowKit Go.Proofs.Ytafoaonkjcfbaaa.Mem Go.Proofs.Ytafoaonkjcfbaaa.M3p Go.Proofs.Ytafoaonkjcfbaaa.C4p Go.Proofs.Ytafoaonkjcfbaaa.C4l Go.Proofs.Ytafoaonkjcfbaaa.C4v Go.Proofs.Ytafoaonkjcfbaaa.P4
set_option maxRecDepth 100000
set_option maxHeartbeats 1000000

theorem and_128 (x : Nat) (h : x < 256) : bits .and .u8 (x : Int) 128 = if 128 ≤ x then 128 else 0 := by
  have : ∀ x : Fin 256, bits .and .u8 ((x.val : Nat) : Int) 128 = if 128 ≤ x.val then 128 else 0 := by decide +kernel
  exact this ⟨x, h⟩
theorem and_128' (x : Nat) (h : x < 256) : (bits .and .u8 (x : Int) 128 != 0) = decide (128 ≤ x) := by
  rw [and_128 x h]
  by_cases h : 128 ≤ x <;> simp [h]
theorem piece_row {B : Nat} {w : World} {a : Addr} {l : List UInt8} (h : Row B w (some a) l) (k n : Nat) (hk0 : k < l.length) : Row B w (some (a.add k)) (piece l k n) := by
  have := row_take (row_cut (cap := l.length) h (by omega : k ≤ l.length) (Nat.le_refl _)) n
  rw [if_neg (by omega), Option.map_some] at this
  exact this
theorem read_lin (a : Addr) (n c : Nat) (l : List UInt8) (w : World) (hsl : Sl w (some a) n c l) (hn : n = 7) (hf : ¬ u8 l 0 % 128 = 5) :
    Calls Try.prog 160 #[.slice (some a) n c] w fun e w' =>
      e = .returned (.agg #[.int .i64 ((u8 l 0 % 128 : Nat) : Int), .bool (decide (128 ≤ u8 l 0)), .int .i64 (sgn (piece l 1 2)), .int .i64 (sgn (piece l 3 2)), .int .i64 (sgn (piece l 5 1)), .int .i64 (sgn (piece l 6 1)), .slice none 0 0]) ∧ Below w.heap.size w w' := by
  have hln := hsl.len
  have hrow := hsl.row
  have hcp := hsl.cap
  subst hn
  have hl0 : 0 < l.length := by omega
  obtain ⟨a', ha', hab, hc0⟩ := row_at hrow hl0
  injection ha' with ha'
  subst ha'
  have hc0' : w.cell? a = some (.int .u8 (l[0].toNat : Int)) := hc0
  have hx8 := l[0].toNat_lt
  rw [u8_at hl0] at hf ⊢
  obtain ⟨x, hx⟩ : ∃ x, l[0].toNat = x := ⟨_, rfl⟩
  rw [hx] at hc0' hx8 hf ⊢
  have han := andnot_128 x hx8
  have hsg := and_128' x hx8
  obtain ⟨y, hy⟩ : ∃ y, x % 128 = y := ⟨_, rfl⟩
  rw [hy] at han hf ⊢
  have hyb : y < 128 := by omega
  have hyne : ((y : Int) == 5) = false := by rw [beq_eq_false_iff_ne]; omega
  obtain ⟨S, hS⟩ : ∃ S, decide (128 ≤ x) = S := ⟨_, rfl⟩
  rw [hS] at hsg ⊢
  have hN : ∀ k m : Nat, 1 ≤ k → 1 ≤ m → k + m ≤ 7 → ∀ (c' : Nat) (u : World), Below w.heap.size w u → Calls Try.prog 178 #[.slice (some ⟨a.block, a.off + k, none⟩) m c'] u fun e w' => e = .returned (.int .i64 (sgn (piece l k m))) ∧ u = w' := by
    intro k m hk h1 h2 c' u hu
    have hrk := (piece_row hrow k m (by omega)).below hu
    have he : a.add k = ⟨a.block, a.off + k, none⟩ := by unfold Addr.add; rw [if_neg (by omega)]
    rw [he] at hrk
    exact number_q (some ⟨a.block, a.off + k, none⟩) m c' (piece l k m) w.heap.size u hrk (by simp [piece]; omega) h1 (by omega)
  have HNU := Lib.hid hN
  have HLN := Lib.hid hln
  obtain ⟨N1, hN1⟩ : ∃ N1, N1 = sgn (piece l 1 2) := ⟨_, rfl⟩
  obtain ⟨N2, hN2⟩ : ∃ N2, N2 = sgn (piece l 3 2) := ⟨_, rfl⟩
  obtain ⟨N3, hN3⟩ : ∃ N3, N3 = sgn (piece l 5 1) := ⟨_, rfl⟩
  obtain ⟨N4, hN4⟩ : ∃ N4, N4 = sgn (piece l 6 1) := ⟨_, rfl⟩
  rw [← hN1, ← hN2, ← hN3, ← hN4]
  have HC1 := Lib.hid (fun c' u hu => by have := hN 1 2 (by omega) (by omega) (by omega) c' u hu; rw [← hN1] at this; exact this)
  have HC2 := Lib.hid (fun c' u hu => by have := hN 3 2 (by omega) (by omega) (by omega) c' u hu; rw [← hN2] at this; exact this)
  have HC3 := Lib.hid (fun c' u hu => by have := hN 5 1 (by omega) (by omega) (by omega) c' u hu; rw [← hN3] at this; exact this)
  have HC4 := Lib.hid (fun c' u hu => by have := hN 6 1 (by omega) (by omega) (by omega) c' u hu; rw [← hN4] at this; exact this)
  clear hN hln hrow hc0 hx hy hS hf hsl hN1 hN2 hN3 hN4 HNU
  go_enter Try.func160, Try.ntmps160
  go_wp2_with fail
  go_region
  have hb0 : Below w.heap.size w (((w.alloc (.cells #[.int .i64 0, .bool false, .int .i64 0, .int .i64 0, .int .i64 0, .int .i64 0, .slice none 0 0] 54)).alloc (.cells #[.int .i64 (y : Int), .bool S, .int .i64 0, .int .i64 0, .int .i64 0, .int .i64 0, .slice none 0 0] 54)).drew) := by
    have h := ((Below.refl w.heap.size w).alloc (Nat.le_refl _) (.cells #[.int .i64 0, .bool false, .int .i64 0, .int .i64 0, .int .i64 0, .int .i64 0, .slice none 0 0] 54)).alloc (by simp) (.cells #[.int .i64 (y : Int), .bool S, .int .i64 0, .int .i64 0, .int .i64 0, .int .i64 0, .slice none 0 0] 54)
    exact ⟨h.os, h.tape, h.output, h.size, h.block⟩
  have hhr : (((w.alloc (.cells #[.int .i64 0, .bool false, .int .i64 0, .int .i64 0, .int .i64 0, .int .i64 0, .slice none 0 0] 54)).alloc (.cells #[.int .i64 (y : Int), .bool S, .int .i64 0, .int .i64 0, .int .i64 0, .int .i64 0, .slice none 0 0] 54)).drew).heap[w.heap.size]? = some (.cells #[.int .i64 0, .bool false, .int .i64 0, .int .i64 0, .int .i64 0, .int .i64 0, .slice none 0 0] 54 (0, 0)) := (Below.heap_alloc _ _ _ (by rw [World.size_alloc]; omega)).trans (heap_alloc_new w _)
  have hhf : (((w.alloc (.cells #[.int .i64 0, .bool false, .int .i64 0, .int .i64 0, .int .i64 0, .int .i64 0, .slice none 0 0] 54)).alloc (.cells #[.int .i64 (y : Int), .bool S, .int .i64 0, .int .i64 0, .int .i64 0, .int .i64 0, .slice none 0 0] 54)).drew).heap[w.heap.size + 1]? = some (.cells #[.int .i64 (y : Int), .bool S, .int .i64 0, .int .i64 0, .int .i64 0, .int .i64 0, .slice none 0 0] 54 (0, 0)) := by
    have e := heap_alloc_new (w.alloc (.cells #[.int .i64 0, .bool false, .int .i64 0, .int .i64 0, .int .i64 0, .int .i64 0, .slice none 0 0] 54)) (.cells #[.int .i64 (y : Int), .bool S, .int .i64 0, .int .i64 0, .int .i64 0, .int .i64 0, .slice none 0 0] 54)
    rw [World.size_alloc] at e
    exact e
  generalize ((w.alloc (.cells #[.int .i64 0, .bool false, .int .i64 0, .int .i64 0, .int .i64 0, .int .i64 0, .slice none 0 0] 54)).alloc (.cells #[.int .i64 (y : Int), .bool S, .int .i64 0, .int .i64 0, .int .i64 0, .int .i64 0, .slice none 0 0] 54)).drew = W0 at *
  obtain ⟨r, hr⟩ : ∃ r, r = w.heap.size := ⟨_, rfl⟩
  rw [← hr] at hhr hhf ⊢
  have hrw : w.heap.size ≤ r := Nat.le_of_eq hr.symm
  clear hr hc0' han hsg
  have cF : ∀ i v, (#[.int .i64 (y : Int), .bool S, .int .i64 0, .int .i64 0, .int .i64 0, .int .i64 0, .slice none 0 0] : Array Value)[i]? = some v → W0.cell? ⟨r + 1, i, none⟩ = some v := fun i v h => (cell_of_row W0 (r + 1) i _ _ _ hhf).trans h
  have cR : ∀ i v, (#[.int .i64 0, .bool false, .int .i64 0, .int .i64 0, .int .i64 0, .int .i64 0, .slice none 0 0] : Array Value)[i]? = some v → W0.cell? ⟨r, i, none⟩ = some v := fun i v h => (cell_of_row W0 r i _ _ _ hhr).trans h
  have f0 := cF 0 _ rfl; have f1 := cF 1 _ rfl; have f2 := cF 2 _ rfl; have f3 := cF 3 _ rfl; have f4 := cF 4 _ rfl; have f5 := cF 5 _ rfl; have f6 := cF 6 _ rfl
  have r0 := cR 0 _ rfl; have r1 := cR 1 _ rfl; have r2 := cR 2 _ rfl; have r3 := cR 3 _ rfl; have r4 := cR 4 _ rfl; have r5 := cR 5 _ rfl; have r6 := cR 6 _ rfl
  have zF := fun i => frozen_of_row W0 (r + 1) i _ _ hhf
  have zR := fun i => frozen_of_row W0 r i _ _ hhr
  have g2 := zF 2; have g3 := zF 3; have g4 := zF 4; have g5 := zF 5
  have q0 := zR 0; have q1 := zR 1; have q2 := zR 2; have q3 := zR 3; have q4 := zR 4; have q5 := zR 5; have q6 := zR 6
  clear cF cR zF zR hhr hhf
  have hne : r + 1 ≠ r := by omega
  go_wp2_with fail
  refine (HC1.out _ _ hb0).mono ?_
  rintro e w' ⟨rfl, rfl⟩
  have hb1 := hb0.setCell (p := ⟨r + 1, 2, none⟩) (by show _ ≤ r + 1; omega) (.int .i64 N1)
  go_wp2_with fail
  refine (HC2.out _ _ hb1).mono ?_
  rintro e w' ⟨rfl, rfl⟩
  have hb2 := hb1.setCell (p := ⟨r + 1, 3, none⟩) (by show _ ≤ r + 1; omega) (.int .i64 N2)
  go_wp2_with fail
  refine (HC3.out _ _ hb2).mono ?_
  rintro e w' ⟨rfl, rfl⟩
  have hb3 := hb2.setCell (p := ⟨r + 1, 4, none⟩) (by show _ ≤ r + 1; omega) (.int .i64 N3)
  go_wp2_with fail
  refine (HC4.out _ _ hb3).mono ?_
  rintro e w' ⟨rfl, rfl⟩
  have hb4 := hb3.setCell (p := ⟨r + 1, 5, none⟩) (by show _ ≤ r + 1; omega) (.int .i64 N4)
  have hb5 := ((((((hb4.setCell (p := ⟨r, 0, none⟩) hrw (.int .i64 (y : Int))).setCell (p := ⟨r, 1, none⟩) hrw (.bool S)).setCell (p := ⟨r, 2, none⟩) hrw (.int .i64 N1)).setCell (p := ⟨r, 3, none⟩) hrw (.int .i64 N2)).setCell (p := ⟨r, 4, none⟩) hrw (.int .i64 N3)).setCell (p := ⟨r, 5, none⟩) hrw (.int .i64 N4)).setCell (p := ⟨r, 6, none⟩) hrw (.slice none 0 0)
  have HB5 := Lib.hid hb5; clear hb0 hb1 hb2 hb3 hb4 hb5
  go_wp2_with fail
  refine bodyPost_ret (v := .agg #[.int .i64 (y : Int), .bool S, .int .i64 N1, .int .i64 N2, .int .i64 N3, .int .i64 N4, .slice none 0 0]) ?_ rfl ⟨rfl, HB5.out⟩
  simp [results, Try.results160, go_sem, r0, r1, r2, r3, r4, r5, r6]
end Go.Proofs.Ytafoaonkjcfbaaa.P5
