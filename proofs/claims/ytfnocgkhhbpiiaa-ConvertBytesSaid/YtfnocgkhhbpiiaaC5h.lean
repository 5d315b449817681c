/- Walks: the reference of conversions: Decode, what fails at once, and what is no table. -/
import Derived.Test.YtfnocgkhhbpiiaaP5g
namespace Go.Proofs.Ytfnocgkhhbpiiaa.C5h
open Go.RowKit Go.Proofs.Ytfnocgkhhbpiiaa.Mem Go.Proofs.Ytfnocgkhhbpiiaa.M3p Go.Proofs.Ytfnocgkhhbpiiaa.C4p Go.Proofs.Ytfnocgkhhbpiiaa.C4l Go.Proofs.Ytfnocgkhhbpiiaa.C4v Go.Proofs.Ytfnocgkhhbpiiaa.P4 Go.Proofs.Ytfnocgkhhbpiiaa.P5 Go.Proofs.Ytfnocgkhhbpiiaa.D5
set_option maxRecDepth 100000
set_option maxHeartbeats 1000000

abbrev Z7 : Array Value := #[.int .i64 0, .bool false, .int .i64 0, .int .i64 0, .int .i64 0, .int .i64 0, .slice none 0 0]
/-- The end of a Decode that fails. -/
theorem endz {w W : World} {l : List UInt8} {r : Nat} {a : Act} {E : Int} (hd : dec l = (noCv, 0, E)) (hr : W.heap[r]? = some (.cells Z7 24 (0, 0))) (hb : Below w.heap.size w W)
    (h2 : a.tmps[2]? = some (.pointer (some ⟨r, 0, none⟩))) (h3 : a.tmps[3]? = some (.int .i64 0)) (h4 : a.tmps[4]? = some (.int .i64 E)) (hdf : a.defers = []) :
    bodyPost Try.prog Try.f14 (Dcd w l) .ret a W := by
  have cR : ∀ i v', Z7[i]? = some v' → W.cell? ⟨r, i, none⟩ = some v' := fun i v h => (cell_of_row _ r i _ _ _ hr).trans h
  have r0 := cR 0 _ rfl; have r1 := cR 1 _ rfl; have r2 := cR 2 _ rfl; have r3 := cR 3 _ rfl; have r4 := cR 4 _ rfl; have r5 := cR 5 _ rfl; have r6 := cR 6 _ rfl
  unfold Dcd
  rw [hd]
  refine bodyPost_ret (v := .tuple #[.agg Z7, .int .i64 0, .int .i64 E]) ?_ hdf ⟨none, 0, 0, rfl, PSl.none, hb⟩
  simp [results, Try.results14, go_sem, h2, h3, h4, r0, r1, r2, r3, r4, r5, r6]
theorem dec_nil (A : Option Addr) (n c : Nat) (l : List UInt8) (w : World) (hsl : Sl w A n c l) (h0 : n = 0) :
    Calls Try.prog 14 #[.slice A n c] w (Dcd w l) := by
  have hln := hsl.len
  have hl0 : l = [] := List.eq_nil_of_length_eq_zero (by omega)
  have hd : dec l = (noCv, 0, 4) := by rw [hl0]; rfl
  have HD := Lib.hid hd
  subst h0
  have hb := ((Below.refl w.heap.size w).alloc (Nat.le_refl _) (.cells Z7 24)).alloc (by simp) (.cells Z7 24)
  clear hd hl0 hln hsl
  go_enter Try.func14, Try.ntmps14
  go_wp2_with fail
  have hr : ((w.alloc (.cells Z7 24)).alloc (.cells Z7 24)).heap[w.heap.size]? = some (.cells Z7 24 (0, 0)) := (Below.heap_alloc _ _ _ (by rw [World.size_alloc]; omega)).trans (heap_alloc_new w _)
  generalize hW : (w.alloc (.cells Z7 24)).alloc (.cells Z7 24) = W at *
  clear hW
  exact endz HD.out hr hb rfl rfl rfl rfl
theorem boxes (w : World) (Y : Array Value) : (((w.alloc (.cells Z7 24)).alloc (.cells Z7 24)).alloc (.cells Y 24)).drew.heap[w.heap.size]? = some (.cells Z7 24 (0, 0)) ∧
    (((w.alloc (.cells Z7 24)).alloc (.cells Z7 24)).alloc (.cells Y 24)).drew.heap[w.heap.size + 1]? = some (.cells Z7 24 (0, 0)) ∧
    (((w.alloc (.cells Z7 24)).alloc (.cells Z7 24)).alloc (.cells Y 24)).drew.heap[w.heap.size + 1 + 1]? = some (.cells Y 24 (0, 0)) ∧
    Below w.heap.size w (((w.alloc (.cells Z7 24)).alloc (.cells Z7 24)).alloc (.cells Y 24)).drew := by
  have e1 : (w.alloc (.cells Z7 24)).heap.size = w.heap.size + 1 := by simp
  have e2 : ((w.alloc (.cells Z7 24)).alloc (.cells Z7 24)).heap.size = w.heap.size + 1 + 1 := by simp
  have b1 : Below (w.heap.size + 1) (w.alloc (.cells Z7 24)) ((w.alloc (.cells Z7 24)).alloc (.cells Z7 24)) := (Below.refl _ _).alloc (by omega) _
  have b2 : Below (w.heap.size + 1 + 1) ((w.alloc (.cells Z7 24)).alloc (.cells Z7 24)) (((w.alloc (.cells Z7 24)).alloc (.cells Z7 24)).alloc (.cells Y 24)) := (Below.refl _ _).alloc (by omega) _
  refine ⟨?_, ?_, ?_, ?_⟩
  · show (((w.alloc (.cells Z7 24)).alloc (.cells Z7 24)).alloc (.cells Y 24)).heap[w.heap.size]? = _
    rw [b2.block _ (by omega), b1.block _ (by omega)]
    exact heap_alloc_new w _
  · show (((w.alloc (.cells Z7 24)).alloc (.cells Z7 24)).alloc (.cells Y 24)).heap[w.heap.size + 1]? = _
    rw [b2.block _ (by omega), ← e1]
    exact heap_alloc_new _ _
  · show (((w.alloc (.cells Z7 24)).alloc (.cells Z7 24)).alloc (.cells Y 24)).heap[w.heap.size + 1 + 1]? = _
    rw [← e2]
    exact heap_alloc_new _ _
  · have := (((Below.refl w.heap.size w).alloc (Nat.le_refl _) (.cells Z7 24)).trans (b1.mono (by omega))).trans (b2.mono (by omega))
    exact ⟨this.os, this.tape, this.output, this.size, this.block⟩
/-- A Decode that fails behind the first byte. -/
theorem dec_early (a : Addr) (n c : Nat) (l : List UInt8) (w : World) (hsl : Sl w (some a) n c l) (h0 : 0 < n) (hn : n ≤ 1000000) (E : Int) (hd : dec l = (noCv, 0, E))
    (hw : (u8 l 0 % 128 < 1 ∧ E = 6) ∨ (5 < u8 l 0 % 128 ∧ E = 6) ∨ (u8 l 0 % 128 = 5 ∧ n < 2 ∧ E = 4) ∨ (u8 l 0 % 128 = 5 ∧ 2 ≤ n ∧ u8 l 1 < 2 ∧ E = 6) ∨ (u8 l 0 % 128 = 5 ∧ 2 ≤ n ∧ 12 < u8 l 1 ∧ E = 6) ∨
      (u8 l 0 % 128 = 5 ∧ 2 ≤ n ∧ 2 ≤ u8 l 1 ∧ u8 l 1 ≤ 12 ∧ n < 2 + 7 * u8 l 1 ∧ E = 4) ∨ (1 ≤ u8 l 0 % 128 ∧ u8 l 0 % 128 < 5 ∧ n < 7 ∧ E = 4)) :
    Calls Try.prog 14 #[.slice (some a) n c] w (Dcd w l) := by
  have hln := hsl.len
  have hl0 : 0 < l.length := by omega
  obtain ⟨a', ha', hab, hc0⟩ := row_at hsl.row hl0
  injection ha' with ha'
  subst ha'
  have hc0' : w.cell? a = some (.int .u8 (l[0].toNat : Int)) := hc0
  have hx8 := l[0].toNat_lt
  rw [u8_at hl0] at hw
  obtain ⟨x, hx⟩ : ∃ x, l[0].toNat = x := ⟨_, rfl⟩
  rw [hx] at hc0' hx8 hw
  obtain ⟨z, hz, hz8, hzc⟩ : ∃ z, u8 l 1 = z ∧ z < 256 ∧ (2 ≤ n → w.cell? ⟨a.block, a.off + 1, none⟩ = some (.int .u8 (z : Int))) := by
    by_cases h2 : 2 ≤ n
    · have hl1 : 1 < l.length := by omega
      obtain ⟨a2, e2, -, hc1⟩ := row_at hsl.row hl1
      injection e2 with e2
      subst e2
      exact ⟨_, u8_at hl1, l[1].toNat_lt, fun _ => hc1⟩
    · exact ⟨_, rfl, (l.getD 1 0).toNat_lt, fun h => absurd h h2⟩
  rw [hz] at hw
  have HD := Lib.hid hd
  have hq := boxes w
  have HQ := Lib.hid hq
  have hne : ((n : Int) == 0) = false := by rw [beq_eq_false_iff_ne]; omega
  obtain ⟨v, hv⟩ : ∃ v, x % 128 = v := ⟨_, rfl⟩
  have hmod : (x : Int) % 128 = (v : Int) := by omega
  rw [hv] at hw
  have hv8 : v < 128 := by omega
  clear hv
  have P1 : ∀ o, (w.alloc o).cell? a = some (.int .u8 (x : Int)) := fun o => (World.cell?_alloc_lt w o a hab).trans hc0'
  have P2 : ∀ o o', ((w.alloc o).alloc o').cell? a = some (.int .u8 (x : Int)) := fun o o' => (World.cell?_alloc_lt (w.alloc o) o' a (by rw [World.size_alloc]; omega)).trans (P1 o)
  have P3 : ∀ o o' o'', (((w.alloc o).alloc o').alloc o'').cell? a = some (.int .u8 (x : Int)) := fun o o' o'' => (World.cell?_alloc_lt ((w.alloc o).alloc o') o'' a (by rw [World.size_alloc, World.size_alloc]; omega)).trans (P2 o o')
  clear hd hsl hln hc0 hx hz hq hl0
  have R3 : 2 ≤ n → ∀ o o' o'', (((w.alloc o).alloc o').alloc o'').cell? ⟨a.block, a.off + 1, none⟩ = some (.int .u8 (z : Int)) := fun h2 o o' o'' => (World.cell?_alloc_lt ((w.alloc o).alloc o') o'' ⟨a.block, a.off + 1, none⟩ (by rw [World.size_alloc, World.size_alloc]; show a.block < _; omega)).trans ((World.cell?_alloc_lt (w.alloc o) o' ⟨a.block, a.off + 1, none⟩ (by rw [World.size_alloc]; show a.block < _; omega)).trans ((World.cell?_alloc_lt w o ⟨a.block, a.off + 1, none⟩ hab).trans (hzc h2)))
  clear hzc
  rcases hw with ⟨p1, rfl⟩ | ⟨p1, rfl⟩ | ⟨p1, p2, rfl⟩ | ⟨p1, p2, p3, rfl⟩ | ⟨p1, p2, p3, rfl⟩ | ⟨p1, p2, p3, p4, p5, rfl⟩ | ⟨p1, p2, p3, rfl⟩
  · have g1 : decide ((v : Int) < 1) = true := by simp; omega
    clear R3
    go_enter Try.func14, Try.ntmps14
    go_wp2_with fail
    go_region
    all_goals (go_wp2_with fail)
    all_goals
      obtain ⟨w1, -, -, w4⟩ := HQ.out _
      exact endz HD.out w1 w4 rfl rfl rfl rfl
  · have g1 : decide ((v : Int) < 1) = false := by simp; omega
    have g2 : decide (5 < (v : Int)) = true := by simp; omega
    clear R3
    go_enter Try.func14, Try.ntmps14
    go_wp2_with fail
    go_region
    all_goals (go_wp2_with fail)
    all_goals
      obtain ⟨w1, -, -, w4⟩ := HQ.out _
      exact endz HD.out w1 w4 rfl rfl rfl rfl
  · subst p1
    have g3 : decide ((n : Int) < 2) = true := by simp; omega
    clear R3
    go_enter Try.func14, Try.ntmps14
    go_wp2_with fail
    go_region
    all_goals (go_wp2_with fail)
    all_goals
      obtain ⟨w1, -, -, w4⟩ := HQ.out _
      exact endz HD.out w1 w4 rfl rfl rfl rfl
  · subst p1
    have g3 : decide ((n : Int) < 2) = false := by simp; omega
    have g4 : decide ((z : Int) < 2) = true := by simp; omega
    have R4 := R3 p2; clear R3
    go_enter Try.func14, Try.ntmps14
    go_wp2_with fail
    go_region
    all_goals (go_wp2_with fail)
    all_goals
      obtain ⟨w1, -, -, w4⟩ := HQ.out _
      exact endz HD.out w1 w4 rfl rfl rfl rfl
  · subst p1
    have g3 : decide ((n : Int) < 2) = false := by simp; omega
    have g4 : decide ((z : Int) < 2) = false := by simp; omega
    have g5 : decide (12 < (z : Int)) = true := by simp; omega
    have R4 := R3 p2; clear R3
    go_enter Try.func14, Try.ntmps14
    go_wp2_with fail
    go_region
    all_goals (go_wp2_with fail)
    all_goals
      obtain ⟨w1, -, -, w4⟩ := HQ.out _
      exact endz HD.out w1 w4 rfl rfl rfl rfl
  · subst p1
    have g3 : decide ((n : Int) < 2) = false := by simp; omega
    have g4 : decide ((z : Int) < 2) = false := by simp; omega
    have g5 : decide (12 < (z : Int)) = false := by simp; omega
    have g6 : decide ((n : Int) < 2 + 7 * (z : Int)) = true := by simp; omega
    have R4 := R3 p2; clear R3
    go_enter Try.func14, Try.ntmps14
    go_wp2_with fail
    go_region
    all_goals (go_wp2_with fail)
    all_goals
      obtain ⟨w1, -, -, w4⟩ := HQ.out _
      exact endz HD.out w1 w4 rfl rfl rfl rfl
  · have g1 : decide ((v : Int) < 1) = false := by simp; omega
    have g2 : decide (5 < (v : Int)) = false := by simp; omega
    have g7 : ((v : Int) == 5) = false := by simp; omega
    have g8 : decide ((n : Int) < 7) = true := by simp; omega
    clear R3
    go_enter Try.func14, Try.ntmps14
    go_wp2_with fail
    go_region
    all_goals (go_wp2_with fail)
    all_goals
      obtain ⟨w1, -, -, w4⟩ := HQ.out _
      exact endz HD.out w1 w4 rfl rfl rfl rfl
end Go.Proofs.Ytfnocgkhhbpiiaa.C5h
