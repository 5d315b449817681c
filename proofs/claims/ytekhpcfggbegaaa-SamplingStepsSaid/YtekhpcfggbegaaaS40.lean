/- Walks: the length of a number in bits; the next power of two; three swaps by chance. -/
import Derived.Test.YtekhpcfggbegaaaS39
import Derived.Laws.Closers25b
import Derived.Laws.Bits64b
namespace Go.Proofs.Ytekhpcfggbegaaa.So
open Go.RowKit Go.Proofs.Ytekhpcfggbegaaa.Mem
set_option maxRecDepth 100000
set_option maxHeartbeats 1000000

/-- The bits that x needs, x below 64. -/
def bl6 (x : Nat) : Nat := if x = 0 then 0 else if x < 2 then 1 else if x < 4 then 2 else if x < 8 then 3 else if x < 16 then 4 else if x < 32 then 5 else 6
theorem len64_any (x : Nat) (hx : x ≤ 32) (w : World) :
    Calls Try.prog 128 #[.int .u64 (x : Int)] w fun e w' => e = .returned (.int .i64 (bl6 x : Int)) ∧ w = w' := by
  have h : x = 0 ∨ x = 1 ∨ x = 2 ∨ x = 3 ∨ x = 4 ∨ x = 5 ∨ x = 6 ∨ x = 7 ∨ x = 8 ∨ x = 9 ∨ x = 10 ∨ x = 11 ∨ x = 12 ∨ x = 13 ∨ x = 14 ∨ x = 15 ∨ x = 16 ∨ x = 17 ∨ x = 18 ∨ x = 19 ∨ x = 20 ∨ x = 21 ∨ x = 22 ∨ x = 23 ∨ x = 24 ∨ x = 25 ∨ x = 26 ∨ x = 27 ∨ x = 28 ∨ x = 29 ∨ x = 30 ∨ x = 31 ∨ x = 32 := by omega
  rcases h with rfl | rfl | rfl | rfl | rfl | rfl | rfl | rfl | rfl | rfl | rfl | rfl | rfl | rfl | rfl | rfl | rfl | rfl | rfl | rfl | rfl | rfl | rfl | rfl | rfl | rfl | rfl | rfl | rfl | rfl | rfl | rfl | rfl
  all_goals
    go_enter Try.func128, Try.ntmps128
    go_wp2_with fail
    go_ret
    exact ⟨ret_int (by decide +kernel), rfl⟩
theorem len_any (x : Nat) (hx : x ≤ 32) (w : World) :
    Calls Try.prog 91 #[.int .u64 (x : Int)] w fun e w' => e = .returned (.int .i64 (bl6 x : Int)) ∧ w = w' := by
  have HL := Lib.hid (len64_any x hx w)
  go_enter Try.func91, Try.ntmps91
  go_wp2_with fail
  refine HL.out.mono ?_
  rintro e w' ⟨rfl, rfl⟩
  go_wp2_with fail
  go_ret
  exact ⟨rfl, rfl⟩
theorem npow_any (x : Nat) (h13 : 13 ≤ x) (hx : x ≤ 32) (w : World) :
    Calls Try.prog 154 #[.int .i64 (x : Int)] w fun e w' => e = .returned (.int .u64 (2 ^ bl6 x : Nat)) ∧ w = w' := by
  have HL := Lib.hid (len_any x hx w)
  go_enter Try.func154, Try.ntmps154
  go_wp2_with fail
  refine HL.out.mono ?_
  rintro e w' ⟨rfl, rfl⟩
  have hb : bl6 x = 4 ∨ bl6 x = 5 ∨ bl6 x = 6 := by
    unfold bl6
    rw [if_neg (by omega), if_neg (by omega), if_neg (by omega), if_neg (by omega)]
    by_cases h1 : x < 16
    · rw [if_pos h1]; exact .inl rfl
    · rw [if_neg h1]
      by_cases h2 : x < 32
      · rw [if_pos h2]; exact .inr (.inl rfl)
      · rw [if_neg h2]; exact .inr (.inr rfl)
  rcases hb with e | e | e
  all_goals
    have E := Lib.hid e
    rw [e]
    clear e
    go_wp2_with fail
    go_ret
    exact ⟨by rw [E.out]; rfl, rfl⟩
theorem next_any (s : Nat) (x : Nat) (w : World) (hs : w.heap[s]? = some (.cells #[.int .u64 (x : Int)] 198 (0, 0))) (_hx : x < 18446744073709551616) :
    Calls Try.prog 155 #[.pointer (some ⟨s, 0, none⟩)] w fun e w' => ∃ y : Nat, y < 18446744073709551616 ∧ e = .returned (.int .u64 (y : Int)) ∧ w'.heap[s]? = some (.cells #[.int .u64 (y : Int)] 198 (0, 0)) ∧ w.grownBy w' (some s) := by
  have c0 : w.cell? ⟨s, 0, none⟩ = some (.int .u64 (x : Int)) := (cell_of_row w s 0 _ _ _ hs).trans rfl
  have z0 := frozen_of_row w s 0 _ _ hs
  go_enter Try.func155, Try.ntmps155
  go_wp2_with fail
  go_region
  obtain ⟨y1, hy1⟩ : ∃ y : Nat, bits BinOp.xor IntKind.u64 (x : Int) (IntKind.u64.wrap ((x : Int) * 8192)) = (y : Int) := ⟨_, (Int.toNat_of_nonneg (bits_lo_u64 _ _ _)).symm⟩
  have hb1 : y1 < 18446744073709551616 := by have := bits_hi_u64 BinOp.xor (x : Int) (IntKind.u64.wrap ((x : Int) * 8192)); omega
  rw [hy1]
  go_wp2_with fail
  go_region
  obtain ⟨y2, hy2⟩ : ∃ y : Nat, bits BinOp.xor IntKind.u64 (y1 : Int) ((y1 : Int) / 128) = (y : Int) := ⟨_, (Int.toNat_of_nonneg (bits_lo_u64 _ _ _)).symm⟩
  have hb2 : y2 < 18446744073709551616 := by have := bits_hi_u64 BinOp.xor (y1 : Int) ((y1 : Int) / 128); omega
  rw [hy2]
  go_wp2_with fail
  go_region
  obtain ⟨y3, hy3⟩ : ∃ y : Nat, bits BinOp.xor IntKind.u64 (y2 : Int) (IntKind.u64.wrap ((y2 : Int) * 131072)) = (y : Int) := ⟨_, (Int.toNat_of_nonneg (bits_lo_u64 _ _ _)).symm⟩
  have hb3 : y3 < 18446744073709551616 := by have := bits_hi_u64 BinOp.xor (y2 : Int) (IntKind.u64.wrap ((y2 : Int) * 131072)); omega
  rw [hy3]
  have h1 := heap_setCell_same w s 0 _ _ (.int .u64 (y1 : Int)) hs
  have h2 := heap_setCell_same _ s 0 _ _ (.int .u64 (y2 : Int)) h1
  have h3 := heap_setCell_same _ s 0 _ _ (.int .u64 (y3 : Int)) h2
  have g3 := grown_trans (grown_trans (set_grown w s 0 (.int .u64 (y1 : Int))) (set_grown _ s 0 (.int .u64 (y2 : Int)))) (set_grown _ s 0 (.int .u64 (y3 : Int)))
  have c9 : ((((w.setCell ⟨s, 0, none⟩ (.int .u64 (y1 : Int))).setCell ⟨s, 0, none⟩ (.int .u64 (y2 : Int))).setCell ⟨s, 0, none⟩ (.int .u64 (y3 : Int)))).cell? ⟨s, 0, none⟩ = some (.int .u64 (y3 : Int)) := (cell_of_row _ s 0 _ _ _ h3).trans rfl
  have H3 := Lib.hid h3; have G3 := Lib.hid g3
  clear h1 h2 h3 g3
  go_wp2_with fail
  go_ret
  exact ⟨y3, hb3, rfl, H3.out, grown_drewN G3.out 3⟩
/-- Where the other one of a swap lies. -/
theorem other_lt {x y : Nat} (h13 : 13 ≤ x) (hx : x ≤ 32) : (if x ≤ y % 2 ^ bl6 x then y % 2 ^ bl6 x - x else y % 2 ^ bl6 x) < x := by
  have hb : 2 ^ bl6 x ≤ 2 * x := by
    unfold bl6
    rw [if_neg (by omega), if_neg (by omega), if_neg (by omega), if_neg (by omega)]
    by_cases h1 : x < 16
    · rw [if_pos h1]; omega
    · rw [if_neg h1]
      by_cases h2 : x < 32
      · rw [if_pos h2]; omega
      · rw [if_neg h2]; omega
  have := Nat.mod_lt y (Nat.two_pow_pos (bl6 x))
  split <;> omega
end Go.Proofs.Ytekhpcfggbegaaa.So
