/- Walks: the checksums of bytes. -/
import Derived.Test.YtekhpcfggbegaaaS00
import Derived.Test.YtekhpcfggbegaaaS08
namespace Go.Proofs.Ytekhpcfggbegaaa.Wa
open Go.RowKit Go.Proofs.Ytekhpcfggbegaaa.Mem Go.Proofs.Ytekhpcfggbegaaa.Pl
set_option maxRecDepth 100000
set_option maxHeartbeats 400000

theorem sh8_yes (c : Nat) (h : ((c : Int) / 128 == 1) = true) : bits .xor .u8 ((c : Int) * 2 % 256) 7 = ((sh8 c : Nat) : Int) := by
  have h1 : c / 128 = 1 := by have := eq_of_beq h; omega
  have e := u8_xor_nat (c * 2 % 256) 7 (by omega) (by omega)
  rw [sh8, if_pos h1, ← e]; congr 1
theorem sh8_no (c : Nat) (h : ((c : Int) / 128 == 1) = false) : (c : Int) * 2 % 256 = ((sh8 c : Nat) : Int) := by
  have h1 : ¬ c / 128 = 1 := by have := ne_of_beq_false h; omega
  rw [sh8, if_neg h1]; omega
theorem shr_yes (c : Nat) (hc : c < 256) (h : 256 ≤ 2 * (c : Int)) : bits .xor .i64 (2 * (c : Int) - 256) 7 = ((sh8 c : Nat) : Int) := by
  have h1 : c / 128 = 1 := by omega
  have e := i64_xor (c * 2 % 256) 7 (by omega) (by omega)
  rw [sh8, if_pos h1, ← e]; congr 1; omega
theorem shr_no (c : Nat) (h : 2 * (c : Int) < 256) : 2 * (c : Int) = ((sh8 c : Nat) : Int) := by
  have h1 : ¬ c / 128 = 1 := by omega
  rw [sh8, if_neg h1]; omega
theorem sh32_yes (c : Nat) (hc : c < 4294967296) (h : ((c : Int) % 2 == 1) = true) : bits .xor .u32 ((c : Int) / 2) 3988292384 = ((sh32 c : Nat) : Int) := by
  have h1 : c % 2 = 1 := by have := eq_of_beq h; omega
  have e := u32_xor_nat (c / 2) 3988292384 (by omega) (by omega)
  rw [sh32, if_pos h1, ← e]; congr 1
theorem sh32_no (c : Nat) (h : ((c : Int) % 2 == 1) = false) : (c : Int) / 2 = ((sh32 c : Nat) : Int) := by
  have h1 : ¬ c % 2 = 1 := by have := ne_of_beq_false h; omega
  rw [sh32, if_neg h1]; omega
theorem u32_and_one (c : Nat) (hc : c < 4294967296) : bits .and .u32 (c : Int) 1 = (c : Int) % 2 := by
  have e := u32_and_nat c 1 hc (by omega)
  rw [Nat.and_one_is_mod] at e
  exact e.trans (by omega)
theorem xor_ones (c : Nat) (hc : c < 2 ^ 32) : (2 ^ 32 - 1) ^^^ c = 2 ^ 32 - 1 - c := by
  apply Nat.eq_of_testBit_eq
  intro i
  rw [Nat.testBit_xor, Nat.testBit_two_pow_sub_one, show 2 ^ 32 - 1 - c = 2 ^ 32 - (c + 1) by omega, Nat.testBit_two_pow_sub_succ hc]
  by_cases h : i < 32
  · simp [h]
  · have : c.testBit i = false := Nat.testBit_lt_two_pow (Nat.lt_of_lt_of_le hc (Nat.pow_le_pow_right (by omega) (by omega)))
    simp [h, this]
theorem u32_not (c : Nat) (hc : c < 4294967296) : bits .xor .u32 IntKind.u32.max (c : Int) = ((4294967295 - c : Nat) : Int) := by
  have e := u32_xor_nat 4294967295 c (by omega) hc
  have h := xor_ones c hc
  exact e.trans (congrArg Int.ofNat h)
theorem crc8_succ (l : List UInt8) (k : Nat) (h : k < l.length) : crc8 (l.take (k + 1)) = it sh8 8 (crc8 (l.take k) ^^^ l[k].toNat) := foldl_take _ _ _ _ h
theorem total_succ (l : List UInt8) (k : Nat) (h : k < l.length) : total (l.take (k + 1)) = (total (l.take k) + l[k].toNat) % 256 := foldl_take _ _ _ _ h
theorem raw32_succ (l : List UInt8) (k : Nat) (h : k < l.length) : raw32 (l.take (k + 1)) = it sh32 8 (raw32 (l.take k) ^^^ l[k].toNat) := foldl_take _ _ _ _ h

theorem sum8_any (A : Option Addr) (c : Nat) (l : List UInt8) (B : Nat) (w : World) (h : Row B w A l) (hl : l.length ≤ maxLen) :
    Calls Try.prog 102 #[.slice A l.length c] w fun e w' => e = .returned (.int .u8 (sum8 l)) ∧ w = w' := by
  unfold maxLen at hl
  go_enter Try.func102, Try.ntmps102
  go_wp2
  go_loop [3, 8] (fun cv i => ∃ k : Nat, k ≤ l.length ∧ i = .int .i64 k ∧ cv = .int .u8 (total (l.take k))) (fun _ i => l.length - (intOf i).toNat)
  case atStart => exact ⟨0, Nat.zero_le _, rfl, rfl⟩
  case round =>
    obtain ⟨k, hk, rfl, rfl⟩ := hrel
    have ht := total_lt (l.take k)
    by_cases hlt : k < l.length
    · obtain ⟨a, rfl, hb, hc⟩ := row_at h hlt
      have hx : l[k].toNat < 256 := l[k].toNat_lt
      go_wp2
      exact ⟨⟨k + 1, by omega, by go_num, vi (by rw [total_succ l k hlt]; omega)⟩, by simp [intOf]; omega⟩
    · go_wp2
      go_ret
      exact ⟨ret_int (by rw [List.take_of_length_le (by omega), sum8]; rw [List.take_of_length_le (by omega)] at ht; omega), rfl⟩

theorem rsum8_any (A : Option Addr) (c : Nat) (l : List UInt8) (B : Nat) (w : World) (h : Row B w A l) (hl : l.length ≤ maxLen) :
    Calls Try.prog 71 #[.slice A l.length c] w fun e w' => e = .returned (.int .u8 (sum8 l)) ∧ w = w' := by
  unfold maxLen at hl
  go_enter Try.func71, Try.ntmps71
  go_wp2
  go_loop [3, 4] (fun cv i => ∃ k : Nat, k ≤ l.length ∧ i = .int .i64 k ∧ cv = .int .i64 (total (l.take k))) (fun _ i => l.length - (intOf i).toNat)
  case atStart => exact ⟨0, Nat.zero_le _, rfl, rfl⟩
  case round =>
    obtain ⟨k, hk, rfl, rfl⟩ := hrel
    have ht := total_lt (l.take k)
    by_cases hlt : k < l.length
    · obtain ⟨a, rfl, hb, hc⟩ := row_at h hlt
      have hx : l[k].toNat < 256 := l[k].toNat_lt
      go_wp2
      exact ⟨⟨k + 1, by omega, by go_num, vi (by rw [total_succ l k hlt]; omega)⟩, by simp [intOf]; omega⟩
    · go_wp2
      go_ret
      exact ⟨ret_int (by rw [List.take_of_length_le (by omega), sum8]; rw [List.take_of_length_le (by omega)] at ht; omega), rfl⟩


end Go.Proofs.Ytekhpcfggbegaaa.Wa
