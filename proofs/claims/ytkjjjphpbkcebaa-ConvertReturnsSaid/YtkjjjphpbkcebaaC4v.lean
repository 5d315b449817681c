/- Walks: the reference of conversions: numbers, powers of ten. -/
import Derived.Test.YtkjjjphpbkcebaaC4l
import Derived.StillTailTactics
namespace Go.Proofs.Ytkjjjphpbkcebaa.C4v
open Go.RowKit Go.Proofs.Ytkjjjphpbkcebaa.Mem Go.Proofs.Ytkjjjphpbkcebaa.M3p Go.Proofs.Ytkjjjphpbkcebaa.C4p Go.Proofs.Ytkjjjphpbkcebaa.C4l
set_option maxRecDepth 100000
set_option maxHeartbeats 1000000

theorem number_r (s : Bool) (r : UInt8) (w : World) :
    Calls Try.prog 24 #[.bool s, .int .u8 (r.toNat : Int)] w fun e w' => e = .returned (.int .i64 (num s r)) ∧ w = w' := by
  have hr := r.toNat_lt
  cases s
  · go_enter Try.func24, Try.ntmps24
    go_wp2
    go_ret
    exact ⟨ret_int (by unfold num; rw [if_neg (by simp)]), rfl⟩
  · by_cases h : 128 ≤ r.toNat
    · go_enter Try.func24, Try.ntmps24
      go_wp2
      go_ret
      exact ⟨ret_int (by unfold num; rw [if_pos ⟨rfl, h⟩]), rfl⟩
    · go_enter Try.func24, Try.ntmps24
      go_wp2
      go_ret
      exact ⟨ret_int (by unfold num; rw [if_neg (fun g => h g.2)]), rfl⟩
theorem raw_r (n : Int) (w : World) (h1 : -256 ≤ n) (h2 : n ≤ 1000000) :
    Calls Try.prog 38 #[.int .i64 n] w fun e w' => e = .returned (.int .u8 ((rawOf n).toNat : Int)) ∧ w = w' := by
  have e1 := raw_nat n
  have e2 : ((rawOf n).toNat : Int) = (n + 256) % 256 := by omega
  have e3 : (n + 256).tmod 256 = (n + 256) % 256 := Int.tmod_eq_emod_of_nonneg (by omega)
  have e4 : 0 ≤ (n + 256) % 256 := Int.emod_nonneg _ (by decide)
  have e5 : (n + 256) % 256 < 256 := Int.emod_lt_of_pos _ (by decide)
  rw [e2]
  clear e1 e2
  generalize (n + 256) % 256 = z at *
  go_enter Try.func38, Try.ntmps38
  go_wp2
  go_ret
  exact ⟨rfl, rfl⟩
theorem least_r (s : Bool) (w : World) :
    Calls Try.prog 37 #[.bool s] w fun e w' => e = .returned (.int .i64 (least s)) ∧ w = w' := by
  cases s
  · go_enter Try.func37, Try.ntmps37
    go_wp2
    go_ret
    exact ⟨rfl, rfl⟩
  · go_enter Try.func37, Try.ntmps37
    go_wp2
    go_ret
    exact ⟨rfl, rfl⟩
theorem ten_nat (n : Nat) : ten (n : Int) = ((10 ^ n : Nat) : Int) := by unfold ten; rw [Int.toNat_natCast]; push_cast; rfl
theorem ten_r (z : Int) (w : World) (h1 : 0 ≤ z) (h2 : z ≤ 12) :
    Calls Try.prog 45 #[.int .i64 z] w fun e w' => e = .returned (.int .i64 (ten z)) ∧ w = w' := by
  obtain ⟨n, rfl⟩ := Int.eq_ofNat_of_zero_le h1
  have hn : n ≤ 12 := by omega
  have ht : ten ((n : Nat) : Int) = ((10 ^ n : Nat) : Int) := ten_nat n
  obtain ⟨R, hR⟩ : ∃ R, R = 10 ^ n := ⟨_, rfl⟩
  have e : ten ((n : Nat) : Int) = (R : Int) := by rw [ht, hR]
  have e' : ten (Int.ofNat n) = (R : Int) := e
  first | rw [e'] | rw [e]
  have HR := Lib.hid hR
  clear ht hR e e' h1 h2
  go_enter Try.func45, Try.ntmps45
  go_wp2_with fail
  go_loop [3, 4] (fun v i => ∃ k m : Nat, k ≤ n ∧ i = .int .i64 k ∧ v = .int .i64 m ∧ m = 10 ^ k) (fun _ i => n - (intOf i).toNat)
  case atStart => exact ⟨0, 1, Nat.zero_le _, rfl, rfl, rfl⟩
  case round =>
    obtain ⟨k, m, hk, rfl, rfl, hm⟩ := hrel
    have hmb : m ≤ 1000000000000 := by rw [hm]; exact Nat.le_trans (Nat.pow_le_pow_right (by omega) (show k ≤ 12 by omega)) (by decide)
    have HM := Lib.hid hm
    clear hm
    by_cases hlt : k < n
    · go_wp2_with fail
      exact ⟨⟨k + 1, 10 * m, by omega, by go_num, vi (by omega), by rw [HM.out, Nat.pow_succ, Nat.mul_comm]⟩, by simp [intOf]; omega⟩
    · obtain rfl : n = k := by omega
      go_wp2_with fail
      go_ret
      exact ⟨ret_int (by rw [HR.out, HM.out]), rfl⟩
end Go.Proofs.Ytkjjjphpbkcebaa.C4v
