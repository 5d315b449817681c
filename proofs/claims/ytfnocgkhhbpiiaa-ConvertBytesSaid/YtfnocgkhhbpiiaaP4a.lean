/- Walks: the program's conversions: numbers, bounds, powers of ten, quotients rounded down. -/
import Derived.Test.YtfnocgkhhbpiiaaC4z
import Derived.Test.YtfnocgkhhbpiiaaM4w
namespace Go.Proofs.Ytfnocgkhhbpiiaa.P4
open Go.RowKit Go.Proofs.Ytfnocgkhhbpiiaa.Mem Go.Proofs.Ytfnocgkhhbpiiaa.M3p Go.Proofs.Ytfnocgkhhbpiiaa.C4p Go.Proofs.Ytfnocgkhhbpiiaa.C4l Go.Proofs.Ytfnocgkhhbpiiaa.C4v
set_option maxRecDepth 100000
set_option maxHeartbeats 1000000

theorem number_p (s : Bool) (r : UInt8) (w : World) :
    Calls Try.prog 17 #[.bool s, .int .u8 (r.toNat : Int)] w fun e w' => e = .returned (.int .i64 (num s r)) ∧ w = w' := by
  have hr := r.toNat_lt
  cases s
  · go_enter Try.func17, Try.ntmps17
    go_wp2
    go_ret
    exact ⟨ret_int (by unfold num; rw [if_neg (by simp)]), rfl⟩
  · by_cases h : 128 ≤ r.toNat
    · have h8 : IntKind.i8.wrap (r.toNat : Int) = (r.toNat : Int) - 256 := by unfold IntKind.wrap; simp [IntKind.bits, IntKind.signed]; omega
      go_enter Try.func17, Try.ntmps17
      go_wp2
      go_ret
      exact ⟨ret_int (by unfold num; rw [if_pos ⟨rfl, h⟩]), rfl⟩
    · have h8 : IntKind.i8.wrap (r.toNat : Int) = (r.toNat : Int) := by unfold IntKind.wrap; simp [IntKind.bits, IntKind.signed]; omega
      go_enter Try.func17, Try.ntmps17
      go_wp2
      go_ret
      exact ⟨ret_int (by unfold num; rw [if_neg (fun g => h g.2)]), rfl⟩
theorem factor_p (v : Int) (w : World) :
    Calls Try.prog 32 #[.int .i64 v] w fun e w' => e = .returned (.bool (decide (-512 ≤ v ∧ v ≤ 511))) ∧ w = w' := by
  go_enter Try.func32, Try.ntmps32
  go_wp2
  all_goals
    go_ret
    exact ⟨ret_bool (by rw [Bool.eq_iff_iff]; simp; try omega), rfl⟩
theorem expo_p (v : Int) (w : World) :
    Calls Try.prog 33 #[.int .i64 v] w fun e w' => e = .returned (.bool (decide (-3 ≤ v ∧ v ≤ 3))) ∧ w = w' := by
  go_enter Try.func33, Try.ntmps33
  go_wp2
  all_goals
    go_ret
    exact ⟨ret_bool (by rw [Bool.eq_iff_iff]; simp; try omega), rfl⟩
theorem power_p (z : Int) (w : World) (h1 : 0 ≤ z) (h2 : z ≤ 12) :
    Calls Try.prog 46 #[.int .i64 z] w fun e w' => e = .returned (.int .i64 (ten z)) ∧ w = w' := by
  obtain ⟨n, rfl⟩ := Int.eq_ofNat_of_zero_le h1
  have hn : n ≤ 12 := by omega
  have ht : ten ((n : Nat) : Int) = ((10 ^ n : Nat) : Int) := ten_nat n
  obtain ⟨R, hR⟩ : ∃ R, R = 10 ^ n := ⟨_, rfl⟩
  have e : ten ((n : Nat) : Int) = (R : Int) := by rw [ht, hR]
  have e' : ten (Int.ofNat n) = (R : Int) := e
  first | rw [e'] | rw [e]
  have HR := Lib.hid hR
  clear ht hR e e' h1 h2
  go_enter Try.func46, Try.ntmps46
  go_wp2_with fail
  go_loop [3, 5] (fun v i => ∃ k m : Nat, k ≤ n ∧ i = .int .i64 k ∧ v = .int .i64 m ∧ m = 10 ^ k) (fun _ i => n - (intOf i).toNat)
  case atStart => exact ⟨0, 1, Nat.zero_le _, rfl, rfl, rfl⟩
  case round =>
    obtain ⟨k, m, hk, rfl, rfl, hm⟩ := hrel
    have hmb : m ≤ 1000000000000 := by rw [hm]; exact Nat.le_trans (Nat.pow_le_pow_right (by omega) (show k ≤ 12 by omega)) (by decide)
    have HM := Lib.hid hm
    clear hm
    by_cases hlt : k < n
    · go_wp2_with fail
      exact ⟨⟨k + 1, m * 10, by omega, by go_num, vi (by omega), by rw [HM.out, Nat.pow_succ]⟩, by simp [intOf]; omega⟩
    · obtain rfl : n = k := by omega
      go_wp2_with fail
      go_ret
      exact ⟨ret_int (by rw [HR.out, HM.out]), rfl⟩
theorem ddown_p (a b : Int) (w : World) (h1 : -9000000000000000000 ≤ a) (h2 : a ≤ 9000000000000000000) (hb : 0 < b) :
    Calls Try.prog 47 #[.int .i64 a, .int .i64 b] w fun e w' => e = .returned (.int .i64 (a / b)) ∧ w = w' := by
  have hf := ediv_t a b hb
  have hb0 : (b == 0) = false := by rw [beq_eq_false_iff_ne]; omega
  have q1 : (a.tdiv b).natAbs ≤ a.natAbs := by rw [Int.natAbs_tdiv]; exact Nat.div_le_self _ _
  have q2 : (a.tmod b).natAbs ≤ a.natAbs := by rw [Int.natAbs_tmod]; exact Nat.mod_le _ _
  have q3 : -9000000000000000000 ≤ a.tdiv b := by omega
  have q4 : a.tdiv b ≤ 9000000000000000000 := by omega
  have q5 : -9000000000000000000 ≤ a.tmod b := by omega
  have q6 : a.tmod b ≤ 9000000000000000000 := by omega
  clear q1 q2
  have HF := Lib.hid hf
  clear hf
  generalize a / b = R at *
  obtain ⟨q, hq⟩ : ∃ q, a.tdiv b = q := ⟨_, rfl⟩
  obtain ⟨r, hr⟩ : ∃ r, a.tmod b = r := ⟨_, rfl⟩
  rw [hq] at HF q3 q4
  rw [hr] at HF q5 q6
  go_enter Try.func47, Try.ntmps47
  go_wp2
  all_goals
    go_ret
    refine ⟨ret_int ?_, rfl⟩
    rw [HF.out]
    split <;> first | rfl | omega
end Go.Proofs.Ytfnocgkhhbpiiaa.P4
