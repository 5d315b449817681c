/- Walks: the reference of fixed-point numbers: roots, digits. -/
import Derived.Test.YtkjjjphpbkcebaaM4r
import Derived.Test.YtkjjjphpbkcebaaF2m
namespace Go.Proofs.Ytkjjjphpbkcebaa.M3r
open Go.RowKit Go.Proofs.Ytkjjjphpbkcebaa.Mem Go.Proofs.Ytkjjjphpbkcebaa.M3p Go.Proofs.Ytkjjjphpbkcebaa.F2p
set_option maxRecDepth 100000
set_option maxHeartbeats 1000000

theorem root_neg (a : Int) (w : World) (h : a < 0) :
    Calls Try.prog 48 #[.int .i64 a] w fun e w' => e = .returned (.tuple #[.int .i64 0, .int .i64 2]) ∧ w = w' := by
  go_enter Try.func48, Try.ntmps48
  go_wp2_with fail
  go_ret2
  exact ⟨rfl, rfl⟩
theorem root_r (a : Int) (w : World) (h : 0 ≤ a) :
    Calls Try.prog 48 #[.int .i64 a] w fun e w' => (∃ r : Nat, e = .returned (.tuple #[.int .i64 r, .int .i64 0]) ∧ isRoot (clp a * 1000000).toNat r ∧ r ≤ 1000000000) ∧ w = w' := by
  obtain ⟨a1, a2⟩ := clp_le a
  have a0 : 0 ≤ clp a := by unfold clp lim; split <;> (try split) <;> omega
  unfold lim at a1 a2
  have ca := Lib.hid (fun u => clamp_r a u)
  generalize clp a = x at *
  obtain ⟨n, hn⟩ : ∃ n : Nat, x * 1000000 = (n : Int) := ⟨(x * 1000000).toNat, by omega⟩
  have hnt : (x * 1000000).toNat = n := by omega
  have hn2 : n ≤ 1000000000000000000 := by omega
  rw [hnt]
  clear hnt
  go_enter Try.func48, Try.ntmps48
  go_wp2_with fail
  refine (ca.out _).mono ?_
  rintro e w' ⟨rfl, rfl⟩
  go_wp2_with fail
  go_loop [5, 6] (fun v5 v6 => ∃ lo hi : Nat, lo ≤ hi ∧ hi ≤ 1000000000 ∧ v5 = .int .i64 lo ∧ v6 = .int .i64 hi ∧ lo * lo ≤ n ∧ n < (hi + 1) * (hi + 1)) (fun v5 v6 => (intOf v6).toNat - (intOf v5).toNat)
  case atStart => exact ⟨0, 1000000000, by omega, by omega, rfl, rfl, by omega, by omega⟩
  case round =>
    obtain ⟨lo, hi, hlh, hh, rfl, rfl, hlo, hhi⟩ := hrel
    by_cases hlt : lo < hi
    · obtain ⟨m, hm⟩ : ∃ m : Nat, m = (lo + hi + 1) / 2 := ⟨_, rfl⟩
      have m1 : lo < m := by omega
      have m2 : m ≤ hi := by omega
      have hmI : ((lo : Int) + (hi : Int) + 1) / 2 = (m : Int) := by omega
      have hPm := Nat.mul_le_mul (show m ≤ 1000000000 by omega) (show m ≤ 1000000000 by omega)
      obtain ⟨P, hP⟩ : ∃ P : Nat, P = m * m := ⟨_, rfl⟩
      have hPI : (m : Int) * (m : Int) = (P : Int) := by rw [hP]; push_cast; rfl
      rw [← hP] at hPm
      have HP := Lib.hid hP
      have HLO := Lib.hid hlo
      have HHI := Lib.hid hhi
      clear hm hP hlo hhi
      by_cases hle : P ≤ n
      · go_wp2_with fail
        exact ⟨⟨m, hi, m2, hh, vi hmI, rfl, by rw [← HP.out]; exact hle, HHI.out⟩, by simp [intOf]; omega⟩
      · go_wp2_with fail
        refine ⟨⟨lo, m - 1, by omega, by omega, rfl, vi (by omega), HLO.out, ?_⟩, by simp [intOf]; omega⟩
        rw [show m - 1 + 1 = m by omega, ← HP.out]; omega
    · obtain rfl : lo = hi := by omega
      have HLO := Lib.hid hlo
      have HHI := Lib.hid hhi
      clear hlo hhi
      go_wp2_with fail
      go_ret2
      exact ⟨⟨lo, rfl, ⟨HLO.out, HHI.out⟩, hh⟩, rfl⟩
theorem bl_app (a b : ByteArray) : bl (a ++ b) = bl a ++ bl b := by
  unfold bl
  rw [ByteArray.data_append, Array.toList_append]
theorem digit_cut (d : Nat) (h : d < 10) : bl ((⟨#[48, 49, 50, 51, 52, 53, 54, 55, 56, 57]⟩ : ByteArray).extract d (d + 1)) = [UInt8.ofNat (48 + d)] := by
  have key : ∀ d, d < 10 → bl ((⟨#[48, 49, 50, 51, 52, 53, 54, 55, 56, 57]⟩ : ByteArray).extract d (d + 1)) = [UInt8.ofNat (48 + d)] := by decide +kernel
  exact key d h
theorem dgs_small {n : Nat} (h : n < 10) : dgs n = [UInt8.ofNat (48 + n)] := by rw [dgs, dif_pos h]
theorem dgs_big {n : Nat} (h : ¬ n < 10) : dgs n = dgs (n / 10) ++ [UInt8.ofNat (48 + n % 10)] := by rw [dgs, dif_neg h]
theorem dgs_len (n k : Nat) (h : n < 10 ^ k) (hk : 1 ≤ k) : (dgs n).length ≤ k := by
  induction k generalizing n with
  | zero => omega
  | succ k ih =>
    by_cases h10 : n < 10
    · rw [dgs_small h10]; simp
    · rw [dgs_big h10, List.length_append]
      have hk1 : 1 ≤ k := by
        rcases k with _ | k
        · simp at h; omega
        · omega
      have := ih (n / 10) (by rw [Nat.pow_succ] at h; omega) hk1
      simp; omega
theorem str_eq {s : ByteArray} {l : List UInt8} (h : bl s = l) : s = ⟨l.toArray⟩ := by rw [← h, mk_bl]
/-- The digits of a fraction, behind the point. -/
def frc : Nat → Nat → List UInt8
  | 0, _ => []
  | f + 1, p => if p = 0 then [] else UInt8.ofNat (48 + 10 * p / 1000000) :: frc f (10 * p % 1000000)
theorem frc_zero (f : Nat) : frc f 0 = [] := by cases f <;> rfl
def fmtN (n : Nat) : List UInt8 := dgs (n / 1000000) ++ if n % 1000000 = 0 then [] else 46 :: frc 6 (n % 1000000)
/-- The text of a number. -/
def fmt (v : Int) : List UInt8 := (if v < 0 then [45] else []) ++ fmtN v.natAbs
theorem frac_end (P k : Nat) (h : 6 ≤ k) : P * 10 ^ k % 1000000 = 0 := by
  rw [show k = 6 + (k - 6) by omega, Nat.pow_add, ← Nat.mul_assoc, Nat.mul_assoc, Nat.mul_comm (10 ^ 6), ← Nat.mul_assoc]
  exact Nat.mul_mod_left _ _
theorem frac_next (P k : Nat) : 10 * (P * 10 ^ k % 1000000) % 1000000 = P * 10 ^ (k + 1) % 1000000 := by
  rw [Nat.pow_succ, ← Nat.mul_assoc, Nat.mul_comm _ 10]
  rw [Nat.mul_mod 10 (P * 10 ^ k), Nat.mul_mod 10 (P * 10 ^ k % 1000000), Nat.mod_mod]
def lenS : Value → Nat
  | .string s => s.size
  | _ => 0
end Go.Proofs.Ytkjjjphpbkcebaa.M3r
