/- Walks: the reference of fixed-point numbers: roots, digits. -/
import Derived.Test.YtafoaonkjcfbaaaM4r
import Derived.Test.YtafoaonkjcfbaaaF2m
namespace Go.Proofs.Ytafoaonkjcfbaaa.M3r
open Go.RowKit Go.Proofs.Ytafoaonkjcfbaaa.Mem Go.Proofs.Ytafoaonkjcfbaaa.M3p Go.Proofs.Ytafoaonkjcfbaaa.F2p
set_option maxRecDepth 100000
set_option maxHeartbeats 1000000

theorem bl_app (a b : ByteArray) : bl (a ++ b) = bl a ++ bl b := by
  unfold bl
  rw [ByteArray.data_append, Array.toList_append]
theorem digit_cut (d : Nat) (h : d < 10) : bl ((⟨#[48, 49, 50, 51, 52, 53, 54, 55, 56, 57]⟩ : ByteArray).extract d (d + 1)) = [UInt8.ofNat (48 + d)] := by
  have key : ∀ d, d < 10 → bl ((⟨#[48, 49, 50, 51, 52, 53, 54, 55, 56, 57]⟩ : ByteArray).extract d (d + 1)) = [UInt8.ofNat (48 + d)] := by decide +kernel
  exact key d h
theorem dgs_small {n : Nat} (h : n < 10) : dgs n = [UInt8.ofNat (48 + n)] := by rw [dgs, dif_pos h]
theorem dgs_big {n : Nat} (h : ¬ n < 10) : dgs n = dgs (n / 10) ++ [UInt8.ofNat (48 + n % 10)] := by rw [dgs, dif_neg h]
theorem dgs_len (n k : Nat) (h : n < 10 ^ k) (hk : 1 ≤ k) : (dgs n).length ≤ k := by
  induction k generalizing n with
  | zero => omega
  | succ k ih =>
    by_cases h10 : n < 10
    · rw [dgs_small h10]; simp
    · rw [dgs_big h10, List.length_append]
      have hk1 : 1 ≤ k := by
        rcases k with _ | k
        · simp at h; omega
        · omega
      have := ih (n / 10) (by rw [Nat.pow_succ] at h; omega) hk1
      simp; omega
theorem str_eq {s : ByteArray} {l : List UInt8} (h : bl s = l) : s = ⟨l.toArray⟩ := by rw [← h, mk_bl]
/-- The digits of a fraction, behind the point. -/
def frc : Nat → Nat → List UInt8
  | 0, _ => []
  | f + 1, p => if p = 0 then [] else UInt8.ofNat (48 + 10 * p / 1000000) :: frc f (10 * p % 1000000)
theorem frc_zero (f : Nat) : frc f 0 = [] := by cases f <;> rfl
def fmtN (n : Nat) : List UInt8 := dgs (n / 1000000) ++ if n % 1000000 = 0 then [] else 46 :: frc 6 (n % 1000000)
/-- The text of a number. -/
def fmt (v : Int) : List UInt8 := (if v < 0 then [45] else []) ++ fmtN v.natAbs
theorem frac_end (P k : Nat) (h : 6 ≤ k) : P * 10 ^ k % 1000000 = 0 := by
  rw [show k = 6 + (k - 6) by omega, Nat.pow_add, ← Nat.mul_assoc, Nat.mul_assoc, Nat.mul_comm (10 ^ 6), ← Nat.mul_assoc]
  exact Nat.mul_mod_left _ _
theorem frac_next (P k : Nat) : 10 * (P * 10 ^ k % 1000000) % 1000000 = P * 10 ^ (k + 1) % 1000000 := by
  rw [Nat.pow_succ, ← Nat.mul_assoc, Nat.mul_comm _ 10]
  rw [Nat.mul_mod 10 (P * 10 ^ k), Nat.mul_mod 10 (P * 10 ^ k % 1000000), Nat.mod_mod]
def lenS : Value → Nat
  | .string s => s.size
  | _ => 0
end Go.Proofs.Ytafoaonkjcfbaaa.M3r
