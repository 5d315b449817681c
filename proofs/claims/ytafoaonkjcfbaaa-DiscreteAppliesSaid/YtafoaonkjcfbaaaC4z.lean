/- Walks: the reference of conversions: values. -/
import Derived.Test.YtafoaonkjcfbaaaC4y
import Derived.Test.YtafoaonkjcfbaaaM4s
namespace Go.Proofs.Ytafoaonkjcfbaaa.C4v
open Go.RowKit Go.Proofs.Ytafoaonkjcfbaaa.Mem Go.Proofs.Ytafoaonkjcfbaaa.M3p Go.Proofs.Ytafoaonkjcfbaaa.M3r Go.Proofs.Ytafoaonkjcfbaaa.C4p Go.Proofs.Ytafoaonkjcfbaaa.C4l
set_option maxRecDepth 100000
set_option maxHeartbeats 4000000

theorem ten_in {z : Int} (h1 : 0 ≤ z) (h2 : z ≤ 12) : 1 ≤ ten z ∧ ten z ≤ 1000000000000 := by
  obtain ⟨n, rfl⟩ := Int.eq_ofNat_of_zero_le h1
  have e : ten (n : Int) = ((10 ^ n : Nat) : Int) := ten_nat n
  have g1 : 1 ≤ 10 ^ n := Nat.pow_pos (by omega)
  have g2 : 10 ^ n ≤ 1000000000000 := Nat.le_trans (Nat.pow_le_pow_right (by omega) (show n ≤ 12 by omega)) (by decide)
  rw [e]
  omega
theorem ten_in9 {z : Int} (h1 : 0 ≤ z) (h2 : z ≤ 9) : 1 ≤ ten z ∧ ten z ≤ 1000000000 := by
  obtain ⟨n, rfl⟩ := Int.eq_ofNat_of_zero_le h1
  have e : ten (n : Int) = ((10 ^ n : Nat) : Int) := ten_nat n
  have g1 : 1 ≤ 10 ^ n := Nat.pow_pos (by omega)
  have g2 : 10 ^ n ≤ 1000000000 := Nat.le_trans (Nat.pow_le_pow_right (by omega) (show n ≤ 9 by omega)) (by decide)
  rw [e]
  omega
theorem dout_is {y : Int} (h1 : -lim ≤ y) (h2 : y ≤ lim) : dout 1000000 y = .returned (.tuple #[.int .i64 (if y = 0 then 0 else divS 1000000 y), .int .i64 (if y = 0 then 12 else 0)]) := by
  unfold dout
  rw [clp_in h1 h2]
end Go.Proofs.Ytafoaonkjcfbaaa.C4v
