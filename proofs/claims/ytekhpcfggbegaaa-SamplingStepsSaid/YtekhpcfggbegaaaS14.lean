/- Walks: the reference of conversions: tables. Walks: the reference of fixed-point numbers. Walks: the reference of fixed-point numbers: roots, digits. Walks: the reference of conversions: values. Walks: the program's package micro: numbers. Walks: the program's conversions: numbers, bounds, powers of ten, quotients rounded down. -/
import Derived.Test.YtekhpcfggbegaaaS13
import Derived.Test.YtekhpcfggbegaaaS02
import Derived.StillTailTactics
import Derived.Test.YtekhpcfggbegaaaS06
namespace Go.Proofs.Ytekhpcfggbegaaa.C4v
open Go.RowKit Go.Proofs.Ytekhpcfggbegaaa.Mem Go.Proofs.Ytekhpcfggbegaaa.M3p Go.Proofs.Ytekhpcfggbegaaa.C4p Go.Proofs.Ytekhpcfggbegaaa.C4l
set_option maxRecDepth 100000
set_option maxHeartbeats 4000000

/-- Rounding down, by the quotient and the rest that round toward zero. -/
theorem ediv_t (p d : Int) (hd : 0 < d) : p / d = if p.tmod d < 0 then p.tdiv d - 1 else p.tdiv d := by
  rw [Int.tdiv_eq_ediv, Int.tmod_eq_emod]
  have h0 := Int.emod_nonneg p (show d ≠ 0 by omega)
  have h1 := Int.emod_lt_of_pos p hd
  by_cases h : 0 ≤ p ∨ d ∣ p
  · rw [if_pos h, if_pos h, if_neg (by omega)]; omega
  · rw [if_neg h, if_neg h, if_pos (by omega), Int.sign_eq_one_of_pos hd]; omega
def pvAt (s : Bool) (l : List Pt) : Nat → Option (Int × Int)
  | 0 => none
  | j + 1 => (l[j]?).map fun q => (num s q.1, q.2)
theorem tab_step {s : Bool} {x : Int} {l : List Pt} {j : Nat} (hj : j < l.length) :
    tab s x (pvAt s l j) (l.drop j) = if num s l[j].1 < x then tab s x (pvAt s l (j + 1)) (l.drop (j + 1)) else if x = num s l[j].1 then l[j].2 else mid s x (pvAt s l j) l[j].1 l[j].2 := by
  rw [List.drop_eq_getElem_cons hj]
  have e : pvAt s l (j + 1) = some (num s l[j].1, l[j].2) := by
    show (l[j]?).map _ = _
    rw [List.getElem?_eq_getElem hj]
    rfl
  rw [e]
  exact tab_cons s x _ _ _ _
theorem tab_end {s : Bool} {x : Int} {l : List Pt} {j : Nat} (hj : l.length = j + 1) : tab s x (pvAt s l (j + 1)) (l.drop (j + 1)) = l[j].2 := by
  rw [List.drop_of_length_le (by omega)]
  have e : pvAt s l (j + 1) = some (num s l[j].1, l[j].2) := by
    show (l[j]?).map _ = _
    rw [List.getElem?_eq_getElem (by omega)]
    rfl
  rw [e]
  rfl
theorem num_b (s : Bool) (r : UInt8) : -128 ≤ num s r ∧ num s r ≤ 255 := by
  have := num_in s r
  unfold least at this
  cases s
  · rw [if_neg (by simp)] at this; omega
  · rw [if_pos rfl] at this; omega
end Go.Proofs.Ytekhpcfggbegaaa.C4v
namespace Go.Proofs.Ytekhpcfggbegaaa.M3r
open Go.RowKit Go.Proofs.Ytekhpcfggbegaaa.Mem Go.Proofs.Ytekhpcfggbegaaa.M3p
set_option maxRecDepth 100000
set_option maxHeartbeats 1000000

/-- What Div answers. -/
def dout (a b : Int) : Ending := .returned (.tuple #[.int .i64 (if clp b = 0 then 0 else divS a b), .int .i64 (if clp b = 0 then 12 else 0)])
end Go.Proofs.Ytekhpcfggbegaaa.M3r
namespace Go.Proofs.Ytekhpcfggbegaaa.M3r
open Go.RowKit Go.Proofs.Ytekhpcfggbegaaa.Mem Go.Proofs.Ytekhpcfggbegaaa.M3p Go.Proofs.Ytekhpcfggbegaaa.F2p
set_option maxRecDepth 100000
set_option maxHeartbeats 1000000

theorem bl_app (a b : ByteArray) : bl (a ++ b) = bl a ++ bl b := by
  unfold bl
  rw [ByteArray.data_append, Array.toList_append]
theorem digit_cut (d : Nat) (h : d < 10) : bl ((⟨#[48, 49, 50, 51, 52, 53, 54, 55, 56, 57]⟩ : ByteArray).extract d (d + 1)) = [UInt8.ofNat (48 + d)] := by
  have key : ∀ d, d < 10 → bl ((⟨#[48, 49, 50, 51, 52, 53, 54, 55, 56, 57]⟩ : ByteArray).extract d (d + 1)) = [UInt8.ofNat (48 + d)] := by decide +kernel
  exact key d h
theorem dgs_small {n : Nat} (h : n < 10) : dgs n = [UInt8.ofNat (48 + n)] := by rw [dgs, dif_pos h]
theorem dgs_big {n : Nat} (h : ¬ n < 10) : dgs n = dgs (n / 10) ++ [UInt8.ofNat (48 + n % 10)] := by rw [dgs, dif_neg h]
theorem dgs_len (n k : Nat) (h : n < 10 ^ k) (hk : 1 ≤ k) : (dgs n).length ≤ k := by
  induction k generalizing n with
  | zero => omega
  | succ k ih =>
    by_cases h10 : n < 10
    · rw [dgs_small h10]; simp
    · rw [dgs_big h10, List.length_append]
      have hk1 : 1 ≤ k := by
        rcases k with _ | k
        · simp at h; omega
        · omega
      have := ih (n / 10) (by rw [Nat.pow_succ] at h; omega) hk1
      simp; omega
theorem str_eq {s : ByteArray} {l : List UInt8} (h : bl s = l) : s = ⟨l.toArray⟩ := by rw [← h, mk_bl]
/-- The digits of a fraction, behind the point. -/
def frc : Nat → Nat → List UInt8
  | 0, _ => []
  | f + 1, p => if p = 0 then [] else UInt8.ofNat (48 + 10 * p / 1000000) :: frc f (10 * p % 1000000)
theorem frc_zero (f : Nat) : frc f 0 = [] := by cases f <;> rfl
def fmtN (n : Nat) : List UInt8 := dgs (n / 1000000) ++ if n % 1000000 = 0 then [] else 46 :: frc 6 (n % 1000000)
/-- The text of a number. -/
def fmt (v : Int) : List UInt8 := (if v < 0 then [45] else []) ++ fmtN v.natAbs
theorem frac_end (P k : Nat) (h : 6 ≤ k) : P * 10 ^ k % 1000000 = 0 := by
  rw [show k = 6 + (k - 6) by omega, Nat.pow_add, ← Nat.mul_assoc, Nat.mul_assoc, Nat.mul_comm (10 ^ 6), ← Nat.mul_assoc]
  exact Nat.mul_mod_left _ _
theorem frac_next (P k : Nat) : 10 * (P * 10 ^ k % 1000000) % 1000000 = P * 10 ^ (k + 1) % 1000000 := by
  rw [Nat.pow_succ, ← Nat.mul_assoc, Nat.mul_comm _ 10]
  rw [Nat.mul_mod 10 (P * 10 ^ k), Nat.mul_mod 10 (P * 10 ^ k % 1000000), Nat.mod_mod]
def lenS : Value → Nat
  | .string s => s.size
  | _ => 0
end Go.Proofs.Ytekhpcfggbegaaa.M3r
namespace Go.Proofs.Ytekhpcfggbegaaa.C4v
open Go.RowKit Go.Proofs.Ytekhpcfggbegaaa.Mem Go.Proofs.Ytekhpcfggbegaaa.M3p Go.Proofs.Ytekhpcfggbegaaa.M3r Go.Proofs.Ytekhpcfggbegaaa.C4p Go.Proofs.Ytekhpcfggbegaaa.C4l
set_option maxRecDepth 100000
set_option maxHeartbeats 4000000

theorem ten_in {z : Int} (h1 : 0 ≤ z) (h2 : z ≤ 12) : 1 ≤ ten z ∧ ten z ≤ 1000000000000 := by
  obtain ⟨n, rfl⟩ := Int.eq_ofNat_of_zero_le h1
  have e : ten (n : Int) = ((10 ^ n : Nat) : Int) := ten_nat n
  have g1 : 1 ≤ 10 ^ n := Nat.pow_pos (by omega)
  have g2 : 10 ^ n ≤ 1000000000000 := Nat.le_trans (Nat.pow_le_pow_right (by omega) (show n ≤ 12 by omega)) (by decide)
  rw [e]
  omega
theorem ten_in9 {z : Int} (h1 : 0 ≤ z) (h2 : z ≤ 9) : 1 ≤ ten z ∧ ten z ≤ 1000000000 := by
  obtain ⟨n, rfl⟩ := Int.eq_ofNat_of_zero_le h1
  have e : ten (n : Int) = ((10 ^ n : Nat) : Int) := ten_nat n
  have g1 : 1 ≤ 10 ^ n := Nat.pow_pos (by omega)
  have g2 : 10 ^ n ≤ 1000000000 := Nat.le_trans (Nat.pow_le_pow_right (by omega) (show n ≤ 9 by omega)) (by decide)
  rw [e]
  omega
theorem dout_is {y : Int} (h1 : -lim ≤ y) (h2 : y ≤ lim) : dout 1000000 y = .returned (.tuple #[.int .i64 (if y = 0 then 0 else divS 1000000 y), .int .i64 (if y = 0 then 12 else 0)]) := by
  unfold dout
  rw [clp_in h1 h2]
end Go.Proofs.Ytekhpcfggbegaaa.C4v
namespace Go.Proofs.Ytekhpcfggbegaaa.M3w
open Go.RowKit Go.Proofs.Ytekhpcfggbegaaa.Mem Go.Proofs.Ytekhpcfggbegaaa.M3p Go.Proofs.Ytekhpcfggbegaaa.M3r Go.Proofs.Ytekhpcfggbegaaa.F2p
set_option maxRecDepth 100000
set_option maxHeartbeats 1000000

theorem clamp_p (v : Int) (w : World) :
    Calls Try.prog 178 #[.int .i64 v] w fun e w' => e = .returned (.int .i64 (clp v)) ∧ w = w' := by
  go_enter Try.func178, Try.ntmps178
  go_wp2
  all_goals
    go_ret
    refine ⟨ret_int ?_, rfl⟩
    unfold clp lim
    split <;> (try split) <;> omega
/-- Rounding down, by the quotient and the rest that round toward zero. -/
theorem fdiv_t (a b : Int) (hb : b ≠ 0) : a.fdiv b = if a.tmod b ≠ 0 ∧ decide (a < 0) ≠ decide (b < 0) then a.tdiv b - 1 else a.tdiv b := by
  rw [Int.fdiv_eq_tdiv]
  by_cases hd : b ∣ a
  · rw [if_pos hd, if_neg (fun h => h.1 (Int.tmod_eq_zero_of_dvd hd)), Int.sub_zero]
  · rw [if_neg hd]
    have hm : a.tmod b ≠ 0 := fun h => hd (Int.dvd_of_tmod_eq_zero h)
    by_cases ha : 0 ≤ a
    · rw [if_pos ha]
      by_cases hb0 : 0 ≤ b
      · rw [if_pos hb0, if_neg (fun h => h.2 (by rw [decide_eq_false (by omega), decide_eq_false (by omega)])), Int.sub_zero]
      · rw [if_neg hb0, if_pos ⟨hm, by rw [decide_eq_false (by omega), decide_eq_true (by omega)]; decide⟩]
    · rw [if_neg ha]
      by_cases hb0 : 0 ≤ b
      · rw [if_pos hb0, if_pos ⟨hm, by rw [decide_eq_true (by omega), decide_eq_false (by omega)]; decide⟩, Int.sign_eq_one_of_pos (by omega)]
      · rw [if_neg hb0, if_neg (fun h => h.2 (by rw [decide_eq_true (by omega), decide_eq_true (by omega)])), Int.sign_eq_neg_one_of_neg (by omega)]
        omega
theorem fdiv_mul (x y : Int) : x.fdiv 1000000 = x / 1000000 ∧ (x / 1000000 * y + (x % 1000000 * y).fdiv 1000000) = x / 1000000 * y + x % 1000000 * y / 1000000 := by
  rw [Int.fdiv_eq_ediv_of_nonneg _ (by omega), Int.fdiv_eq_ediv_of_nonneg _ (by omega)]
  exact ⟨rfl, rfl⟩
theorem clp_neg {a : Int} (h : a < 0) : clp a < 0 := by unfold clp lim; split <;> (try split) <;> omega
end Go.Proofs.Ytekhpcfggbegaaa.M3w
namespace Go.Proofs.Ytekhpcfggbegaaa.P4
open Go.RowKit Go.Proofs.Ytekhpcfggbegaaa.Mem Go.Proofs.Ytekhpcfggbegaaa.M3p Go.Proofs.Ytekhpcfggbegaaa.C4p Go.Proofs.Ytekhpcfggbegaaa.C4l Go.Proofs.Ytekhpcfggbegaaa.C4v
set_option maxRecDepth 100000
set_option maxHeartbeats 1000000

theorem number_p (s : Bool) (r : UInt8) (w : World) :
    Calls Try.prog 61 #[.bool s, .int .u8 (r.toNat : Int)] w fun e w' => e = .returned (.int .i64 (num s r)) ∧ w = w' := by
  have hr := r.toNat_lt
  cases s
  · go_enter Try.func61, Try.ntmps61
    go_wp2
    go_ret
    exact ⟨ret_int (by unfold num; rw [if_neg (by simp)]), rfl⟩
  · by_cases h : 128 ≤ r.toNat
    · have h8 : IntKind.i8.wrap (r.toNat : Int) = (r.toNat : Int) - 256 := by unfold IntKind.wrap; simp [IntKind.bits, IntKind.signed]; omega
      go_enter Try.func61, Try.ntmps61
      go_wp2
      go_ret
      exact ⟨ret_int (by unfold num; rw [if_pos ⟨rfl, h⟩]), rfl⟩
    · have h8 : IntKind.i8.wrap (r.toNat : Int) = (r.toNat : Int) := by unfold IntKind.wrap; simp [IntKind.bits, IntKind.signed]; omega
      go_enter Try.func61, Try.ntmps61
      go_wp2
      go_ret
      exact ⟨ret_int (by unfold num; rw [if_neg (fun g => h g.2)]), rfl⟩
theorem factor_p (v : Int) (w : World) :
    Calls Try.prog 158 #[.int .i64 v] w fun e w' => e = .returned (.bool (decide (-512 ≤ v ∧ v ≤ 511))) ∧ w = w' := by
  go_enter Try.func158, Try.ntmps158
  go_wp2
  all_goals
    go_ret
    exact ⟨ret_bool (by rw [Bool.eq_iff_iff]; simp; try omega), rfl⟩
theorem expo_p (v : Int) (w : World) :
    Calls Try.prog 159 #[.int .i64 v] w fun e w' => e = .returned (.bool (decide (-3 ≤ v ∧ v ≤ 3))) ∧ w = w' := by
  go_enter Try.func159, Try.ntmps159
  go_wp2
  all_goals
    go_ret
    exact ⟨ret_bool (by rw [Bool.eq_iff_iff]; simp; try omega), rfl⟩
end Go.Proofs.Ytekhpcfggbegaaa.P4
