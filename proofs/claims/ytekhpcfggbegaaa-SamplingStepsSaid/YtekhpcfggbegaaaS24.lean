/- Plain mathematics of conversions: what the laws on linear values and on the other forms ask. -/
import Derived.Test.YtekhpcfggbegaaaS07
namespace Go.Proofs.Ytekhpcfggbegaaa.C4p
open Go.Proofs.Ytekhpcfggbegaaa.M3p
set_option maxRecDepth 100000

theorem clp_strict {z : Int} (h1 : -lim < clp z) (h2 : clp z < lim) : clp z = z := by
  unfold clp lim at *
  split at h1 <;> (try split at h1) <;> (try split) <;> (try split) <;> omega
theorem lin_zero (c : Cv) : lin c 0 = clp (c.b * ten (6 + c.k1 + c.k2)) := by
  unfold lin
  rw [Int.mul_zero, Int.zero_mul, Int.zero_add]
/-- From one number to the next a linear value grows by M * 10^K2, unless it is clamped. -/
theorem lin_step {c : Cv} {x : Int} (h1 : -lim < lin c x) (h2 : lin c x < lim) (h3 : -lim < lin c (x + 1)) (h4 : lin c (x + 1) < lim) : lin c (x + 1) - lin c x = c.m * ten (6 + c.k2) := by
  have e1 : lin c x = c.m * x * ten (6 + c.k2) + c.b * ten (6 + c.k1 + c.k2) := clp_strict h1 h2
  have e2 : lin c (x + 1) = c.m * (x + 1) * ten (6 + c.k2) + c.b * ten (6 + c.k1 + c.k2) := clp_strict h3 h4
  rw [e1, e2, Int.mul_add, Int.mul_one, Int.add_mul]
  omega
/-- The values of the four forms without a table. -/
theorem forms (c : Cv) (x : Int) :
    (c.f = 1 → valv c x = (lin c x, 0)) ∧ (c.f = 2 → (valv c x).2 = if lin c x = 0 then 12 else 0) ∧ (c.f = 3 → valv c x = (mulS (lin c x) (lin c x), 0)) ∧
    (c.f = 4 → valv c x = if lin c x < 0 then (0, 2) else ((rt (lin c x * 1000000).toNat : Int), 0)) := by
  refine ⟨fun h => ?_, fun h => ?_, fun h => ?_, fun h => ?_⟩
  · unfold valv; rw [if_neg (by omega), if_neg (by omega), if_neg (by omega), if_neg (by omega)]
  · unfold valv
    rw [if_neg (by omega), if_pos h]
    split <;> rfl
  · unfold valv; rw [if_neg (by omega), if_neg (by omega), if_pos h]
  · unfold valv; rw [if_neg (by omega), if_neg (by omega), if_neg (by omega), if_pos h]
theorem lin_form (c : Cv) (f : Int) (x : Int) : lin { c with f := f } x = lin c x := rfl
theorem square_nn (y : Int) : 0 ≤ mulS y y := by
  have h : 0 ≤ clp y * clp y / one := Int.ediv_nonneg (by
    rcases Int.le_total 0 (clp y) with g | g
    · exact Int.mul_nonneg g g
    · have := Int.mul_nonneg (show 0 ≤ -clp y by omega) (show 0 ≤ -clp y by omega)
      rwa [Int.neg_mul_neg] at this) (by decide)
  unfold mulS
  generalize clp y * clp y / one = z at *
  unfold clp lim
  split <;> (try split) <;> omega
/-- A root, rounded down, in whole numbers. -/
theorem rt_int {y : Int} (h1 : 0 ≤ y) : ((rt (y * 1000000).toNat : Nat) : Int) * ((rt (y * 1000000).toNat : Nat) : Int) ≤ y * 1000000 ∧ y * 1000000 < (((rt (y * 1000000).toNat : Nat) : Int) + 1) * (((rt (y * 1000000).toNat : Nat) : Int) + 1) := by
  obtain ⟨g1, g2⟩ := rt_is (y * 1000000).toNat
  generalize rt (y * 1000000).toNat = r at *
  have e1 : (r : Int) * (r : Int) = ((r * r : Nat) : Int) := by push_cast; rfl
  have e2 : ((r : Int) + 1) * ((r : Int) + 1) = (((r + 1) * (r + 1) : Nat) : Int) := by push_cast; rfl
  rw [e1, e2]
  generalize r * r = p at *
  generalize (r + 1) * (r + 1) = q at *
  omega
/-- A conversion stays valid when its form is turned into another one without a table. -/
theorem vld_form {c : Cv} {f : Int} (h : vld c = true) (h5 : c.f ≠ 5) (h1 : 1 ≤ f) (h4 : f ≤ 4) : vld { c with f := f } = true := by
  obtain ⟨-, hm, hp⟩ := vld_lin h h5
  unfold vld
  rw [if_pos ⟨h1, h4⟩]
  show (decide (-512 ≤ c.m ∧ c.m ≤ 511 ∧ -512 ≤ c.b ∧ c.b ≤ 511 ∧ -3 ≤ c.k1 ∧ c.k1 ≤ 3 ∧ -3 ≤ c.k2 ∧ c.k2 ≤ 3) && decide (c.p = [])) = true
  rw [decide_eq_true hm, decide_eq_true hp]
  rfl
/-- Between two points that follow one another, and at the points themselves. -/
theorem value_between {c : Cv} (h : vld c = true) (h5 : c.f = 5) {k : Nat} (hk : k + 1 < c.p.length) (r : UInt8) (h1 : num c.s c.p[k].1 ≤ num c.s r) (h2 : num c.s r ≤ num c.s c.p[k + 1].1) :
    (value c r).2 = 0 ∧ min c.p[k].2 c.p[k + 1].2 ≤ (value c r).1 ∧ (value c r).1 ≤ max c.p[k].2 c.p[k + 1].2 := by
  have hok := (vld_tab h h5).2.2
  have e : value c r = (tab c.s (num c.s r) none c.p, 0) := by
    unfold value valv
    rw [if_pos h, if_pos h5]
  rw [e]
  exact ⟨rfl, tab_at hk (fun n u e => by cases e) (fun _ => hok) h1 h2⟩
theorem value_point {c : Cv} (h : vld c = true) (h5 : c.f = 5) {k : Nat} (hk : k < c.p.length) : value c c.p[k].1 = (c.p[k].2, 0) := by
  have hok := (vld_tab h h5).2.2
  unfold value valv
  rw [if_pos h, if_pos h5, tab_point hk (fun n u e => by cases e) (fun _ => hok)]
/-- Nearest of the value of a raw reading has the same value. -/
theorem near_own {c : Cv} (h : vld c = true) {r : UInt8} (hr : (value c r).2 = 0) : ∃ q, near c (value c r).1 = (q, 0) ∧ value c q = value c r := by
  obtain ⟨v1, v2⟩ := value_in c r
  rcases near_is h (value c r).1 with ⟨-, hno⟩ | ⟨q, hq, hq0, hall⟩
  · exact absurd hr (hno r)
  · refine ⟨q, hq, ?_⟩
    have hd := hall r hr
    rw [clp_in v1 v2] at hd
    have e : (value c q).1 = (value c r).1 := by unfold dist at hd; omega
    exact Prod.ext e (hq0.trans hr.symm)
end Go.Proofs.Ytekhpcfggbegaaa.C4p
