/- Plain mathematics of fixed-point numbers. -/
import Derived.Test.YtekhpcfggbegaaaS01
namespace Go.Proofs.Ytekhpcfggbegaaa.M3p
def lim : Int := 1000000000000
def one : Int := 1000000
def clp (v : Int) : Int := if v < -lim then -lim else if lim < v then lim else v
theorem clp_le (v : Int) : -lim ≤ clp v ∧ clp v ≤ lim := by unfold clp lim; split <;> (try split) <;> omega
theorem clp_in {v : Int} (h : -lim ≤ v) (h2 : v ≤ lim) : clp v = v := by unfold clp lim at *; split <;> (try split) <;> omega
theorem clp_clp (v : Int) : clp (clp v) = clp v := clp_in (clp_le v).1 (clp_le v).2
theorem clp_mono {a b : Int} (h : a ≤ b) : clp a ≤ clp b := by unfold clp lim; split <;> split <;> (try split) <;> (try split) <;> omega
def addS (a b : Int) : Int := clp (clp a + clp b)
def subS (a b : Int) : Int := clp (clp a - clp b)
/-- The product, rounded down. -/
def mulS (a b : Int) : Int := clp (clp a * clp b / one)
/-- The quotient, rounded down; the divisor is not 0. -/
def divS (a b : Int) : Int := clp (Int.fdiv (clp a * one) (clp b))
theorem mul_le {a b c d : Int} (h1 : -c ≤ a) (h2 : a ≤ c) (h3 : -d ≤ b) (h4 : b ≤ d) : -(c * d) ≤ a * b ∧ a * b ≤ c * d := by
  have g1 := Int.mul_nonneg (show 0 ≤ c - a by omega) (show 0 ≤ d - b by omega)
  have g2 := Int.mul_nonneg (show 0 ≤ c + a by omega) (show 0 ≤ d + b by omega)
  have g3 := Int.mul_nonneg (show 0 ≤ c - a by omega) (show 0 ≤ d + b by omega)
  have g4 := Int.mul_nonneg (show 0 ≤ c + a by omega) (show 0 ≤ d - b by omega)
  rw [Int.sub_mul, Int.mul_sub, Int.mul_sub] at g1
  rw [Int.add_mul, Int.mul_add, Int.mul_add] at g2
  rw [Int.sub_mul, Int.mul_add, Int.mul_add] at g3
  rw [Int.add_mul, Int.mul_sub, Int.mul_sub] at g4
  omega
/-- A product by its first factor's whole and part. -/
theorem mul_parts (x y : Int) : x * y / one = x / one * y + x % one * y / one := by
  have h : x * y = x % one * y + one * (x / one * y) := by
    have := Int.emod_add_mul_ediv x one
    calc x * y = (x % one + one * (x / one)) * y := by rw [this]
      _ = _ := by rw [Int.add_mul, Int.mul_assoc]
  rw [h, Int.add_mul_ediv_left _ _ (by decide), Int.add_comm]
theorem mulS_comm (a b : Int) : mulS a b = mulS b a := by unfold mulS; rw [Int.mul_comm]
theorem addS_comm (a b : Int) : addS a b = addS b a := by unfold addS; rw [Int.add_comm]
/-- The whole root. -/
def isRoot (n r : Nat) : Prop := r * r ≤ n ∧ n < (r + 1) * (r + 1)
theorem root_one {n r s : Nat} (h : isRoot n r) (h2 : isRoot n s) : r = s := by
  rcases Nat.lt_trichotomy r s with hlt | he | hlt
  · have := Nat.mul_le_mul (show r + 1 ≤ s by omega) (show r + 1 ≤ s by omega)
    have := h.2; have := h2.1; omega
  · exact he
  · have := Nat.mul_le_mul (show s + 1 ≤ r by omega) (show s + 1 ≤ r by omega)
    have := h2.2; have := h.1; omega
theorem root_mono {n m r s : Nat} (h : isRoot n r) (h2 : isRoot m s) (hnm : n ≤ m) : r ≤ s := by
  rcases Nat.lt_or_ge s r with hlt | hge
  · have := Nat.mul_le_mul (show s + 1 ≤ r by omega) (show s + 1 ≤ r by omega)
    have := h2.2; have := h.1; omega
  · exact hge
/-! Decimal texts. -/
def isd (x : UInt8) : Bool := decide (48 ≤ x.toNat ∧ x.toNat ≤ 57)
def dv (x : UInt8) : Nat := x.toNat - 48
def val (l : List UInt8) : Nat := l.foldl (fun v x => 10 * v + dv x) 0
theorem val_snoc (l : List UInt8) (x : UInt8) : val (l ++ [x]) = 10 * val l + dv x := by unfold val; rw [List.foldl_append]; rfl
theorem fold_lt (l : List UInt8) (acc : Nat) (h : ∀ x ∈ l, isd x = true) : l.foldl (fun v x => 10 * v + dv x) acc < (acc + 1) * 10 ^ l.length := by
  induction l generalizing acc with
  | nil => simp
  | cons x l ih =>
    have hx := h x (by simp)
    simp [isd] at hx
    have := ih (10 * acc + dv x) (fun y hy => h y (by simp [hy]))
    rw [List.foldl_cons, List.length_cons]
    refine Nat.lt_of_lt_of_le this ?_
    rw [Nat.pow_succ, Nat.mul_comm (10 ^ l.length) 10, ← Nat.mul_assoc]
    exact Nat.mul_le_mul_right _ (by unfold dv; omega)
theorem val_lt (l : List UInt8) (h : ∀ x ∈ l, isd x = true) : val l < 10 ^ l.length := by
  have := fold_lt l 0 h
  rwa [Nat.zero_add, Nat.one_mul] at this
/-- The digits of a number. -/
def dgs (n : Nat) : List UInt8 := if _h : n < 10 then [UInt8.ofNat (48 + n)] else dgs (n / 10) ++ [UInt8.ofNat (48 + n % 10)]
termination_by n
decreasing_by omega
theorem dig_isd (d : Nat) (h : d < 10) : isd (UInt8.ofNat (48 + d)) = true ∧ dv (UInt8.ofNat (48 + d)) = d := by
  have e : (UInt8.ofNat (48 + d)).toNat = 48 + d := by rw [UInt8.toNat_ofNat']; omega
  unfold isd dv
  rw [e]
  exact ⟨decide_eq_true (by omega), by omega⟩
theorem val_dgs (n : Nat) : val (dgs n) = n ∧ (∀ x ∈ dgs n, isd x = true) ∧ 1 ≤ (dgs n).length := by
  rw [dgs]
  by_cases h : n < 10
  · rw [dif_pos h]
    obtain ⟨h1, h2⟩ := dig_isd n h
    refine ⟨?_, fun x hx => ?_, by simp⟩
    · have := val_snoc [] (UInt8.ofNat (48 + n))
      rw [List.nil_append, h2] at this
      rw [this]
      simp [val]
    · rw [List.mem_singleton.1 hx]; exact h1
  · rw [dif_neg h]
    obtain ⟨i1, i2, i3⟩ := val_dgs (n / 10)
    obtain ⟨h1, h2⟩ := dig_isd (n % 10) (Nat.mod_lt _ (by omega))
    refine ⟨by rw [val_snoc, i1, h2]; omega, fun x hx => ?_, by simp⟩
    rcases List.mem_append.1 hx with hx | hx
    · exact i2 x hx
    · rw [List.mem_singleton.1 hx]; exact h1
termination_by n
decreasing_by omega
end Go.Proofs.Ytekhpcfggbegaaa.M3p
