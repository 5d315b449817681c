/- Plain mathematics of changes: how many there are, there and back, by way of a third state. -/
import Derived.Test.YtafoaonkjcfbaaaS43
namespace Go.Proofs.Ytafoaonkjcfbaaa.Ya
set_option maxRecDepth 100000

/-- How many of the first bits are set. -/
def pc (x : Nat) : Nat → Nat
  | 0 => 0
  | j + 1 => pc x j + (if x.testBit j = true then 1 else 0)
theorem pc_succ (x j : Nat) : pc x (j + 1) = pc x j + (if x.testBit j = true then 1 else 0) := rfl
theorem ixs_pc (a b j : Nat) : (ixs a b j).length = pc (a ^^^ b) j := by
  induction j with
  | zero => rfl
  | succ j ih =>
    rw [ixs_succ, List.length_append, ih, pc_succ, Nat.testBit_xor]
    congr 1
    cases a.testBit j <;> cases b.testBit j <;> rfl
theorem pc_end (x r n : Nat) (h : x < 2 ^ r) (hr : r ≤ n) : pc x n = pc x r := by
  induction n with
  | zero => obtain rfl : r = 0 := by omega
            rfl
  | succ n ih =>
    by_cases h1 : r = n + 1
    · rw [h1]
    · rw [pc_succ, ih (by omega), Nat.testBit_lt_two_pow (Nat.lt_of_lt_of_le h (Nat.pow_le_pow_right (by omega) (by omega)))]
      rfl
theorem pc_le (x j : Nat) : pc x j ≤ j := by
  induction j with
  | zero => exact Nat.le_refl _
  | succ j ih => rw [pc_succ]; split <;> omega
theorem pc_bit (x j : Nat) : pc x (j + 1) = pc x j + x / 2 ^ j % 2 := by
  show pc x j + _ = _
  congr 1
  rw [Nat.testBit_eq_decide_div_mod_eq]
  by_cases h : x / 2 ^ j % 2 = 1
  · rw [decide_eq_true h, h]; rfl
  · rw [decide_eq_false h]; simp; omega
/-- By way of a third state. -/
theorem ixs_way (x y z j : Nat) : ∃ d, (ixs x z j).length + (ixs z y j).length = (ixs x y j).length + 2 * d := by
  induction j with
  | zero => exact ⟨0, rfl⟩
  | succ j ih =>
    obtain ⟨d, ih⟩ := ih
    rw [ixs_succ, ixs_succ, ixs_succ, List.length_append, List.length_append, List.length_append]
    have e : ∀ (b : Bool) (c : Bool), (if b = c then ([] : List Nat) else [j]).length = if b = c then 0 else 1 := fun b c => by split <;> rfl
    rw [e, e, e]
    cases x.testBit j <;> cases y.testBit j <;> cases z.testBit j <;> simp <;> first | exact ⟨d, by omega⟩ | exact ⟨d + 1, by omega⟩
theorem ixs_back (a b j : Nat) : ixs b a j = ixs a b j := by
  unfold ixs
  congr 1
  funext i
  cases a.testBit i <;> cases b.testBit i <;> rfl
theorem and_xor (a b s : Nat) : (a ^^^ b) &&& s = (a &&& s) ^^^ (b &&& s) := by
  apply Nat.eq_of_testBit_eq
  intro i
  rw [Nat.testBit_and, Nat.testBit_xor, Nat.testBit_xor, Nat.testBit_and, Nat.testBit_and]
  cases a.testBit i <;> cases b.testBit i <;> cases s.testBit i <;> rfl
end Go.Proofs.Ytafoaonkjcfbaaa.Ya
