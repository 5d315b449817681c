/- Plain mathematics: a state turned bit by bit by its changes. -/
import Derived.Test.YtafoaonkjcfbaaaS09
namespace Go.Proofs.Ytafoaonkjcfbaaa.Ya
open Go.Proofs.Ytafoaonkjcfbaaa.Ta
set_option maxRecDepth 100000

theorem and_bit (a j : Nat) : a &&& 2 ^ j = if a.testBit j = true then 2 ^ j else 0 := by
  apply Nat.eq_of_testBit_eq
  intro i
  rw [Nat.testBit_and, Nat.testBit_two_pow]
  by_cases h : j = i
  · subst h
    cases hb : a.testBit j
    · rw [if_neg Bool.false_ne_true, Nat.zero_testBit]; rfl
    · rw [if_pos rfl, Nat.testBit_two_pow]; rfl
  · rw [decide_eq_false h, Bool.and_false]
    split
    · rw [Nat.testBit_two_pow, decide_eq_false h]
    · rw [Nat.zero_testBit]
theorem chs_self (a j : Nat) : chs a a j = [] := by
  induction j with
  | zero => rfl
  | succ j ih => rw [chs_same rfl, ih]
/-- What is turned after the first k changes. -/
def Turned (a b w k : Nat) : Prop := w < 64 ∧ ∀ i, w.testBit i = if i ∈ (ixs a b 6).take k then b.testBit i else a.testBit i
theorem turned_zero {a : Nat} (b : Nat) (h : a < 64) : Turned a b a 0 := ⟨h, fun i => by rw [List.take_zero, if_neg List.not_mem_nil]⟩
theorem turned_end {a b w : Nat} (ha : a < 64) (hb : b < 64) (h : Turned a b w (ixs a b 6).length) : w = b := by
  refine stays a b 6 (by omega) (by omega) w fun i => ?_
  have := h.2 i
  rwa [List.take_length] at this
theorem turned_old {a b w k : Nat} (h : Turned a b w k) (hk : k < (ixs a b 6).length) : w.testBit (ixs a b 6)[k] = a.testBit (ixs a b 6)[k] := by
  rw [h.2, if_neg (ixs_new a b 6 k hk)]
theorem turned_next {a b w k : Nat} (h : Turned a b w k) (hk : k < (ixs a b 6).length) : Turned a b (w ^^^ 2 ^ (ixs a b 6)[k]) (k + 1) := by
  have hj := ixs_get a b 6 k hk
  have hp : 2 ^ (ixs a b 6)[k] < 2 ^ 6 := Nat.pow_lt_pow_right (by omega) hj.1
  refine ⟨Nat.xor_lt_two_pow (n := 6) h.1 hp, fun i => ?_⟩
  rw [Nat.testBit_xor, Nat.testBit_two_pow]
  by_cases hi : (ixs a b 6)[k] = i
  · have ho := turned_old h hk
    rw [decide_eq_true hi, if_pos ((mem_take_succ hk i).2 (.inr hi.symm))]
    rw [← hi, ho]
    have := hj.2
    cases ha : a.testBit (ixs a b 6)[k] <;> cases hb : b.testBit (ixs a b 6)[k] <;> simp_all
  · rw [decide_eq_false hi, Bool.xor_false, h.2 i]
    by_cases hm : i ∈ (ixs a b 6).take k
    · rw [if_pos hm, if_pos ((mem_take_succ hk i).2 (.inl hm))]
    · rw [if_neg hm, if_neg (fun hh => ((mem_take_succ hk i).1 hh).elim hm (fun e => hi e.symm))]
/-- The index of the last change, before change k. -/
def lastOf (l : List Nat) (k : Nat) : Int := if k = 0 then -1 else (l.getD (k - 1) 0 : Nat)
theorem last_lt (a b k : Nat) (hk : k < (ixs a b 6).length) : lastOf (ixs a b 6) k < ((ixs a b 6)[k] : Nat) := by
  unfold lastOf
  split
  · omega
  · have h := ixs_lt a b 6 (m := k - 1) (k := k) (by omega) hk
    rw [List.getD_eq_getElem?_getD, List.getElem?_eq_getElem (by omega), Option.getD_some]
    omega
theorem last_next (a b k : Nat) (hk : k < (ixs a b 6).length) : lastOf (ixs a b 6) (k + 1) = ((ixs a b 6)[k] : Nat) := by
  unfold lastOf
  rw [if_neg (by omega), Nat.add_sub_cancel, List.getD_eq_getElem?_getD, List.getElem?_eq_getElem hk, Option.getD_some]
end Go.Proofs.Ytafoaonkjcfbaaa.Ya
