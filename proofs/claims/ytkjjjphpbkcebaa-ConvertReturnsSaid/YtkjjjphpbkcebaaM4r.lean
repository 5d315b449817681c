/- Walks: the reference of fixed-point numbers. -/
import Derived.Test.YtkjjjphpbkcebaaM3p
import Derived.StillTailTactics
namespace Go.Proofs.Ytkjjjphpbkcebaa.M3r
open Go.RowKit Go.Proofs.Ytkjjjphpbkcebaa.Mem Go.Proofs.Ytkjjjphpbkcebaa.M3p
set_option maxRecDepth 100000
set_option maxHeartbeats 1000000

theorem clamp_r (v : Int) (w : World) :
    Calls Try.prog 39 #[.int .i64 v] w fun e w' => e = .returned (.int .i64 (clp v)) ∧ w = w' := by
  go_enter Try.func39, Try.ntmps39
  go_wp2
  all_goals
    go_ret
    refine ⟨ret_int ?_, rfl⟩
    unfold clp lim
    split <;> (try split) <;> omega
theorem floor_r (n : Int) (d : Nat) (w : World) (h1 : -9000000000000000000 ≤ n) (h2 : n ≤ 9000000000000000000) (hd : 1 ≤ d) (hd2 : d ≤ 1000000000000) :
    Calls Try.prog 65 #[.int .i64 n, .int .i64 (d : Int)] w fun e w' => e = .returned (.int .i64 (n / (d : Int))) ∧ w = w' := by
  have hm0 : ((d : Int) == 0) = false := by rw [beq_eq_false_iff_ne]; omega
  by_cases h0 : 0 ≤ n
  · have t1 : n.tdiv (d : Int) = n / (d : Int) := Int.tdiv_eq_ediv_of_nonneg h0
    have t2 : n.tmod (d : Int) = n % (d : Int) := Int.tmod_eq_emod_of_nonneg h0
    have q0 : 0 ≤ n / (d : Int) := Int.ediv_nonneg h0 (by omega)
    have q1 : n / (d : Int) ≤ n := Int.ediv_le_self _ h0
    have r0 : 0 ≤ n % (d : Int) := Int.emod_nonneg _ (by omega)
    have r1 : n % (d : Int) < d := Int.emod_lt_of_pos _ (by omega)
    generalize n / (d : Int) = q at *
    generalize n % (d : Int) = r at *
    go_enter Try.func65, Try.ntmps65
    go_wp2
    go_ret
    exact ⟨rfl, rfl⟩
  · obtain ⟨m, hm⟩ : ∃ m : Int, n = -m := ⟨-n, by omega⟩
    subst hm
    have t1 : (-m).tdiv (d : Int) = -(m / (d : Int)) := by rw [Int.neg_tdiv, Int.tdiv_eq_ediv_of_nonneg (by omega)]
    have t2 : (-m).tmod (d : Int) = -(m % (d : Int)) := by rw [Int.neg_tmod, Int.tmod_eq_emod_of_nonneg (by omega)]
    have q0 : 0 ≤ m / (d : Int) := Int.ediv_nonneg (by omega) (by omega)
    have q1 : m / (d : Int) ≤ m := Int.ediv_le_self _ (by omega)
    have r0 : 0 ≤ m % (d : Int) := Int.emod_nonneg _ (by omega)
    have r1 : m % (d : Int) < d := Int.emod_lt_of_pos _ (by omega)
    have hfl : ∀ z : Int, (∃ r : Int, 0 ≤ r ∧ r < (d : Int) ∧ -m = r + (d : Int) * z) → -m / (d : Int) = z := by
      rintro z ⟨r, hr0, hr1, hz⟩
      rw [hz, Int.add_mul_ediv_left _ _ (by omega), Int.ediv_eq_zero_of_lt hr0 hr1, Int.zero_add]
    have hme := Int.emod_add_mul_ediv m (d : Int)
    have HF := Lib.hid hfl
    have HM := Lib.hid hme
    clear hfl hme
    generalize hA : -m / (d : Int) = A at *
    have HA := Lib.hid hA
    clear hA
    generalize m / (d : Int) = q at *
    generalize m % (d : Int) = r at *
    by_cases hr : r = 0
    · subst hr
      have hA2 := HF.out (-q) ⟨0, by omega, by omega, by have := HM.out; rw [Int.mul_neg]; omega⟩
      go_enter Try.func65, Try.ntmps65
      go_wp2
      go_ret
      exact ⟨ret_int (by have := HA.out; omega), rfl⟩
    · have hA2 := HF.out (-q - 1) ⟨(d : Int) - r, by omega, by omega, by have := HM.out; rw [Int.mul_sub, Int.mul_neg]; omega⟩
      have hneg : -r < 0 := by omega
      go_enter Try.func65, Try.ntmps65
      go_wp2
      go_ret
      exact ⟨ret_int (by have := HA.out; omega), rfl⟩
theorem mul_r (a b : Int) (w : World) :
    Calls Try.prog 47 #[.int .i64 a, .int .i64 b] w fun e w' => e = .returned (.int .i64 (mulS a b)) ∧ w = w' := by
  obtain ⟨a1, a2⟩ := clp_le a
  obtain ⟨b1, b2⟩ := clp_le b
  have hs : mulS a b = clp (clp a / 1000000 * clp b + clp a % 1000000 * clp b / 1000000) := by
    unfold mulS
    rw [mul_parts]
    unfold one
    rfl
  rw [hs]
  unfold lim at a1 a2 b1 b2
  have ca := Lib.hid (fun u => clamp_r a u)
  have cb := Lib.hid (fun u => clamp_r b u)
  clear hs
  generalize clp a = x at *
  generalize clp b = y at *
  have hx := Int.emod_add_mul_ediv x 1000000
  have p0 : 0 ≤ x % 1000000 := Int.emod_nonneg _ (by decide)
  have p1 : x % 1000000 < 1000000 := Int.emod_lt_of_pos _ (by decide)
  have fl := Lib.hid (fun u => floor_r x 1000000 u (by omega) (by omega) (by omega) (by omega))
  have hxx : x - x / 1000000 * 1000000 = x % 1000000 := by omega
  have w1 : -1000001 ≤ x / 1000000 := by omega
  have w2 : x / 1000000 ≤ 1000001 := by omega
  clear hx
  generalize x / 1000000 = q at *
  generalize x % 1000000 = r at *
  obtain ⟨m1, m2⟩ := mul_le (c := 1000001) (d := 1000000000000) (by omega) w2 b1 b2
  obtain ⟨m3, m4⟩ := mul_le (a := r) (b := y) (c := 1000000) (d := 1000000000000) (by omega) (by omega) b1 b2
  have fm := Lib.hid (fun u => floor_r (r * y) 1000000 u (by omega) (by omega) (by omega) (by omega))
  go_enter Try.func47, Try.ntmps47
  go_wp2_with fail
  refine (ca.out _).mono ?_
  rintro e w' ⟨rfl, rfl⟩
  go_wp2_with fail
  refine (cb.out _).mono ?_
  rintro e w' ⟨rfl, rfl⟩
  go_wp2_with fail
  refine (fl.out _).mono ?_
  rintro e w' ⟨rfl, rfl⟩
  go_wp2_with fail
  refine (fm.out _).mono ?_
  rintro e w' ⟨rfl, rfl⟩
  have n1 : -1000000000001 ≤ r * y / 1000000 := by omega
  have n2 : r * y / 1000000 ≤ 1000000000001 := by omega
  go_wp2_with fail
  refine (clamp_r (q * y + r * y / 1000000) _).mono ?_
  rintro e w' ⟨rfl, rfl⟩
  go_wp2_with fail
  go_ret
  exact ⟨rfl, rfl⟩
/-- What Div answers. -/
def dout (a b : Int) : Ending := .returned (.tuple #[.int .i64 (if clp b = 0 then 0 else divS a b), .int .i64 (if clp b = 0 then 12 else 0)])
theorem div_r (a b : Int) (w : World) :
    Calls Try.prog 46 #[.int .i64 a, .int .i64 b] w fun e w' => e = dout a b ∧ w = w' := by
  obtain ⟨a1, a2⟩ := clp_le a
  obtain ⟨b1, b2⟩ := clp_le b
  unfold lim at a1 a2 b1 b2
  have ca := Lib.hid (fun u => clamp_r a u)
  have cb := Lib.hid (fun u => clamp_r b u)
  have hs : dout a b = .returned (.tuple #[.int .i64 (if clp b = 0 then 0 else clp (Int.fdiv (clp a * 1000000) (clp b))), .int .i64 (if clp b = 0 then 12 else 0)]) := rfl
  rw [hs]
  clear hs
  generalize clp a = x at *
  generalize clp b = y at *
  by_cases h0 : y = 0
  · subst h0
    rw [if_pos rfl, if_pos rfl]
    go_enter Try.func46, Try.ntmps46
    go_wp2_with fail
    refine (ca.out _).mono ?_
    rintro e w' ⟨rfl, rfl⟩
    go_wp2_with fail
    refine (cb.out _).mono ?_
    rintro e w' ⟨rfl, rfl⟩
    go_wp2_with fail
    go_ret2
    exact ⟨rfl, rfl⟩
  · rw [if_neg h0, if_neg h0]
    have hb0 : (y == 0) = false := by rw [beq_eq_false_iff_ne]; exact h0
    by_cases hn : y < 0
    · obtain ⟨d, rfl⟩ : ∃ d : Nat, y = -(d : Int) := ⟨(-y).toNat, by omega⟩
      have hf : (x * 1000000).fdiv (-(d : Int)) = -x * 1000000 / (d : Int) := by
        have e : x * 1000000 = -(-x * 1000000) := by rw [Int.neg_mul, Int.neg_neg]
        rw [e, Int.neg_fdiv_neg, Int.fdiv_eq_ediv_of_nonneg _ (by omega)]
      rw [hf]
      have fm := Lib.hid (fun u => floor_r (-x * 1000000) d u (by omega) (by omega) (by omega) (by omega))
      generalize hR : -x * 1000000 / (d : Int) = R at *
      clear hf h0
      go_enter Try.func46, Try.ntmps46
      go_wp2_with fail
      refine (ca.out _).mono ?_
      rintro e w' ⟨rfl, rfl⟩
      go_wp2_with fail
      refine (cb.out _).mono ?_
      rintro e w' ⟨rfl, rfl⟩
      clear hR
      go_wp2_with fail
      refine (fm.out _).mono ?_
      rintro e w' ⟨rfl, rfl⟩
      go_wp2_with fail
      refine (clamp_r R _).mono ?_
      rintro e w' ⟨rfl, rfl⟩
      go_wp2_with fail
      go_ret2
      exact ⟨rfl, rfl⟩
    · obtain ⟨d, rfl⟩ : ∃ d : Nat, y = (d : Int) := ⟨y.toNat, by omega⟩
      have hf : (x * 1000000).fdiv (d : Int) = x * 1000000 / (d : Int) := Int.fdiv_eq_ediv_of_nonneg _ (by omega)
      rw [hf]
      have fm := Lib.hid (fun u => floor_r (x * 1000000) d u (by omega) (by omega) (by omega) (by omega))
      generalize hR : x * 1000000 / (d : Int) = R at *
      clear hf h0 hR
      go_enter Try.func46, Try.ntmps46
      go_wp2_with fail
      refine (ca.out _).mono ?_
      rintro e w' ⟨rfl, rfl⟩
      go_wp2_with fail
      refine (cb.out _).mono ?_
      rintro e w' ⟨rfl, rfl⟩
      go_wp2_with fail
      refine (fm.out _).mono ?_
      rintro e w' ⟨rfl, rfl⟩
      go_wp2_with fail
      refine (clamp_r R _).mono ?_
      rintro e w' ⟨rfl, rfl⟩
      go_wp2_with fail
      go_ret2
      exact ⟨rfl, rfl⟩
end Go.Proofs.Ytkjjjphpbkcebaa.M3r
