/- Walks: the program's package micro: numbers. -/
import Derived.Test.YtfnocgkhhbpiiaaM4s
namespace Go.Proofs.Ytfnocgkhhbpiiaa.M3w
open Go.RowKit Go.Proofs.Ytfnocgkhhbpiiaa.Mem Go.Proofs.Ytfnocgkhhbpiiaa.M3p Go.Proofs.Ytfnocgkhhbpiiaa.M3r Go.Proofs.Ytfnocgkhhbpiiaa.F2p
set_option maxRecDepth 100000
set_option maxHeartbeats 1000000

theorem clamp_p (v : Int) (w : World) :
    Calls Try.prog 44 #[.int .i64 v] w fun e w' => e = .returned (.int .i64 (clp v)) ∧ w = w' := by
  go_enter Try.func44, Try.ntmps44
  go_wp2
  all_goals
    go_ret
    refine ⟨ret_int ?_, rfl⟩
    unfold clp lim
    split <;> (try split) <;> omega
/-- Rounding down, by the quotient and the rest that round toward zero. -/
theorem fdiv_t (a b : Int) (hb : b ≠ 0) : a.fdiv b = if a.tmod b ≠ 0 ∧ decide (a < 0) ≠ decide (b < 0) then a.tdiv b - 1 else a.tdiv b := by
  rw [Int.fdiv_eq_tdiv]
  by_cases hd : b ∣ a
  · rw [if_pos hd, if_neg (fun h => h.1 (Int.tmod_eq_zero_of_dvd hd)), Int.sub_zero]
  · rw [if_neg hd]
    have hm : a.tmod b ≠ 0 := fun h => hd (Int.dvd_of_tmod_eq_zero h)
    by_cases ha : 0 ≤ a
    · rw [if_pos ha]
      by_cases hb0 : 0 ≤ b
      · rw [if_pos hb0, if_neg (fun h => h.2 (by rw [decide_eq_false (by omega), decide_eq_false (by omega)])), Int.sub_zero]
      · rw [if_neg hb0, if_pos ⟨hm, by rw [decide_eq_false (by omega), decide_eq_true (by omega)]; decide⟩]
    · rw [if_neg ha]
      by_cases hb0 : 0 ≤ b
      · rw [if_pos hb0, if_pos ⟨hm, by rw [decide_eq_true (by omega), decide_eq_false (by omega)]; decide⟩, Int.sign_eq_one_of_pos (by omega)]
      · rw [if_neg hb0, if_neg (fun h => h.2 (by rw [decide_eq_true (by omega), decide_eq_true (by omega)])), Int.sign_eq_neg_one_of_neg (by omega)]
        omega
theorem down_p (a b : Int) (w : World) (h1 : -9000000000000000000 ≤ a) (h2 : a ≤ 9000000000000000000) (hb : b ≠ 0) :
    Calls Try.prog 45 #[.int .i64 a, .int .i64 b] w fun e w' => e = .returned (.int .i64 (a.fdiv b)) ∧ w = w' := by
  have hf := fdiv_t a b hb
  have hb0 : (b == 0) = false := by rw [beq_eq_false_iff_ne]; exact hb
  have q1 : (a.tdiv b).natAbs ≤ a.natAbs := by rw [Int.natAbs_tdiv]; exact Nat.div_le_self _ _
  have q2 : (a.tmod b).natAbs ≤ a.natAbs := by rw [Int.natAbs_tmod]; exact Nat.mod_le _ _
  have q3 : -9000000000000000000 ≤ a.tdiv b := by omega
  have q4 : a.tdiv b ≤ 9000000000000000000 := by omega
  have q5 : -9000000000000000000 ≤ a.tmod b := by omega
  have q6 : a.tmod b ≤ 9000000000000000000 := by omega
  clear q1 q2
  have HF := Lib.hid hf
  clear hf
  generalize a.fdiv b = R at *
  obtain ⟨q, hq⟩ : ∃ q, a.tdiv b = q := ⟨_, rfl⟩
  obtain ⟨r, hr⟩ : ∃ r, a.tmod b = r := ⟨_, rfl⟩
  rw [hq] at HF q3 q4
  rw [hr] at HF q5 q6
  go_enter Try.func45, Try.ntmps45
  go_wp2
  all_goals
    go_ret
    refine ⟨ret_int ?_, rfl⟩
    have h := HF.out
    simp_all
theorem fdiv_mul (x y : Int) : x.fdiv 1000000 = x / 1000000 ∧ (x / 1000000 * y + (x % 1000000 * y).fdiv 1000000) = x / 1000000 * y + x % 1000000 * y / 1000000 := by
  rw [Int.fdiv_eq_ediv_of_nonneg _ (by omega), Int.fdiv_eq_ediv_of_nonneg _ (by omega)]
  exact ⟨rfl, rfl⟩
theorem mul_p (a b : Int) (w : World) :
    Calls Try.prog 41 #[.int .i64 a, .int .i64 b] w fun e w' => e = .returned (.int .i64 (mulS a b)) ∧ w = w' := by
  obtain ⟨a1, a2⟩ := clp_le a
  obtain ⟨b1, b2⟩ := clp_le b
  have hs : mulS a b = clp (clp a / 1000000 * clp b + clp a % 1000000 * clp b / 1000000) := by
    unfold mulS
    rw [mul_parts]
    unfold one
    rfl
  rw [hs]
  unfold lim at a1 a2 b1 b2
  have ca := Lib.hid (fun u => clamp_p a u)
  have cb := Lib.hid (fun u => clamp_p b u)
  clear hs
  generalize clp a = x at *
  generalize clp b = y at *
  have hx := Int.emod_add_mul_ediv x 1000000
  have p0 : 0 ≤ x % 1000000 := Int.emod_nonneg _ (by decide)
  have p1 : x % 1000000 < 1000000 := Int.emod_lt_of_pos _ (by decide)
  have fl := Lib.hid (fun u => by have h := down_p x 1000000 u (by omega) (by omega) (by decide); rw [Int.fdiv_eq_ediv_of_nonneg _ (by decide)] at h; exact h)
  have hxx : x - x / 1000000 * 1000000 = x % 1000000 := by omega
  have w1 : -1000001 ≤ x / 1000000 := by omega
  have w2 : x / 1000000 ≤ 1000001 := by omega
  clear hx
  generalize x / 1000000 = q at *
  generalize x % 1000000 = r at *
  obtain ⟨m1, m2⟩ := mul_le (c := 1000001) (d := 1000000000000) (by omega) w2 b1 b2
  obtain ⟨m3, m4⟩ := mul_le (a := r) (b := y) (c := 1000000) (d := 1000000000000) (by omega) (by omega) b1 b2
  have fm := Lib.hid (fun u => by have h := down_p (r * y) 1000000 u (by omega) (by omega) (by decide); rw [Int.fdiv_eq_ediv_of_nonneg _ (by decide)] at h; exact h)
  go_enter Try.func41, Try.ntmps41
  go_wp2_with fail
  refine (ca.out _).mono ?_
  rintro e w' ⟨rfl, rfl⟩
  go_wp2_with fail
  refine (cb.out _).mono ?_
  rintro e w' ⟨rfl, rfl⟩
  go_wp2_with fail
  refine (fl.out _).mono ?_
  rintro e w' ⟨rfl, rfl⟩
  go_wp2_with fail
  refine (fm.out _).mono ?_
  rintro e w' ⟨rfl, rfl⟩
  have n1 : -1000000000001 ≤ r * y / 1000000 := by omega
  have n2 : r * y / 1000000 ≤ 1000000000001 := by omega
  go_wp2_with fail
  refine (clamp_p (q * y + r * y / 1000000) _).mono ?_
  rintro e w' ⟨rfl, rfl⟩
  go_wp2_with fail
  go_ret
  exact ⟨rfl, rfl⟩
theorem div_p (a b : Int) (w : World) :
    Calls Try.prog 39 #[.int .i64 a, .int .i64 b] w fun e w' => e = dout a b ∧ w = w' := by
  obtain ⟨a1, a2⟩ := clp_le a
  obtain ⟨b1, b2⟩ := clp_le b
  unfold lim at a1 a2 b1 b2
  have ca := Lib.hid (fun u => clamp_p a u)
  have cb := Lib.hid (fun u => clamp_p b u)
  have hs : dout a b = .returned (.tuple #[.int .i64 (if clp b = 0 then 0 else clp (Int.fdiv (clp a * 1000000) (clp b))), .int .i64 (if clp b = 0 then 12 else 0)]) := rfl
  rw [hs]
  clear hs
  generalize clp a = x at *
  generalize clp b = y at *
  by_cases h0 : y = 0
  · subst h0
    rw [if_pos rfl, if_pos rfl]
    go_enter Try.func39, Try.ntmps39
    go_wp2_with fail
    refine (ca.out _).mono ?_
    rintro e w' ⟨rfl, rfl⟩
    go_wp2_with fail
    refine (cb.out _).mono ?_
    rintro e w' ⟨rfl, rfl⟩
    go_wp2_with fail
    go_ret2
    exact ⟨rfl, rfl⟩
  · rw [if_neg h0, if_neg h0]
    have hb0 : (y == 0) = false := by rw [beq_eq_false_iff_ne]; exact h0
    have fm := Lib.hid (fun u => down_p (x * 1000000) y u (by omega) (by omega) h0)
    clear h0
    generalize (x * 1000000).fdiv y = R at *
    go_enter Try.func39, Try.ntmps39
    go_wp2_with fail
    refine (ca.out _).mono ?_
    rintro e w' ⟨rfl, rfl⟩
    go_wp2_with fail
    refine (cb.out _).mono ?_
    rintro e w' ⟨rfl, rfl⟩
    go_wp2_with fail
    refine (fm.out _).mono ?_
    rintro e w' ⟨rfl, rfl⟩
    go_wp2_with fail
    refine (clamp_p R _).mono ?_
    rintro e w' ⟨rfl, rfl⟩
    go_wp2_with fail
    go_ret2
    exact ⟨rfl, rfl⟩
theorem clp_neg {a : Int} (h : a < 0) : clp a < 0 := by unfold clp lim; split <;> (try split) <;> omega
theorem rootn_p (a : Int) (w : World) (h : a < 0) :
    Calls Try.prog 42 #[.int .i64 a] w fun e w' => e = .returned (.tuple #[.int .i64 0, .int .i64 2]) ∧ w = w' := by
  have hc := clp_neg h
  obtain ⟨a1, a2⟩ := clp_le a
  unfold lim at a1 a2
  have ca := Lib.hid (fun u => clamp_p a u)
  generalize clp a = x at *
  go_enter Try.func42, Try.ntmps42
  go_wp2_with fail
  refine (ca.out _).mono ?_
  rintro e w' ⟨rfl, rfl⟩
  go_wp2_with fail
  go_ret2
  exact ⟨rfl, rfl⟩
theorem root_p (a : Int) (w : World) (h : 0 ≤ a) :
    Calls Try.prog 42 #[.int .i64 a] w fun e w' => (∃ r : Nat, e = .returned (.tuple #[.int .i64 r, .int .i64 0]) ∧ isRoot (clp a * 1000000).toNat r ∧ r ≤ 1000000000) ∧ w = w' := by
  obtain ⟨a1, a2⟩ := clp_le a
  have a0 : 0 ≤ clp a := by unfold clp lim; split <;> (try split) <;> omega
  unfold lim at a1 a2
  have ca := Lib.hid (fun u => clamp_p a u)
  generalize clp a = x at *
  obtain ⟨n, hn⟩ : ∃ n : Nat, x * 1000000 = (n : Int) := ⟨(x * 1000000).toNat, by omega⟩
  have hnt : (x * 1000000).toNat = n := by omega
  have hn2 : n ≤ 1000000000000000000 := by omega
  rw [hnt]
  clear hnt
  go_enter Try.func42, Try.ntmps42
  go_wp2_with fail
  refine (ca.out _).mono ?_
  rintro e w' ⟨rfl, rfl⟩
  go_wp2_with fail
  go_loop [5, 6] (fun v5 v6 => ∃ lo hi : Nat, lo ≤ hi ∧ hi ≤ 1000000000 ∧ v5 = .int .i64 lo ∧ v6 = .int .i64 hi ∧ lo * lo ≤ n ∧ n < (hi + 1) * (hi + 1)) (fun v5 v6 => (intOf v6).toNat - (intOf v5).toNat)
  case atStart => exact ⟨0, 1000000000, by omega, by omega, rfl, rfl, by omega, by omega⟩
  case round =>
    obtain ⟨lo, hi, hlh, hh, rfl, rfl, hlo, hhi⟩ := hrel
    by_cases hlt : lo < hi
    · obtain ⟨m, hm⟩ : ∃ m : Nat, m = (lo + hi + 1) / 2 := ⟨_, rfl⟩
      have m1 : lo < m := by omega
      have m2 : m ≤ hi := by omega
      have hmI : ((lo : Int) + (hi : Int) + 1) / 2 = (m : Int) := by omega
      have hPm := Nat.mul_le_mul (show m ≤ 1000000000 by omega) (show m ≤ 1000000000 by omega)
      obtain ⟨P, hP⟩ : ∃ P : Nat, P = m * m := ⟨_, rfl⟩
      have hPI : (m : Int) * (m : Int) = (P : Int) := by rw [hP]; push_cast; rfl
      rw [← hP] at hPm
      have HP := Lib.hid hP
      have HLO := Lib.hid hlo
      have HHI := Lib.hid hhi
      clear hm hP hlo hhi
      by_cases hle : P ≤ n
      · go_wp2_with fail
        exact ⟨⟨m, hi, m2, hh, vi hmI, rfl, by rw [← HP.out]; exact hle, HHI.out⟩, by simp [intOf]; omega⟩
      · go_wp2_with fail
        refine ⟨⟨lo, m - 1, by omega, by omega, rfl, vi (by omega), HLO.out, ?_⟩, by simp [intOf]; omega⟩
        rw [show m - 1 + 1 = m by omega, ← HP.out]; omega
    · obtain rfl : lo = hi := by omega
      have HLO := Lib.hid hlo
      have HHI := Lib.hid hhi
      clear hlo hhi
      go_wp2_with fail
      go_ret2
      exact ⟨⟨lo, rfl, ⟨HLO.out, HHI.out⟩, hh⟩, rfl⟩
end Go.Proofs.Ytfnocgkhhbpiiaa.M3w
