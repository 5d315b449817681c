/- Walks: the program's sensor records: names, bits, the order of two thresholds. -/
import Derived.Test.YtekhpcfggbegaaaS09
import Derived.Test.YtekhpcfggbegaaaS16
namespace Go.Proofs.Ytekhpcfggbegaaa.Tb
open Go.RowKit Go.Proofs.Ytekhpcfggbegaaa.Mem Go.Proofs.Ytekhpcfggbegaaa.F2p Go.Proofs.Ytekhpcfggbegaaa.Ta
set_option maxRecDepth 100000
set_option maxHeartbeats 400000

theorem bits_andn (a m : Nat) : bits .andNot .u16 (a : Int) (m : Int) = ((andn a m : Nat) : Int) := by
  show IntKind.u16.wrap ((BitVec.ofInt 16 (a : Int) &&& ~~~BitVec.ofInt 16 (m : Int)).toNat : Int) = _
  rw [BitVec.ofInt_natCast, BitVec.ofInt_natCast]
  exact IntWalk.u16_in _ ⟨by omega, by have := andn_lt a m; unfold andn at this; omega⟩
theorem width_p (n : Int) (w : World) : Calls Try.prog 94 #[.int .i64 n] w fun e w' => e = .returned (.bool (wid n)) ∧ w = w' := by
  go_enter Try.func94, Try.ntmps94
  go_wp2
  all_goals
    go_ret
    exact ⟨ret_bool (by rw [Bool.eq_iff_iff]; simp [wid]; try omega), rfl⟩
theorem within_p (a m : Nat) (w : World) : Calls Try.prog 130 #[.int .u16 (a : Int), .int .u16 (m : Int)] w fun e w' => e = .returned (.bool (inm a m)) ∧ w = w' := by
  go_enter Try.func130, Try.ntmps130
  have hb := bits_andn a m
  unfold inm
  generalize andn a m = R at *
  go_wp2_with fail
  go_ret
  exact ⟨ret_bool (by rw [Bool.eq_iff_iff]; simp; try omega), rfl⟩
theorem follow_p (i j : Nat) (x y : Int) (w : World) : Calls Try.prog 179 #[.int .i64 (i : Int), .int .i64 (j : Int), .int .i64 x, .int .i64 y] w fun e w' => e = .returned (.bool (fol i j x y)) ∧ w = w' := by
  unfold fol
  obtain ⟨R, hR⟩ : ∃ R, R = (if j ≤ 2 then decide (y ≤ x) else if 3 ≤ i then decide (x ≤ y) else decide (x < y)) := ⟨_, rfl⟩
  rw [← hR]
  have HR := Lib.hid hR
  clear hR
  go_enter Try.func179, Try.ntmps179
  go_wp2
  all_goals
    go_ret
    refine ⟨ret_bool ?_, rfl⟩
    rw [HR.out]
    split
    · first | rfl | omega | (simp; omega)
    · split <;> first | rfl | omega | (simp; omega)
theorem and_one (x : Nat) (h : x < 256) : bits .and .u8 (x : Int) 1 = ((x % 2 : Nat) : Int) := by
  rw [show (1 : Int) = ((1 : Nat) : Int) from rfl]
  show IntKind.u8.wrap ((BitVec.ofInt 8 (x : Int) &&& BitVec.ofInt 8 ((1 : Nat) : Int)).toNat : Int) = _
  rw [BitVec.ofInt_natCast, BitVec.ofInt_natCast, BitVec.toNat_and, BitVec.toNat_ofNat, BitVec.toNat_ofNat, Nat.mod_eq_of_lt (show x < 2 ^ 8 by omega)]
  rw [show (1 % 2 ^ 8 : Nat) = 1 from rfl, Nat.and_one_is_mod]
  exact IntWalk.u8_in _ ⟨by omega, by omega⟩
theorem shr_nat (x i : Nat) : (x : Int) / 2 ^ i = ((x / 2 ^ i : Nat) : Int) := by
  rw [Int.natCast_ediv, Int.natCast_pow]; rfl
theorem has_p (mx r0 r1 r2 r3 r4 r5 : UInt8) (i : Nat) (hi : i < 6) (w : World) :
    Calls Try.prog 161 #[.agg #[.int .u8 (mx.toNat : Int), .int .u8 (r0.toNat : Int), .int .u8 (r1.toNat : Int), .int .u8 (r2.toNat : Int), .int .u8 (r3.toNat : Int), .int .u8 (r4.toNat : Int), .int .u8 (r5.toNat : Int)], .int .i64 (i : Int)] w fun e w' => e = .returned (.bool (has mx.toNat i)) ∧ Below w.heap.size w w' := by
  have hm := mx.toNat_lt
  have h1 : mx.toNat / 2 ^ i < 256 := Nat.lt_of_le_of_lt (Nat.div_le_self _ _) hm
  have h2 := and_one _ h1
  unfold has
  rw [← shr_nat] at h2
  generalize mx.toNat / 2 ^ i % 2 = R at *
  have hb : ∀ o, Below w.heap.size w (w.alloc o) := fun o => (Below.refl _ _).alloc (Nat.le_refl _) o
  have HB := Lib.hid hb
  clear hb h1
  go_enter Try.func161, Try.ntmps161
  go_wp2_with fail
  go_ret
  exact ⟨ret_bool (by rw [Bool.eq_iff_iff]; simp; try omega), HB.out _⟩
theorem okn_false {l : List UInt8} {k : Nat} (h : k < l.length) (hc : chr l[k] = false) : okn l = false := by
  unfold okn
  rw [all_false chr l k h hc, Bool.and_false]
theorem name_p (s : ByteArray) (hs : s.size ≤ maxLen) (w : World) : Calls Try.prog 93 #[.string s] w fun e w' => e = .returned (.bool (okn (bl s))) ∧ w = w' := by
  obtain ⟨R, hR⟩ : ∃ R, R = okn (bl s) := ⟨_, rfl⟩
  rw [← hR]
  unfold maxLen at hs
  by_cases h0 : s.size = 0
  · have hf : okn (bl s) = false := by unfold okn; rw [bl_len, h0]; rfl
    rw [hR, hf]
    clear hR hf
    go_enter Try.func93, Try.ntmps93
    go_wp2_with fail
    go_ret
    exact ⟨rfl, rfl⟩
  by_cases h16 : s.size ≤ 16
  case neg =>
    have hf : okn (bl s) = false := by unfold okn; rw [bl_len, decide_eq_false (show ¬ (1 ≤ s.size ∧ s.size ≤ 16) by omega)]; rfl
    rw [hR, hf]
    clear hR hf
    have hz : ((s.size : Int) == 0) = false := by rw [beq_eq_false_iff_ne]; omega
    go_enter Try.func93, Try.ntmps93
    go_wp2_with fail
    go_ret
    exact ⟨rfl, rfl⟩
  have hz : ((s.size : Int) == 0) = false := by rw [beq_eq_false_iff_ne]; omega
  have hyes : (∀ k (h : k < (bl s).length), chr (bl s)[k] = true) → R = true := fun h => by
    rw [hR]; unfold okn
    rw [bl_len, decide_eq_true (show 1 ≤ s.size ∧ s.size ≤ 16 by omega), Bool.true_and, List.all_eq_true]
    intro x hx
    obtain ⟨k, hk, rfl⟩ := List.getElem_of_mem hx
    exact h k hk
  have hno : ∀ k (h : k < (bl s).length), chr (bl s)[k] = false → R = false := fun k h hc => by rw [hR]; exact okn_false h hc
  have HY := Lib.hid hyes
  have HN := Lib.hid hno
  clear hyes hno hR h0
  go_enter Try.func93, Try.ntmps93
  go_wp2_with fail
  go_loop [14] (fun v => ∃ j : Nat, j ≤ s.size ∧ v = .int .i64 (j : Int) ∧ ∀ k (h : k < (bl s).length), k < j → chr (bl s)[k] = true) (fun v => s.size - (intOf v).toNat)
  case atStart => exact ⟨0, Nat.zero_le _, rfl, fun k h h0 => absurd h0 (Nat.not_lt_zero _)⟩
  case round =>
    obtain ⟨j, hj, rfl, hok⟩ := hrel
    have HOK := Lib.hid hok
    clear hok
    by_cases hlt : j < s.size
    · obtain ⟨x, hx⟩ : ∃ x : UInt8, x = s[j]'hlt := ⟨_, rfl⟩
      have hx2 : (bl s)[j]'(by rw [bl_len]; exact hlt) = x := by rw [hx]; rfl
      have hxl := x.toNat_lt
      have HX := Lib.hid hx2
      rw [eq_comm] at hx
      clear hx2
      by_cases h1 : x.toNat < 32
      · have hf := HN.out j (by rw [bl_len]; exact hlt) (by rw [HX.out]; unfold chr; rw [decide_eq_false (show ¬ 32 ≤ x.toNat by omega)]; rfl)
        subst hf
        go_wp2_with fail
        go_ret
        exact ⟨rfl, rfl⟩
      · by_cases h2 : 126 < x.toNat
        · have hf := HN.out j (by rw [bl_len]; exact hlt) (by rw [HX.out]; unfold chr; rw [decide_eq_false (show ¬ x.toNat ≤ 126 by omega), Bool.and_false])
          subst hf
          go_wp2_with fail
          go_ret
          exact ⟨rfl, rfl⟩
        · go_wp2_with fail
          refine ⟨⟨j + 1, by omega, by go_num, fun k h h0 => ?_⟩, by simp [intOf]; omega⟩
          rcases Nat.lt_or_ge k j with g | g
          · exact HOK.out k h g
          · obtain rfl : k = j := by omega
            rw [HX.out]
            unfold chr
            rw [decide_eq_true (show 32 ≤ x.toNat by omega), decide_eq_true (show x.toNat ≤ 126 by omega)]
            rfl
    · have hy := HY.out (fun k h => HOK.out k h (by rw [bl_len] at h; omega))
      subst hy
      go_wp2_with fail
      go_ret
      exact ⟨rfl, rfl⟩
theorem zero_p (f m b k1 k2 : Int) (s : Bool) (A : Option Addr) (n cp : Nat) (w : World) :
    Calls Try.prog 129 #[.agg #[.int .i64 f, .bool s, .int .i64 m, .int .i64 b, .int .i64 k1, .int .i64 k2, .slice A n cp]] w fun e w' => e = .returned (.bool (decide (f = 0) && (!s && (decide (m = 0) && (decide (b = 0) && (decide (k1 = 0) && (decide (k2 = 0) && decide (n = 0)))))))) ∧ Below w.heap.size w w' := by
  have hb : ∀ o, Below w.heap.size w (w.alloc o) := fun o => (Below.refl _ _).alloc (Nat.le_refl _) o
  have HB := Lib.hid hb
  clear hb
  obtain ⟨R, hR⟩ : ∃ R, R = (decide (f = 0) && (!s && (decide (m = 0) && (decide (b = 0) && (decide (k1 = 0) && (decide (k2 = 0) && decide (n = 0))))))) := ⟨_, rfl⟩
  rw [← hR]
  have HR := Lib.hid hR
  clear hR
  go_enter Try.func129, Try.ntmps129
  go_wp2_with fail
  all_goals
    go_ret
    refine ⟨ret_bool ?_, HB.out _⟩
    rw [HR.out]
    simp [*]
    try (rw [Bool.eq_iff_iff]; simp)
