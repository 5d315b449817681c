/- Walks: the reference of fixed-point numbers: Format. -/
import Derived.Test.YtnkhmhcgcmacgaaDoorM3s
namespace Go.Proofs.YtnkhmhcgcmacgaaDoor.M3r
open Go.RowKit Go.Proofs.YtnkhmhcgcmacgaaDoor.Mem Go.Proofs.YtnkhmhcgcmacgaaDoor.M3p Go.Proofs.YtnkhmhcgcmacgaaDoor.F2p
set_option maxRecDepth 100000
set_option maxHeartbeats 1000000

theorem format_r (v : Int) (w : World) :
    Calls Tryd.prog 34 #[.int .i64 v] w fun e w' => e = .returned (.string ⟨(fmt (clp v)).toArray⟩) ∧ w = w' := by
  obtain ⟨a1, a2⟩ := clp_le v
  unfold lim at a1 a2
  have ca := Lib.hid (fun u => clamp_r v u)
  generalize clp v = x at *
  obtain ⟨n, hn⟩ : ∃ n : Nat, n = x.natAbs := ⟨_, rfl⟩
  have hn12 : n ≤ 1000000000000 := by omega
  obtain ⟨q, hq⟩ : ∃ q : Nat, q = n / 1000000 := ⟨_, rfl⟩
  obtain ⟨P, hP⟩ : ∃ P : Nat, P = n % 1000000 := ⟨_, rfl⟩
  have HXN := Lib.hid hn.symm
  have HQ := Lib.hid hq.symm
  have HP := Lib.hid hP.symm
  have hqI : (n : Int) / 1000000 = (q : Int) := by omega
  have hpI : (n : Int) % 1000000 = (P : Int) := by omega
  have hq6 : q ≤ 1000000 := by omega
  have hP6 : P < 1000000 := by omega
  by_cases hx : x < 0
  · have hxI : x = -(n : Int) := by omega
    have HXI := Lib.hid hxI
    have hng : -x = (n : Int) := by omega
    clear hn hq hP hxI
    have hfull := Lib.hid (show fmt x = [45] ++ (dgs q ++ if P = 0 then [] else 46 :: frc 6 P) from by unfold fmt fmtN; rw [HXN.out, HQ.out, HP.out]; rw [if_pos (by omega)])
    go_enter Tryd.func34, Tryd.ntmps34
    go_wp2_with fail
    refine (ca.out _).mono ?_
    rintro e w' ⟨rfl, rfl⟩
    go_wp2_with fail
    refine (digits_r q _ (by omega)).mono ?_
    rintro e w' ⟨rfl, rfl⟩
    obtain ⟨T, hT⟩ : ∃ T : ByteArray, T = ⟨(dgs q).toArray⟩ := ⟨_, rfl⟩
    rw [← hT]
    have hbT : bl T = dgs q := by rw [hT]; rfl
    have hTs : T.size ≤ 8 := by rw [← bl_len, hbT]; exact dgs_len q 8 (by omega) (by omega)
    have HBT := Lib.hid hbT
    clear hT hbT
    by_cases hP0 : P = 0
    · subst hP0
      go_wp2_with fail
      go_ret
      have hs : (⟨#[45]⟩ : ByteArray) ++ T = ⟨(fmt x).toArray⟩ := str_eq (by rw [bl_app, HBT.out, hfull.out]; simp [bl])
      exact ⟨congrArg (fun z => Ending.returned (.string z)) hs, rfl⟩
    · have hpz : ((P : Int) == 0) = false := by rw [beq_eq_false_iff_ne]; omega
      go_wp2_with fail
      have hS0 : bl (((⟨#[45]⟩ : ByteArray) ++ T) ++ ⟨#[46]⟩) ++ frc 6 P = fmt x := by rw [bl_app, bl_app, HBT.out, hfull.out, if_neg hP0]; simp [bl]
      have e1 : (⟨#[45]⟩ : ByteArray).size ≤ 1 := by decide
      have e2 : (⟨#[46]⟩ : ByteArray).size = 1 := by decide
      have hS1 : (((⟨#[45]⟩ : ByteArray) ++ T) ++ ⟨#[46]⟩).size ≤ 10 := by rw [ByteArray.size_append, ByteArray.size_append]; omega
      clear e1 e2
      go_loop [4, 5] (fun v4 v5 => ∃ (k p : Nat) (t : ByteArray), k ≤ 6 ∧ v5 = .int .i64 p ∧ v4 = .string t ∧ p = P * 10 ^ k % 1000000 ∧ t.size ≤ 10 + k ∧ bl t ++ frc (6 - k) p = fmt x) (fun v4 _ => 60 - lenS v4)
      case atStart => exact ⟨0, P, _, by omega, vi hpI, rfl, by rw [Nat.pow_zero, Nat.mul_one, Nat.mod_eq_of_lt hP6], hS1, hS0⟩
      case round =>
        obtain ⟨k, p, t, hk, rfl, rfl, hp, hts, hfm⟩ := hrel
        have HPK := Lib.hid hp
        have HFM := Lib.hid hfm
        have hp6 : p < 1000000 := by rw [hp]; exact Nat.mod_lt _ (by omega)
        clear hp hfm hS0 hS1 hqI hpI hng
        by_cases hp0 : p = 0
        · subst hp0
          go_wp2_with fail
          go_ret
          have hs : t = ⟨(fmt x).toArray⟩ := str_eq (by have := HFM.out; rw [frc_zero, List.append_nil] at this; exact this)
          exact ⟨congrArg (fun z => Ending.returned (.string z)) hs, rfl⟩
        · have hk6 : k < 6 := by
            rcases Nat.lt_or_ge k 6 with h | h
            · exact h
            · exact absurd (HPK.out.trans (frac_end P k h)) hp0
          obtain ⟨d, hd⟩ : ∃ d : Nat, d = 10 * p / 1000000 := ⟨_, rfl⟩
          obtain ⟨r, hr⟩ : ∃ r : Nat, r = 10 * p % 1000000 := ⟨_, rfl⟩
          have hdI2 : 10 * (p : Int) / 1000000 = (d : Int) := by omega
          have hrI2 : 10 * (p : Int) % 1000000 = (r : Int) := by omega
          have hd10 : d < 10 := by omega
          have hrn : r = P * 10 ^ (k + 1) % 1000000 := by rw [hr, HPK.out, frac_next]
          have hfr : frc (6 - k) p = UInt8.ofNat (48 + d) :: frc (6 - (k + 1)) r := by
            rw [show 6 - k = (6 - (k + 1)) + 1 by omega, frc, if_neg hp0, ← hd, ← hr]
          have HRN := Lib.hid hrn
          have HFR := Lib.hid hfr
          clear hd hr hrn hfr
          go_wp2_with fail
          refine (digits_r d _ (by omega)).mono ?_
          rintro e w' ⟨rfl, rfl⟩
          rw [dgs_small hd10]
          obtain ⟨D, hD⟩ : ∃ D : ByteArray, D = ⟨[UInt8.ofNat (48 + d)].toArray⟩ := ⟨_, rfl⟩
          rw [← hD]
          have hbD := Lib.hid (show bl D = [UInt8.ofNat (48 + d)] by rw [hD]; rfl)
          have hDs : D.size = 1 := by rw [hD]; rfl
          clear hD
          go_wp2_with fail
          have hsz : (t ++ D).size = t.size + 1 := by rw [ByteArray.size_append, hDs]
          refine ⟨⟨k + 1, r, t ++ D, by omega, vi hrI2, rfl, HRN.out, by omega, ?_⟩, ?_⟩
          · have := HFM.out
            rw [HFR.out] at this
            rw [bl_app, hbD.out, ← this, List.append_assoc]; rfl
          · show 60 - (t ++ D).size < 60 - t.size
            omega
  · have hxI : x = (n : Int) := by omega
    have HXI := Lib.hid hxI
    have hdI : x / 1000000 = (q : Int) := by rw [hxI]; exact hqI
    have hmI : x % 1000000 = (P : Int) := by rw [hxI]; exact hpI
    clear hn hq hP hxI
    have hfull := Lib.hid (show fmt x = (dgs q ++ if P = 0 then [] else 46 :: frc 6 P) from by unfold fmt fmtN; rw [HXN.out, HQ.out, HP.out]; rw [if_neg (by omega), List.nil_append])
    go_enter Tryd.func34, Tryd.ntmps34
    go_wp2_with fail
    refine (ca.out _).mono ?_
    rintro e w' ⟨rfl, rfl⟩
    go_wp2_with fail
    refine (digits_r q _ (by omega)).mono ?_
    rintro e w' ⟨rfl, rfl⟩
    obtain ⟨T, hT⟩ : ∃ T : ByteArray, T = ⟨(dgs q).toArray⟩ := ⟨_, rfl⟩
    rw [← hT]
    have hbT : bl T = dgs q := by rw [hT]; rfl
    have hTs : T.size ≤ 8 := by rw [← bl_len, hbT]; exact dgs_len q 8 (by omega) (by omega)
    have HBT := Lib.hid hbT
    clear hT hbT
    by_cases hP0 : P = 0
    · subst hP0
      go_wp2_with fail
      go_ret
      have hs : (⟨#[]⟩ : ByteArray) ++ T = ⟨(fmt x).toArray⟩ := str_eq (by rw [bl_app, HBT.out, hfull.out]; simp [bl])
      exact ⟨congrArg (fun z => Ending.returned (.string z)) hs, rfl⟩
    · have hpz : ((P : Int) == 0) = false := by rw [beq_eq_false_iff_ne]; omega
      go_wp2_with fail
      have hS0 : bl (((⟨#[]⟩ : ByteArray) ++ T) ++ ⟨#[46]⟩) ++ frc 6 P = fmt x := by rw [bl_app, bl_app, HBT.out, hfull.out, if_neg hP0]; simp [bl]
      have e1 : (⟨#[]⟩ : ByteArray).size ≤ 1 := by decide
      have e2 : (⟨#[46]⟩ : ByteArray).size = 1 := by decide
      have hS1 : (((⟨#[]⟩ : ByteArray) ++ T) ++ ⟨#[46]⟩).size ≤ 10 := by rw [ByteArray.size_append, ByteArray.size_append]; omega
      clear e1 e2
      go_loop [4, 5] (fun v4 v5 => ∃ (k p : Nat) (t : ByteArray), k ≤ 6 ∧ v5 = .int .i64 p ∧ v4 = .string t ∧ p = P * 10 ^ k % 1000000 ∧ t.size ≤ 10 + k ∧ bl t ++ frc (6 - k) p = fmt x) (fun v4 _ => 60 - lenS v4)
      case atStart => exact ⟨0, P, _, by omega, vi hmI, rfl, by rw [Nat.pow_zero, Nat.mul_one, Nat.mod_eq_of_lt hP6], hS1, hS0⟩
      case round =>
        obtain ⟨k, p, t, hk, rfl, rfl, hp, hts, hfm⟩ := hrel
        have HPK := Lib.hid hp
        have HFM := Lib.hid hfm
        have hp6 : p < 1000000 := by rw [hp]; exact Nat.mod_lt _ (by omega)
        clear hp hfm hS0 hS1 hqI hpI hdI hmI
        by_cases hp0 : p = 0
        · subst hp0
          go_wp2_with fail
          go_ret
          have hs : t = ⟨(fmt x).toArray⟩ := str_eq (by have := HFM.out; rw [frc_zero, List.append_nil] at this; exact this)
          exact ⟨congrArg (fun z => Ending.returned (.string z)) hs, rfl⟩
        · have hk6 : k < 6 := by
            rcases Nat.lt_or_ge k 6 with h | h
            · exact h
            · exact absurd (HPK.out.trans (frac_end P k h)) hp0
          obtain ⟨d, hd⟩ : ∃ d : Nat, d = 10 * p / 1000000 := ⟨_, rfl⟩
          obtain ⟨r, hr⟩ : ∃ r : Nat, r = 10 * p % 1000000 := ⟨_, rfl⟩
          have hdI2 : 10 * (p : Int) / 1000000 = (d : Int) := by omega
          have hrI2 : 10 * (p : Int) % 1000000 = (r : Int) := by omega
          have hd10 : d < 10 := by omega
          have hrn : r = P * 10 ^ (k + 1) % 1000000 := by rw [hr, HPK.out, frac_next]
          have hfr : frc (6 - k) p = UInt8.ofNat (48 + d) :: frc (6 - (k + 1)) r := by
            rw [show 6 - k = (6 - (k + 1)) + 1 by omega, frc, if_neg hp0, ← hd, ← hr]
          have HRN := Lib.hid hrn
          have HFR := Lib.hid hfr
          clear hd hr hrn hfr
          go_wp2_with fail
          refine (digits_r d _ (by omega)).mono ?_
          rintro e w' ⟨rfl, rfl⟩
          rw [dgs_small hd10]
          obtain ⟨D, hD⟩ : ∃ D : ByteArray, D = ⟨[UInt8.ofNat (48 + d)].toArray⟩ := ⟨_, rfl⟩
          rw [← hD]
          have hbD := Lib.hid (show bl D = [UInt8.ofNat (48 + d)] by rw [hD]; rfl)
          have hDs : D.size = 1 := by rw [hD]; rfl
          clear hD
          go_wp2_with fail
          have hsz : (t ++ D).size = t.size + 1 := by rw [ByteArray.size_append, hDs]
          refine ⟨⟨k + 1, r, t ++ D, by omega, vi hrI2, rfl, HRN.out, by omega, ?_⟩, ?_⟩
          · have := HFM.out
            rw [HFR.out] at this
            rw [bl_app, hbD.out, ← this, List.append_assoc]; rfl
          · show 60 - (t ++ D).size < 60 - t.size
            omega
end Go.Proofs.YtnkhmhcgcmacgaaDoor.M3r
