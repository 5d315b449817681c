/- Walks: the program's Apply and the reference's. -/
import Derived.Test.YtafoaonkjcfbaaaS26
import Derived.Test.YtafoaonkjcfbaaaS43
import Derived.Test.YtafoaonkjcfbaaaS32
namespace Go.Proofs.Ytafoaonkjcfbaaa.Zb
open Go.RowKit Go.Proofs.Ytafoaonkjcfbaaa.Mem Go.Proofs.Ytafoaonkjcfbaaa.F2p Go.Proofs.Ytafoaonkjcfbaaa.Ta Go.Proofs.Ytafoaonkjcfbaaa.Tb
set_option maxRecDepth 100000
set_option maxHeartbeats 1000000

theorem apl_next {st k : Nat} {l : List Ch} (h : k < l.length) (h1 : ¬ (l[k].i < 0 ∨ 14 < l[k].i)) (h2 : st.testBit l[k].i.toNat ≠ l[k].on) : apl st (l.drop k) = apl (st ^^^ 2 ^ l[k].i.toNat) (l.drop (k + 1)) := by
  rw [List.drop_eq_getElem_cons h, apl, if_neg h1, if_neg h2]
theorem apl_range {st k : Nat} {l : List Ch} (h : k < l.length) (h1 : l[k].i < 0 ∨ 14 < l[k].i) : apl st (l.drop k) = (0, 2) := by
  rw [List.drop_eq_getElem_cons h, apl, if_pos h1]
theorem apl_same {st k : Nat} {l : List Ch} (h : k < l.length) (h1 : ¬ (l[k].i < 0 ∨ 14 < l[k].i)) (h2 : st.testBit l[k].i.toNat = l[k].on) : apl st (l.drop k) = (0, 1) := by
  rw [List.drop_eq_getElem_cons h, apl, if_neg h1, if_pos h2]
theorem pow16 (j : Nat) (h : j ≤ 14) : 2 ^ j < 65536 := Nat.lt_of_lt_of_le (Nat.pow_lt_pow_right (n := 15) (by omega) (by omega)) (by omega)
theorem apply_d (st : Nat) (hst : st < 65536) (A : Option Addr) (n c : Nat) (l : List Ch) (w : World) (hsl : KSl w A n c l) :
    Calls Try.prog 46 #[.int .u16 (st : Int), .slice A n c] w fun e w' => e = .returned (.tuple #[.int .u16 ((apl st l).1 : Nat), .int .i64 ((apl st l).2 : Nat)]) ∧ Below w.heap.size w w' := by
  have hb0 : Below w.heap.size w w := Below.refl _ _
  have HLEN := Lib.hid hsl.len
  have hrow := hsl.row
  have hnm : n ≤ maxLen := Nat.le_trans hsl.cap hsl.max
  unfold maxLen at hnm
  obtain ⟨R, hR⟩ : ∃ R, R = apl st l := ⟨_, rfl⟩
  rw [← hR]
  have HR0 := Lib.hid (show R = apl st (l.drop 0) from hR)
  clear hR hsl
  go_enter Try.func46, Try.ntmps46
  go_wp2_with fail
  go_loopw [0, 7, 10] (fun s b i wr => ∃ k x : Nat, k ≤ n ∧ i = .int .i64 (k : Int) ∧ s = .int .u16 (x : Int) ∧ x < 65536 ∧ Hid (R = apl x (l.drop k)) ∧ Below w.heap.size w wr) (fun _ _ i _ => n - (intOf i).toNat)
  case atStart => exact ⟨0, st, Nat.zero_le _, rfl, rfl, hst, HR0, hb0⟩
  case round =>
    clear hb0 HR0
    obtain ⟨k, x, hk, rfl, rfl, hx, HR, hbel⟩ := hrel
    by_cases hkn : k < n
    · have hkl : k < l.length := by rw [← HLEN.out]; exact hkn
      obtain ⟨p, rfl, hpb, h0, h1⟩ := krow_at (Rd.below hrow hbel) hkl
      have a1 := apl_range (st := x) hkl
      have a2 := apl_same (st := x) hkl
      have a3 := apl_next (st := x) hkl
      rw [← HR.out] at a1 a2 a3
      have HA1 := Lib.hid a1
      have HA2 := Lib.hid a2
      have HA3 := Lib.hid a3
      clear a1 a2 a3
      generalize l[k] = c0 at *
      obtain ⟨z, on⟩ := c0
      dsimp only at h0 h1 HA1 HA2 HA3
      have h1' : wr.cell? ⟨(p.add (k * 2)).block, (p.add (k * 2)).off + 1, none⟩ = some (.bool on) := by rw [← h1, ← add_add]; rfl
      have n1 : (k : Int) < (n : Int) := by omega
      have n2 : (0 : Int) ≤ (k : Int) := by omega
      clear h1
      have hba := hbel.alloc hbel.size (.cells #[.int .i64 z, .bool on] 88)
      have hnew := heap_alloc_new wr (.cells #[.int .i64 z, .bool on] 88)
      have hnew2 : (wr.alloc (.cells #[.int .i64 z, .bool on] 88)).cell? ⟨wr.heap.size, 0, none⟩ = some (.int .i64 z) := cell_of_row _ _ 0 _ _ _ hnew
      have hnew3 : (wr.alloc (.cells #[.int .i64 z, .bool on] 88)).cell? ⟨wr.heap.size, 1, none⟩ = some (.bool on) := cell_of_row _ _ 1 _ _ _ hnew
      clear hnew
      by_cases hz1 : z < 0
      · have HE := Lib.hid (HA1.out (.inl hz1))
        go_wp2_with fail
        go_ret2
        rw [HE.out]
        exact ⟨rfl, hba⟩
      by_cases hz2 : 14 < z
      · have HE := Lib.hid (HA1.out (.inr hz2))
        go_wp2_with fail
        go_ret2
        rw [HE.out]
        exact ⟨rfl, hba⟩
      have hz3 : ¬ (z < 0 ∨ 14 < z) := by omega
      obtain ⟨j, rfl⟩ := Int.eq_ofNat_of_zero_le (show 0 ≤ z by omega)
      have hj : j ≤ 14 := by omega
      have a2 := HA2.out hz3
      have a3 := HA3.out hz3
      rw [Int.toNat_natCast] at a2 a3
      have HB2 := Lib.hid a2
      have HB3 := Lib.hid a3
      clear HA1 HA2 HA3 a2 a3 hz3
      have HX := Lib.hid fun (u : World) => Ya.has_d x j hx (by omega) u
      have hp := pow16 j hj
      have hxl : x ^^^ 2 ^ j < 65536 := Nat.xor_lt_two_pow (n := 16) hx hp
      have e3 := Ya.xor_u16 x (2 ^ j) hx hp
      have hpm : IntKind.u16.wrap ((2 : Int) ^ j) = ((2 ^ j : Nat) : Int) := by
        rw [show (2 : Int) ^ j = ((2 ^ j : Nat) : Int) by rw [Int.natCast_pow]; rfl]
        generalize 2 ^ j = q at *
        exact IntWalk.u16_in _ ⟨by omega, by omega⟩
      rw [← hpm] at e3
      have d1 : decide ((j : Int) < 0) = false := decide_eq_false (by omega)
      have d2 : decide (14 < (j : Int)) = false := decide_eq_false (by omega)
      have HP := Lib.hid hp
      have HPM := Lib.hid hpm
      have HXL := Lib.hid hxl
      clear hp hpm hxl
      generalize x ^^^ 2 ^ j = X at *
      generalize x.testBit j = y at *
      go_wp2_with fail
      go_quiet ((go_at_call 83; exact quiet_same (HX.out _)))
      have hbq : Below w.heap.size w ((wr.alloc (.cells #[.int .i64 (j : Int), .bool on] 88)).drewN nq) := ⟨hba.os, hba.tape, hba.output, hba.size, hba.block⟩
      have hnq : ((wr.alloc (.cells #[.int .i64 (j : Int), .bool on] 88)).drewN nq).cell? ⟨wr.heap.size, 0, none⟩ = some (.int .i64 (j : Int)) := hnew2
      generalize (wr.alloc (.cells #[.int .i64 (j : Int), .bool on] 88)).drewN nq = wq at *
      clear hnew2 hnew3 hba
      by_cases hy : y = on
      · have hyo : (y == on) = true := by rw [hy]; simp
        have HE := Lib.hid (HB2.out hy)
        rw [hyo]
        go_wp2_with fail
        go_ret2
        rw [HE.out]
        exact ⟨rfl, hbq⟩
      · have hyo : (y == on) = false := by cases y <;> cases on <;> first | rfl | exact absurd rfl hy
        have HE := Lib.hid (HB3.out hy)
        rw [hyo]
        go_wp2_with fail
        exact ⟨⟨k + 1, X, by omega, by go_num, rfl, HXL.out, HE, hbq⟩, by simp [intOf]; omega⟩
    · obtain rfl : k = n := by omega
      have hend := HR.out
      rw [List.drop_of_length_le (by rw [← HLEN.out]; exact Nat.le_refl _)] at hend
      have HEND := Lib.hid (show R = (x, 0) from hend)
      clear hend
      go_wp2_with fail
      go_ret2
      rw [HEND.out]
      exact ⟨rfl, hbel⟩
theorem apply_r (st : Nat) (hst : st < 65536) (A : Option Addr) (n c : Nat) (l : List Ch) (w : World) (hsl : KSl w A n c l) :
    Calls Try.prog 47 #[.int .u16 (st : Int), .slice A n c] w fun e w' => e = .returned (.tuple #[.int .u16 ((apl st l).1 : Nat), .int .i64 ((apl st l).2 : Nat)]) ∧ Below w.heap.size w w' := by
  have hb0 : Below w.heap.size w w := Below.refl _ _
  have HLEN := Lib.hid hsl.len
  have hrow := hsl.row
  have hnm : n ≤ maxLen := Nat.le_trans hsl.cap hsl.max
  unfold maxLen at hnm
  obtain ⟨R, hR⟩ : ∃ R, R = apl st l := ⟨_, rfl⟩
  rw [← hR]
  have HR0 := Lib.hid (show R = apl st (l.drop 0) from hR)
  clear hR hsl
  go_enter Try.func47, Try.ntmps47
  go_wp2_with fail
  go_loopw [6, 7] (fun s i wr => ∃ k x : Nat, k ≤ n ∧ i = .int .i64 (k : Int) ∧ s = .int .u16 (x : Int) ∧ x < 65536 ∧ Hid (R = apl x (l.drop k)) ∧ Below w.heap.size w wr) (fun _ i _ => n - (intOf i).toNat)
  case atStart => exact ⟨0, st, Nat.zero_le _, rfl, rfl, hst, HR0, hb0⟩
  case round =>
    clear hb0 HR0
    obtain ⟨k, x, hk, rfl, rfl, hx, HR, hbel⟩ := hrel
    by_cases hkn : k < n
    · have hkl : k < l.length := by rw [← HLEN.out]; exact hkn
      obtain ⟨p, rfl, hpb, h0, h1⟩ := krow_at (Rd.below hrow hbel) hkl
      have a1 := apl_range (st := x) hkl
      have a2 := apl_same (st := x) hkl
      have a3 := apl_next (st := x) hkl
      rw [← HR.out] at a1 a2 a3
      have HA1 := Lib.hid a1
      have HA2 := Lib.hid a2
      have HA3 := Lib.hid a3
      clear a1 a2 a3
      generalize l[k] = c0 at *
      obtain ⟨z, on⟩ := c0
      dsimp only at h0 h1 HA1 HA2 HA3
      have h1' : wr.cell? ⟨(p.add (k * 2)).block, (p.add (k * 2)).off + 1, none⟩ = some (.bool on) := by rw [← h1, ← add_add]; rfl
      have n1 : (k : Int) < (n : Int) := by omega
      have n2 : (0 : Int) ≤ (k : Int) := by omega
      clear h1
      by_cases hz1 : z < 0
      · have HE := Lib.hid (HA1.out (.inl hz1))
        go_wp2_with fail
        go_ret2
        rw [HE.out]
        exact ⟨rfl, hbel⟩
      by_cases hz2 : 14 < z
      · have HE := Lib.hid (HA1.out (.inr hz2))
        go_wp2_with fail
        go_ret2
        rw [HE.out]
        exact ⟨rfl, hbel⟩
      have hz3 : ¬ (z < 0 ∨ 14 < z) := by omega
      obtain ⟨j, rfl⟩ := Int.eq_ofNat_of_zero_le (show 0 ≤ z by omega)
      have hj : j ≤ 14 := by omega
      have a2 := HA2.out hz3
      have a3 := HA3.out hz3
      rw [Int.toNat_natCast] at a2 a3
      have HB2 := Lib.hid a2
      have HB3 := Lib.hid a3
      clear HA1 HA2 HA3 a2 a3 hz3
      have HX := Lib.hid fun (u : World) => by have := Tl.has_r x j hx (by omega) u; rw [Ya.has_tb] at this; exact this
      have hp := pow16 j hj
      have hxl : x ^^^ 2 ^ j < 65536 := Nat.xor_lt_two_pow (n := 16) hx hp
      have e3 := Ya.xor_u16 x (2 ^ j) hx hp
      have hpm : IntKind.u16.wrap ((2 : Int) ^ j) = ((2 ^ j : Nat) : Int) := by
        rw [show (2 : Int) ^ j = ((2 ^ j : Nat) : Int) by rw [Int.natCast_pow]; rfl]
        generalize 2 ^ j = q at *
        exact IntWalk.u16_in _ ⟨by omega, by omega⟩
      rw [← hpm] at e3
      have d1 : decide ((j : Int) < 0) = false := decide_eq_false (by omega)
      have d2 : decide (14 < (j : Int)) = false := decide_eq_false (by omega)
      have HP := Lib.hid hp
      have HPM := Lib.hid hpm
      have HXL := Lib.hid hxl
      clear hp hpm hxl
      generalize x ^^^ 2 ^ j = X at *
      generalize x.testBit j = y at *
      go_wp2_with fail
      go_quiet ((go_at_call 82; exact quiet_same (HX.out _)))
      have hbq : Below w.heap.size w (wr.drewN nq) := ⟨hbel.os, hbel.tape, hbel.output, hbel.size, hbel.block⟩
      have hq0 : (wr.drewN nq).cell? (p.add (k * 2)) = some (.int .i64 (j : Int)) := h0
      generalize wr.drewN nq = wq at *
      clear hbel h0 h1'
      by_cases hy : y = on
      · have hyo : (y == on) = true := by rw [hy]; simp
        have HE := Lib.hid (HB2.out hy)
        rw [hyo]
        go_wp2_with fail
        go_ret2
        rw [HE.out]
        exact ⟨rfl, hbq⟩
      · have hyo : (y == on) = false := by cases y <;> cases on <;> first | rfl | exact absurd rfl hy
        have HE := Lib.hid (HB3.out hy)
        rw [hyo]
        go_wp2_with fail
        exact ⟨⟨k + 1, X, by omega, by go_num, rfl, HXL.out, HE, hbq⟩, by simp [intOf]; omega⟩
    · obtain rfl : k = n := by omega
      have hend := HR.out
      rw [List.drop_of_length_le (by rw [← HLEN.out]; exact Nat.le_refl _)] at hend
      have HEND := Lib.hid (show R = (x, 0) from hend)
      clear hend
      go_wp2_with fail
      go_ret2
      rw [HEND.out]
      exact ⟨rfl, hbel⟩
end Go.Proofs.Ytafoaonkjcfbaaa.Zb
