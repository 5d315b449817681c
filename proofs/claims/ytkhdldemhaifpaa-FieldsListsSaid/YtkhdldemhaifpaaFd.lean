/- Walks: the program's package fields: unpacking six-bit texts. -/
import Derived.Test.YtkhdldemhaifpaaFc
namespace Go.Proofs.Ytkhdldemhaifpaa.Fa
open Go.RowKit Go.Proofs.Ytkhdldemhaifpaa.Mem Go.Proofs.Ytkhdldemhaifpaa.F2p
set_option maxRecDepth 100000
set_option maxHeartbeats 1000000

theorem q6 {j m r : Nat} (h : 8 * j = 6 * m + r) : 256 ^ j = 64 ^ m * 2 ^ r := by
  rw [show (64 : Nat) = 2 ^ 6 from rfl, show (256 : Nat) = 2 ^ 8 from rfl, ← Nat.pow_mul, ← Nat.pow_mul, ← Nat.pow_add, h]
theorem q6_add {j m r : Nat} (h : 8 * j = 6 * m + r) (V x : Nat) : (V + 256 ^ j * x) / 64 ^ m = 2 ^ r * x + V / 64 ^ m := by
  rw [q6 h, Nat.mul_assoc, Nat.add_mul_div_left _ _ (Nat.pow_pos (by omega)), Nat.add_comm]
theorem q6_chars {j m r : Nat} (h : 8 * j = 6 * m + r) (V x : Nat) : chars (V + 256 ^ j * x) m = chars V m := by
  rw [q6 h, Nat.mul_assoc, chars_more]
theorem q6_lt {j m r : Nat} (h : 8 * j = 6 * m + r) {V : Nat} (hV : V < 256 ^ j) : V / 64 ^ m < 2 ^ r := by
  rw [q6 h] at hV
  exact Nat.div_lt_of_lt_mul hV
theorem num_take_lt (l : List UInt8) (i : Nat) (hi : i ≤ l.length) : num (l.take i) < 256 ^ i := by
  have := num_lt (l.take i)
  rwa [List.length_take, Nat.min_eq_left hi] at this
theorem unpackSix_any (A : Option Addr) (n c : Nat) (l : List UInt8) (w : World) (h : Sl w A n c l) (hn : n ≤ 100000) :
    Calls Try.prog 51 #[.slice A n c] w fun e w' => e = uo (und 2 l) ∧ Below w.heap.size w w' := by
  obtain ⟨i0, hi, hz0, hz1, hz2⟩ := info_parts info5
  have hrow := h.row
  have HL := Lib.hid h.len
  have hu : und 2 l = if num l / 64 ^ (8 * l.length / 6) = 0 then some (chars (num l) (8 * l.length / 6)) else none := rfl
  generalize und 2 l = r at *
  have HU := Lib.hid hu
  clear hu h
  go_enter Try.func51, Try.ntmps51
  go_wp2_with fail
  go_loopw [4, 5, 6, 11] (fun v u5 u6 i wr => ∃ j m r b : Nat, j ≤ n ∧ 8 * j = 6 * m + r ∧ r < 6 ∧ i = .int .i64 j ∧ u5 = .int .u64 b ∧ u6 = .int .u64 r ∧ b = num (l.take j) / 64 ^ m ∧ Own w.heap.size wr v (chars (num (l.take j)) m) ∧ Below w.heap.size w wr) (fun _ _ _ i _ => n - (intOf i).toNat)
  case atStart => exact ⟨0, 0, 0, 0, Nat.zero_le _, rfl, by omega, rfl, rfl, rfl, by simp [num], Own.nil, Below.refl _ _⟩
  case round =>
    obtain ⟨j, m, r, b, hj, h6, hr, rfl, rfl, rfl, hb, hown, hbel⟩ := hrel
    have hblt : b < 2 ^ r := by rw [hb]; exact q6_lt h6 (num_take_lt l j (by rw [← HL.out]; exact hj))
    have hr2 : 2 ^ r ≤ 2 ^ 6 := Nat.pow_le_pow_right (by omega) (by omega)
    have hz := hbel.size
    by_cases hlt : j < n
    · have hjl : j < l.length := by rw [← HL.out]; exact hlt
      obtain ⟨a, rfl, hab, hcell⟩ := row_at (Rd.below hrow hbel) hjl
      have hx := (l[j]).toNat_lt
      have hsc := num_succ l j hjl
      have hmul : 2 ^ r * l[j].toNat ≤ 2 ^ 6 * 255 := Nat.mul_le_mul hr2 (by omega)
      have hsh := shl_or (l[j].toNat : Int) l[j].toNat b r rfl hblt (by omega)
      have HX := Lib.hid (show 2 ^ r * l[j].toNat + b = num (l.take (j + 1)) / 64 ^ m by rw [hsc, q6_add h6, hb])
      have hown' : Own w.heap.size wr u4 (chars (num (l.take (j + 1))) m) := by rw [hsc, q6_chars h6]; exact hown
      have HLT := Lib.hid (num_take_lt l (j + 1) hjl)
      have hB : 2 ^ r * l[j].toNat + b < 18446744073709551616 := by omega
      generalize 2 ^ r * l[j].toNat + b = B at *
      clear hb hblt hsc hown hmul hr2
      go_wp2_with fail
      have hBX := HX.out
      go_loopw [4, 5, 6] (fun v v5 v6 wx => ∃ q s b' : Nat, 8 * (j + 1) = 6 * q + s ∧ s ≤ 13 ∧ v5 = .int .u64 b' ∧ v6 = .int .u64 s ∧ b' = num (l.take (j + 1)) / 64 ^ q ∧ Own w.heap.size wx v (chars (num (l.take (j + 1))) q) ∧ Below w.heap.size w wx) (fun _ _ v6 _ => (intOf v6).toNat)
      case atStart => exact ⟨m, r + 8, B, by omega, by omega, rfl, vi (by omega), hBX, hown', hbel⟩
      case round =>
        clear hown' hbel hcell hsh hBX hab
        obtain ⟨q, s, b', h8, hs, rfl, rfl, hb', hown, hbel⟩ := hrel
        have hb2 : b' < 2 ^ s := by rw [hb']; exact q6_lt h8 HLT.out
        have hs2 : 2 ^ s ≤ 2 ^ 13 := Nat.pow_le_pow_right (by omega) (by omega)
        have hzz := hbel.size
        have hand := and_u64 b' (by omega)
        have HB := Lib.hid hb'
        have HLC := Lib.hid (chars_len (num (l.take (j + 1))) q)
        have hb3 : b' < 8193 := by omega
        clear hb' hs2 hb2
        by_cases hs6 : 6 ≤ s
        · go_wp2_with (at_builtin; go_loud (refine wpList_append_rd _ rfl _ _ _ rfl w.heap.size 5 i0 _ 1 Try.underlying31 hi hz0 hz1 hz2 rfl _ _ _ rfl (World.ownsRow.alloc hown _) _ _ 1 1 _ rfl rfl (Rd.new wr _ _) (fun hh => by cases hh) one_int (by rw [HLC.out]; unfold maxLen; omega) (by rw [HLC.out]; omega) (by simp; omega) ?_); intro v1 w2 hown1 hg1)
          have hd : b' / 64 = num (l.take (j + 1)) / 64 ^ (q + 1) := by rw [HB.out, Nat.div_div_eq_div_mul, Nat.pow_succ]
          refine ⟨⟨q + 1, s - 6, b' / 64, by omega, by omega, vi (by omega), vi (by omega), hd, own_of hown1 (by rw [HLC.out, chars_len]) ?_, below_grown (hbel.alloc (by omega) _) (World.ownsRow.alloc hown _) hg1 (by simp; omega)⟩, by simp [intOf]; omega⟩
          rw [chars_snoc, bvs_app, ← HB.out]
          refine congrArg (bvs (chars (num (l.take (j + 1))) q) ++ ·) ?_
          refine congrArg (fun v => [v]) ((vi (show (32 : Int) + (b' : Int) % 64 = ((chr6 b').toNat : Int) from ?_)))
          rw [chr6_nat]; omega
        · go_wp2_with fail
          exact ⟨⟨j + 1, q, s, b', by omega, by omega, by omega, by go_num, rfl, rfl, HB.out, hown, hbel⟩, by simp [intOf]; omega⟩
    · obtain rfl : j = n := by omega
      rw [List.take_of_length_le (by rw [← HL.out]; omega)] at hown hb
      have hmm := Lib.hid (show 8 * l.length / 6 = m by rw [← HL.out]; omega)
      have hcv := own_string hown
      have HB := Lib.hid hb
      clear hb hblt hr2
      by_cases hb0 : b = 0
      · subst hb0
        go_wp2_with fail
        go_ret2
        refine ⟨?_, hbel⟩
        rw [HU.out, hmm.out, if_pos HB.out.symm]
        rfl
      · have hb1 : ((b : Int) != 0) = true := by simp; exact hb0
        go_wp2_with fail
        go_ret2
        refine ⟨?_, hbel⟩
        rw [HU.out, hmm.out, if_neg (by rw [← HB.out]; exact hb0)]
        rfl
end Go.Proofs.Ytkhdldemhaifpaa.Fa
