/- Walks: the program's package fields: six-bit texts. -/
import Derived.Test.YtkhdldemhaifpaaFb
namespace Go.Proofs.Ytkhdldemhaifpaa.Fa
open Go.RowKit Go.Proofs.Ytkhdldemhaifpaa.Mem Go.Proofs.Ytkhdldemhaifpaa.F2p
set_option maxRecDepth 100000
set_option maxHeartbeats 1000000

theorem p6 {j m r : Nat} (h : 6 * j = 8 * m + r) : 64 ^ j = 256 ^ m * 2 ^ r := by
  rw [show (64 : Nat) = 2 ^ 6 from rfl, show (256 : Nat) = 2 ^ 8 from rfl, ← Nat.pow_mul, ← Nat.pow_mul, ← Nat.pow_add, h]
theorem p6_add {j m r : Nat} (h : 6 * j = 8 * m + r) (V ch : Nat) : (V + 64 ^ j * ch) / 256 ^ m = 2 ^ r * ch + V / 256 ^ m := by
  rw [p6 h, Nat.mul_assoc, Nat.add_mul_div_left _ _ (Nat.pow_pos (by omega)), Nat.add_comm]
theorem p6_lit {j m r : Nat} (h : 6 * j = 8 * m + r) (V ch : Nat) : lit (V + 64 ^ j * ch) m = lit V m := by
  rw [p6 h, Nat.mul_assoc, lit_more]
theorem p6_lt {j m r : Nat} (h : 6 * j = 8 * m + r) {V : Nat} (hV : V < 64 ^ j) : V / 256 ^ m < 2 ^ r := by
  rw [p6 h] at hV
  exact Nat.div_lt_of_lt_mul hV
theorem shl_or (x : Int) (ch b r : Nat) (hx : x = (ch : Int)) (hb : b < 2 ^ r) (h : 2 ^ r * ch + b < 18446744073709551616) : bits .or .u64 (b : Int) (IntKind.u64.wrap (x * 2 ^ r)) = ((2 ^ r * ch + b : Nat) : Int) := by
  subst hx
  have e : (ch : Int) * 2 ^ r = ((2 ^ r * ch : Nat) : Int) := by
    rw [Int.natCast_mul, Int.natCast_pow, Int.mul_comm]; rfl
  rw [e, IntWalk.u64_in _ ⟨by omega, by omega⟩, or_u64 _ _ _ hb h]
theorem packSix_any (s : ByteArray) (w : World) (hs : s.size ≤ 100000) (hok : oks (bl s) = true) :
    Calls Try.prog 48 #[.string s] w fun e w' => ∃ v, e = .returned v ∧ Own w.heap.size w' v (lit (v6 (bl s)) (sixB s.size)) ∧ Below w.heap.size w w' := by
  obtain ⟨i0, hi, hz0, hz1, hz2⟩ := info_parts info5
  have HOK := Lib.hid hok
  clear hok
  go_enter Try.func48, Try.ntmps48
  go_wp2_with fail
  go_loopw [3, 4, 5, 9] (fun v u4 u5 i wr => ∃ j m r b : Nat, j ≤ s.size ∧ 6 * j = 8 * m + r ∧ r < 8 ∧ i = .int .i64 j ∧ u4 = .int .u64 b ∧ u5 = .int .u64 r ∧ b = v6 ((bl s).take j) / 256 ^ m ∧ Own w.heap.size wr v (lit (v6 ((bl s).take j)) m) ∧ Below w.heap.size w wr) (fun _ _ _ i _ => s.size - (intOf i).toNat)
  case atStart => exact ⟨0, 0, 0, 0, Nat.zero_le _, rfl, by omega, rfl, rfl, rfl, by simp [v6], Own.nil, Below.refl _ _⟩
  case round =>
    obtain ⟨j, m, r, b, hj, h6, hr, rfl, rfl, rfl, hb, hown, hbel⟩ := hrel
    have hblt : b < 2 ^ r := by rw [hb]; exact p6_lt h6 (v6_take_lt HOK.out j (by rw [bl_len]; exact hj))
    have hr2 : 2 ^ r ≤ 2 ^ 7 := Nat.pow_le_pow_right (by omega) (by omega)
    have hz := hbel.size
    have HB := Lib.hid hb
    have HR2 := Lib.hid hblt
    by_cases hlt : j < s.size
    · have hjl : j < (bl s).length := by rw [bl_len]; exact hlt
      have hx : s[j].toNat < 256 := s[j].toNat_lt
      obtain ⟨hx1, hx2⟩ := (show 32 ≤ s[j].toNat ∧ s[j].toNat ≤ 95 from oks_at HOK.out j hjl)
      obtain ⟨ch, hch⟩ : ∃ ch, s[j].toNat = ch + 32 := ⟨s[j].toNat - 32, by omega⟩
      have hc64 : ch < 64 := by omega
      have hsc := v6_succ (bl s) j hjl
      have hgx : (bl s)[j].toNat = s[j].toNat := rfl
      rw [show (bl s)[j].toNat - 32 = ch by omega] at hsc
      clear hgx
      have HSC := Lib.hid hsc
      have hmul : 2 ^ r * ch ≤ 2 ^ 7 * 63 := Nat.mul_le_mul hr2 (by omega)
      have hsh := shl_or ((s[j].toNat : Int) - 32) ch b r (by omega) hblt (by omega)
      have HX := Lib.hid (show 2 ^ r * ch + b = v6 ((bl s).take (j + 1)) / 256 ^ m by rw [hsc, p6_add h6, hb])
      have hown' : Own w.heap.size wr u3 (lit (v6 ((bl s).take (j + 1))) m) := by rw [hsc, p6_lit h6]; exact hown
      have HLM := Lib.hid (lit_len (v6 ((bl s).take (j + 1))) m)
      have hB : 2 ^ r * ch + b < 18446744073709551616 := by omega
      generalize 2 ^ r * ch + b = B at *
      clear hb hblt hsc hown hmul hr2
      by_cases hr8 : 8 ≤ r + 6
      · go_wp2_with (at_builtin; (refine wpList_append_rd _ rfl _ _ _ rfl w.heap.size 5 i0 _ 1 Try.underlying31 hi hz0 hz1 hz2 rfl _ _ _ rfl (World.ownsRow.alloc hown' _) _ _ 1 1 _ rfl rfl (Rd.new wr _ _) (fun hh => by cases hh) one_int (by rw [HLM.out]; unfold maxLen; omega) (by rw [HLM.out]; omega) (by simp; omega) ?_); intro v1 w2 hown1 hg1)
        have hd : B / 256 = v6 ((bl s).take (j + 1)) / 256 ^ (m + 1) := by rw [HX.out, Nat.div_div_eq_div_mul, Nat.pow_succ]
        refine ⟨⟨j + 1, m + 1, r - 2, B / 256, by omega, by omega, by omega, by go_num, vi ((congrArg (fun z : Int => z / 256) hsh).trans (by omega)), vi (by omega), hd, own_of hown1 (by rw [HLM.out, lit_len]) ?_, below_grown (hbel.alloc (by omega) _) (World.ownsRow.alloc hown' _) hg1 (by simp; omega)⟩, by simp [intOf]; omega⟩
        rw [lit_snoc, bvs_app, ← HX.out]
        refine congrArg (bvs (lit (v6 ((bl s).take (j + 1))) m) ++ ·) ?_
        exact (congrArg (fun z : Int => [Value.int .u8 (z % 256)]) hsh).trans (congrArg (fun v => [v]) (bv_mod B))
      · go_wp2_with fail
        exact ⟨⟨j + 1, m, r + 6, B, by omega, by omega, by omega, by go_num, vi hsh, vi (by omega), HX.out, hown', hbel⟩, by simp [intOf]; omega⟩
    · obtain rfl : j = s.size := by omega
      rw [List.take_of_length_le (by rw [bl_len]; omega)] at hown hb
      have HLM := Lib.hid (lit_len (v6 (bl s)) m)
      have hB : b < 256 := by omega
      clear hblt hr2
      by_cases hr0 : 0 < r
      · have hsx := Lib.hid (show sixB s.size = m + 1 by unfold sixB; omega)
        have HBB := Lib.hid hb
        clear hb
        go_wp2_with (at_builtin; (refine wpList_append_rd _ rfl _ _ _ rfl w.heap.size 5 i0 _ 1 Try.underlying31 hi hz0 hz1 hz2 rfl _ _ _ rfl (World.ownsRow.alloc hown _) _ _ 1 1 _ rfl rfl (Rd.new wr _ _) (fun hh => by cases hh) one_int (by rw [HLM.out]; unfold maxLen; omega) (by rw [HLM.out]; omega) (by simp; omega) ?_); intro v1 w2 hown1 hg1)
        go_ret
        refine ⟨_, rfl, own_of hown1 (by rw [hsx.out, HLM.out, lit_len]) ?_, below_grown (hbel.alloc (by omega) _) (World.ownsRow.alloc hown _) hg1 (by simp; omega)⟩
        rw [hsx.out, lit_snoc, bvs_app, ← HBB.out]
        refine congrArg (bvs (lit (v6 (bl s)) m) ++ ·) ?_
        rw [Nat.mod_eq_of_lt hB]
        exact congrArg (fun v => [v]) (bv_nat hB)
      · have hsx := Lib.hid (show sixB s.size = m by unfold sixB; omega)
        clear hb
        go_wp2_with fail
        go_ret
        exact ⟨_, rfl, by rw [hsx.out]; exact hown, hbel⟩
end Go.Proofs.Ytkhdldemhaifpaa.Fa
