/- Walks: the program's package fields: packed digits. -/
import Derived.Test.YtkhdldemhaifpaaF2m
import Derived.Lib.Strings
import Derived.Lib.Slices
import Derived.Lib.Walk
import Derived.Lib.Bytealg
import Derived.StillTailTactics
namespace Go.Proofs.Ytkhdldemhaifpaa.Fa
open Go.RowKit Go.Proofs.Ytkhdldemhaifpaa.Mem Go.Proofs.Ytkhdldemhaifpaa.F2p
set_option maxRecDepth 100000
set_option maxHeartbeats 1000000

theorem or_i64 (a b n : Nat) (hb : b < 2 ^ n) (h : 2 ^ n * a + b < 9223372036854775808) : bits .or .i64 ((2 ^ n * a : Nat) : Int) (b : Int) = ((2 ^ n * a + b : Nat) : Int) := by
  show IntKind.i64.wrap ((BitVec.ofInt 64 ((2 ^ n * a : Nat) : Int) ||| BitVec.ofInt 64 (b : Int)).toNat : Int) = _
  rw [BitVec.toNat_or, i64_of _ (by omega), i64_of b (by omega), ← Nat.two_pow_add_eq_or_of_lt hb, IntKind.wrap_i64]
  omega
theorem or_u64 (a b n : Nat) (hb : b < 2 ^ n) (h : 2 ^ n * a + b < 18446744073709551616) : bits .or .u64 (b : Int) ((2 ^ n * a : Nat) : Int) = ((2 ^ n * a + b : Nat) : Int) := by
  have e : ∀ x : Nat, x < 18446744073709551616 → (BitVec.ofInt 64 (x : Int)).toNat = x := fun x hx => by
    rw [BitVec.ofInt_natCast, BitVec.toNat_ofNat]; exact Nat.mod_eq_of_lt (by omega)
  show IntKind.u64.wrap ((BitVec.ofInt 64 (b : Int) ||| BitVec.ofInt 64 ((2 ^ n * a : Nat) : Int)).toNat : Int) = _
  rw [BitVec.toNat_or, e b (by omega), e (2 ^ n * a) (by omega), Nat.or_comm, ← Nat.two_pow_add_eq_or_of_lt hb, IntKind.wrap_u64]
  omega
theorem or_bcd (x y : Int) (hx : 0 ≤ x) (hx2 : x ≤ 12) (hy : 0 ≤ y) (hy2 : y ≤ 12) : bits .or .i64 (x * 16) y = 16 * x + y := by
  obtain ⟨a, rfl⟩ := Int.eq_ofNat_of_zero_le hx
  obtain ⟨b, rfl⟩ := Int.eq_ofNat_of_zero_le hy
  have h := or_i64 a b 4 (by omega) (by omega)
  rw [show ((2 ^ 4 * a : Nat) : Int) = (a : Int) * 16 by omega] at h
  rw [h]; omega
theorem bv_int (z : Int) (h : 0 ≤ z) (h2 : z < 256) : Value.int .u8 z = bv (UInt8.ofNat z.toNat) := by
  obtain ⟨a, rfl⟩ := Int.eq_ofNat_of_zero_le h
  exact bv_nat (by omega)
theorem idx_dig (c : Nat) (h : c < 256) : Lib.indexByte sgl ((c : Int).toNat.toUInt8) = dig c := by
  have key : ∀ c, c < 256 → Lib.indexByte sgl c.toUInt8 = dig c := by decide
  exact key c h
theorem sidx_any (c : Nat) (w : World) (hc : c < 256) :
    Calls Try.prog 54 #[.string ⟨#[48, 49, 50, 51, 52, 53, 54, 55, 56, 57, 32, 45, 46]⟩, .int .u8 (c : Int)] w fun e w' => e = .returned (.int .i64 (dig c)) ∧ w = w' := by
  go_enter Try.func54, Try.ntmps54
  go_wp2
  rw [run_callFunc_extern Try.func55 (by kernel_rfl) (by kernel_rfl) (by kernel_rfl) (e := Extern.BytealgIndexByte.indexByte) (by kernel_rfl), Lib.run_indexByteString]
  simp only [Result.andThen]
  rw [Oper.upon_value]
  go_wp2
  go_ret
  exact ⟨ret_int (idx_dig c hc), rfl⟩
theorem idx_any (c : Nat) (w : World) (hc : c < 256) :
    Calls Try.prog 49 #[.string ⟨#[48, 49, 50, 51, 52, 53, 54, 55, 56, 57, 32, 45, 46]⟩, .int .u8 (c : Int)] w fun e w' => e = .returned (.int .i64 (dig c)) ∧ w = w' := by
  go_enter Try.func49, Try.ntmps49
  go_wp2_with (go_at_call 54; refine (sidx_any _ _ hc).mono ?_; rintro e w' ⟨rfl, rfl⟩)
  go_ret
  exact ⟨rfl, rfl⟩
theorem onlyBCD_any (s : ByteArray) (w : World) (hs : s.size ≤ 100000) :
    Calls Try.prog 39 #[.string s] w fun e w' => e = .returned (.bool (okd (bl s))) ∧ w = w' := by
  go_enter Try.func39, Try.ntmps39
  go_wp2_with fail
  go_loop [6] (fun i => ∃ j : Nat, j ≤ s.size ∧ i = .int .i64 j ∧ okd ((bl s).take j) = true) (fun i => s.size - (intOf i).toNat)
  case atStart => exact ⟨0, Nat.zero_le _, rfl, rfl⟩
  case round =>
    obtain ⟨j, hj, rfl, hok⟩ := hrel
    have HK := Lib.hid hok; clear hok
    by_cases hlt : j < s.size
    · have hx : s[j].toNat < 256 := s[j].toNat_lt
      have hd := dig_range s[j].toNat
      have hjl : j < (bl s).length := by rw [bl_len]; exact hlt
      by_cases hneg : 0 ≤ dig s[j].toNat
      · go_wp2_with (go_at_call 49; refine (idx_any _ _ hx).mono ?_; rintro e w' ⟨rfl, rfl⟩)
        refine ⟨⟨j + 1, by omega, by go_num, ?_⟩, by simp [intOf]; omega⟩
        have hg : (bl s)[j] = s[j] := rfl
        unfold okd
        rw [all_take_succ _ _ _ hjl, hg, show ((bl s).take j).all (fun x => decide (0 ≤ dig x.toNat)) = true from HK.out, Bool.true_and]
        exact decide_eq_true hneg
      · have hf : okd (bl s) = false := all_false _ _ j hjl (by have hg : (bl s)[j] = s[j] := rfl; rw [hg]; simpa using hneg)
        have HF := Lib.hid hf; clear hf
        go_wp2_with (go_at_call 49; refine (idx_any _ _ hx).mono ?_; rintro e w' ⟨rfl, rfl⟩)
        go_ret
        exact ⟨ret_bool HF.out.symm, rfl⟩
    · go_wp2_with fail
      go_ret
      exact ⟨ret_bool (by have := HK.out; rw [List.take_of_length_le (by rw [bl_len]; omega)] at this; rw [this]), rfl⟩
theorem onlySix_any (s : ByteArray) (w : World) (hs : s.size ≤ 100000) :
    Calls Try.prog 40 #[.string s] w fun e w' => e = .returned (.bool (oks (bl s))) ∧ w = w' := by
  go_enter Try.func40, Try.ntmps40
  go_wp2_with fail
  go_loop [6] (fun i => ∃ j : Nat, j ≤ s.size ∧ i = .int .i64 j ∧ oks ((bl s).take j) = true) (fun i => s.size - (intOf i).toNat)
  case atStart => exact ⟨0, Nat.zero_le _, rfl, rfl⟩
  case round =>
    obtain ⟨j, hj, rfl, hok⟩ := hrel
    have HK := Lib.hid hok; clear hok
    by_cases hlt : j < s.size
    · have hx : s[j].toNat < 256 := s[j].toNat_lt
      have hjl : j < (bl s).length := by rw [bl_len]; exact hlt
      by_cases hneg : 32 ≤ s[j].toNat ∧ s[j].toNat ≤ 95
      · obtain ⟨hn1, hn2⟩ := hneg
        go_wp2_with fail
        refine ⟨⟨j + 1, by omega, by go_num, ?_⟩, by simp [intOf]; omega⟩
        have hg : (bl s)[j] = s[j] := rfl
        unfold oks
        rw [all_take_succ _ _ _ hjl, hg, show ((bl s).take j).all (fun x => decide (32 ≤ x.toNat ∧ x.toNat ≤ 95)) = true from HK.out]
        simp [hn1, hn2]
      · have hf : oks (bl s) = false := all_false _ _ j hjl (by have hg : (bl s)[j] = s[j] := rfl; rw [hg]; simpa using hneg)
        have HF := Lib.hid hf; clear hf
        by_cases hlow : s[j].toNat < 32
        · clear hneg
          go_wp2_with fail
          go_ret
          exact ⟨ret_bool HF.out.symm, rfl⟩
        · have hhi : 95 < s[j].toNat := by omega
          clear hneg
          go_wp2_with fail
          go_ret
          exact ⟨ret_bool HF.out.symm, rfl⟩
    · go_wp2_with fail
      go_ret
      exact ⟨ret_bool (by have := HK.out; rw [List.take_of_length_le (by rw [bl_len]; omega)] at this; rw [this]), rfl⟩
theorem packBCD_any (s : ByteArray) (w : World) (h2 : s.size % 2 = 0) (h126 : s.size ≤ 126) (hok : okd (bl s) = true) :
    Calls Try.prog 47 #[.string s] w fun e w' => ∃ v, e = .returned v ∧ Own w.heap.size w' v (bcd (bl s)) ∧ Below w.heap.size w w' := by
  obtain ⟨i0, hi, hz0, hz1, hz2⟩ := info_parts info5
  have hrg := fun (k : Nat) (hk : k < s.size) => (show 0 ≤ dig s[k].toNat from okd_at hok k (by rw [bl_len]; exact hk))
  have HOK := Lib.hid hrg
  obtain ⟨m, hm⟩ : ∃ m, s.size = 2 * m := ⟨s.size / 2, by omega⟩
  have HM := Lib.hid hm
  clear hok hrg hm h2
  go_enter Try.func47, Try.ntmps47
  go_wp2_with fail
  go_loopw [3, 4] (fun v i wr => ∃ k : Nat, k ≤ m ∧ i = .int .i64 (2 * (k : Int)) ∧ Own w.heap.size wr v (bcd ((bl s).take (2 * k))) ∧ Below w.heap.size w wr) (fun _ i _ => m - ((intOf i).toNat / 2))
  case atStart => exact ⟨0, Nat.zero_le _, rfl, Own.nil, Below.refl _ _⟩
  case round =>
    obtain ⟨k, hk, rfl, hown, hbel⟩ := hrel
    have hmx : m ≤ 63 := by have := HM.out; omega
    by_cases hlt : k < m
    · have hk1 : 2 * k + 1 < s.size := by rw [HM.out]; omega
      have hbl : 2 * k + 1 < (bl s).length := by rw [bl_len]; exact hk1
      have hx0 : s[2 * k].toNat < 256 := s[2 * k].toNat_lt
      have hx1 : s[2 * k + 1].toNat < 256 := s[2 * k + 1].toNat_lt
      have hd0 := HOK.out (2 * k) (by omega)
      have hd1 := HOK.out (2 * k + 1) hk1
      obtain ⟨-, hd0'⟩ := dig_range s[2 * k].toNat
      obtain ⟨-, hd1'⟩ := dig_range s[2 * k + 1].toNat
      have b2 : (2 * (k : Int) < (s.size : Int)) := by omega
      have hz := hbel.size
      have a1 : 0 ≤ 2 * (k : Int) := by omega
      have hn0 : (2 * (k : Int)).toNat = 2 * k := by omega
      have hn1 : (2 * (k : Int) + 1).toNat = 2 * k + 1 := by omega
      have hstep := Lib.hid (bcd_step (bl s) k hbl)
      have hg0 := Lib.hid (show (bl s)[2 * k] = s[2 * k] from rfl)
      have hg1' := Lib.hid (show (bl s)[2 * k + 1] = s[2 * k + 1] from rfl)
      have hbcl := Lib.hid (show (bcd ((bl s).take (2 * k))).length = k by rw [bcd_len, List.length_take]; omega)
      have hor := or_bcd _ _ hd0 hd0' hd1 hd1'
      have hmd : (16 * dig s[2 * k].toNat + dig s[2 * k + 1].toNat) % 256 = 16 * dig s[2 * k].toNat + dig s[2 * k + 1].toNat := by omega
      go_wp2_with (first
        | (go_at_call 49; refine (idx_any _ _ (by assumption)).mono ?_; rintro e w' ⟨rfl, rfl⟩)
        | (at_builtin; (refine wpList_append_rd _ rfl _ _ _ rfl w.heap.size 5 i0 _ 1 Try.underlying31 hi hz0 hz1 hz2 rfl _ _ _ rfl (World.ownsRow.alloc hown _) _ _ 1 1 _ rfl rfl (Rd.new wr _ _) (fun hh => by cases hh) one_int (by rw [hbcl.out]; unfold maxLen; omega) (by rw [hbcl.out]; omega) (by simp; omega) ?_); intro v1 w2 hown1 hg1))
      refine ⟨⟨k + 1, by omega, vi (by omega), own_of hown1 (by rw [hstep.out, List.length_append]; rfl) ?_, below_grown (hbel.alloc (by omega) _) (World.ownsRow.alloc hown _) hg1 (by simp; omega)⟩, by simp [intOf]; omega⟩
      rw [hstep.out, bvs_app, hg0.out, hg1'.out]
      congr 1
      exact congrArg (fun v => [v]) (bv_int _ (by omega) (by omega))
    · have hb : ¬ (2 * (k : Int) < (s.size : Int)) := by have := HM.out; omega
      go_wp2_with fail
      go_ret
      have : m = k := by omega
      subst this
      refine ⟨_, rfl, ?_, hbel⟩
      rw [List.take_of_length_le (by rw [bl_len, HM.out]; omega)] at hown
      exact hown
end Go.Proofs.Ytkhdldemhaifpaa.Fa
