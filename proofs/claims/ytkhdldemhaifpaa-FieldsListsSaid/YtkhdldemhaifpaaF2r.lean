/- Walks: the reference of type/length fields. -/
import Derived.Test.YtkhdldemhaifpaaF2p
import Derived.StillTailTactics
namespace Go.Proofs.Ytkhdldemhaifpaa.F2r
open Go.RowKit Go.Proofs.Ytkhdldemhaifpaa.Mem Go.Proofs.Ytkhdldemhaifpaa.F2p
set_option maxRecDepth 100000
set_option maxHeartbeats 400000

theorem digit_any (c : Nat) (w : World) (hc : c < 256) :
    Calls Try.prog 41 #[.int .u8 (c : Int)] w fun e w' => e = .returned (.int .i64 (dig c)) ∧ w = w' := by
  by_cases h1 : 48 ≤ c
  · by_cases h2 : c ≤ 57
    · go_enter Try.func41, Try.ntmps41
      go_wp2
      go_ret
      exact ⟨ret_int (by simp [dig, h1, h2]), rfl⟩
    · have h3 : ((c : Int) == 32) = false := by rw [beq_eq_false_iff_ne]; omega
      have h4 : ((c : Int) == 45) = false := by rw [beq_eq_false_iff_ne]; omega
      have h5 : ((c : Int) == 46) = false := by rw [beq_eq_false_iff_ne]; omega
      go_enter Try.func41, Try.ntmps41
      go_wp2
      go_ret
      exact ⟨ret_int (by unfold dig; rw [if_neg (by omega), if_neg (by omega), if_neg (by omega), if_neg (by omega)]), rfl⟩
  · by_cases h32 : c = 32
    · subst h32
      go_enter Try.func41, Try.ntmps41
      go_wp2
      go_ret
      exact ⟨rfl, rfl⟩
    · by_cases h45 : c = 45
      · subst h45
        go_enter Try.func41, Try.ntmps41
        go_wp2
        go_ret
        exact ⟨rfl, rfl⟩
      · by_cases h46 : c = 46
        · subst h46
          go_enter Try.func41, Try.ntmps41
          go_wp2
          go_ret
          exact ⟨rfl, rfl⟩
        · have h3 : ((c : Int) == 32) = false := by rw [beq_eq_false_iff_ne]; omega
          have h4 : ((c : Int) == 45) = false := by rw [beq_eq_false_iff_ne]; omega
          have h5 : ((c : Int) == 46) = false := by rw [beq_eq_false_iff_ne]; omega
          clear h32 h45 h46
          go_enter Try.func41, Try.ntmps41
          go_wp2
          go_ret
          exact ⟨ret_int (by have := ne_of_beq_false h3; have := ne_of_beq_false h4; have := ne_of_beq_false h5; unfold dig; rw [if_neg (by omega), if_neg (by omega), if_neg (by omega), if_neg (by omega)]), rfl⟩
theorem six_any (n : Nat) (w : World) (hn : n ≤ 100000) :
    Calls Try.prog 42 #[.int .i64 (n : Int)] w fun e w' => e = .returned (.int .i64 (sixB n : Int)) ∧ w = w' := by
  go_enter Try.func42, Try.ntmps42
  go_wp2
  go_ret
  exact ⟨ret_int (by unfold sixB; omega), rfl⟩

theorem valid_any (k : Int) (s : ByteArray) (w : World) (hs : s.size ≤ 100000) :
    Calls Try.prog 20 #[.agg #[.int .i64 k, .string s]] w fun e w' => e = .returned (.bool (vld k (bl s))) ∧ Below w.heap.size w w' := by
  have hbx : Below w.heap.size w (w.alloc (.cells #[.int .i64 k, .string s] 23)) := (Below.refl _ _).alloc (Nat.le_refl _) _
  by_cases k0 : k = 0
  · subst k0
    go_enter Try.func20, Try.ntmps20
    go_wp2
    go_ret
    exact ⟨ret_bool (by simp [vld, bl_len]; omega), hbx⟩
  by_cases k1 : k = 1
  · subst k1
    by_cases h2 : s.size % 2 = 0
    · have t2 : (((s.size : Int) % 2) != 0) = false := by simp; omega
      by_cases h126 : s.size ≤ 126
      · have hv : vld 1 (bl s) = okd (bl s) := by simp [vld, bl_len, h2, h126]
        have HV := Lib.hid hv; clear hv h2 k0
        go_enter Try.func20, Try.ntmps20
        go_wp2_with fail
        go_loop [4] (fun i => ∃ j : Nat, j ≤ s.size ∧ i = .int .i64 j ∧ okd ((bl s).take j) = true) (fun i => s.size - (intOf i).toNat)
        case atStart => exact ⟨0, Nat.zero_le _, rfl, rfl⟩
        case round =>
          obtain ⟨j, hj, rfl, hok⟩ := hrel
          have HK := Lib.hid hok; clear hok
          by_cases hlt : j < s.size
          · have hx : s[j].toNat < 256 := s[j].toNat_lt
            have hd := dig_range s[j].toNat
            by_cases hneg : 0 ≤ dig s[j].toNat
            · go_wp2_with fail
              refine (digit_any s[j].toNat _ hx).mono ?_
              rintro e w' ⟨rfl, rfl⟩
              go_wp2_with fail
              refine ⟨⟨j + 1, by omega, by go_num, ?_⟩, by simp [intOf]; omega⟩
              have hjl : j < (bl s).length := by rw [bl_len]; exact hlt
              have hg : (bl s)[j] = s[j] := rfl
              unfold okd
              rw [all_take_succ _ _ _ hjl, hg, show ((bl s).take j).all (fun x => decide (0 ≤ dig x.toNat)) = true from HK.out, Bool.true_and]
              exact decide_eq_true hneg
            · have hf : okd (bl s) = false := all_false _ _ j (by rw [bl_len]; exact hlt) (by have hg : (bl s)[j]'(by rw [bl_len]; exact hlt) = s[j] := rfl; rw [hg]; simpa using hneg)
              have HF := Lib.hid hf; clear hf
              go_wp2_with fail
              refine (digit_any s[j].toNat _ hx).mono ?_
              rintro e w' ⟨rfl, rfl⟩
              go_wp2_with fail
              go_ret
              exact ⟨ret_bool (by rw [HV.out, HF.out]), hbx⟩
          · go_wp2_with fail
            go_ret
            exact ⟨ret_bool (by have := HK.out; rw [List.take_of_length_le (by rw [bl_len]; omega)] at this; rw [HV.out, this]), hbx⟩
      · go_enter Try.func20, Try.ntmps20
        go_wp2
        go_ret
        exact ⟨ret_bool (by simp [vld, bl_len]; omega), hbx⟩
    · have t2 : (((s.size : Int) % 2) != 0) = true := by simp; omega
      go_enter Try.func20, Try.ntmps20
      go_wp2
      go_ret
      exact ⟨ret_bool (by simp [vld, bl_len, h2]), hbx⟩
  by_cases k2 : k = 2
  · subst k2
    by_cases h4 : s.size % 4 = 3
    · have t2 : (((s.size : Int) % 4) == 3) = true := by rw [beq_iff_eq]; omega
      go_enter Try.func20, Try.ntmps20
      go_wp2
      go_ret
      exact ⟨ret_bool (by simp [vld, bl_len, h4]), hbx⟩
    · have t2 : (((s.size : Int) % 4) == 3) = false := by rw [beq_eq_false_iff_ne]; omega
      by_cases h126 : s.size ≤ 126
      · have hc6 := fun u => six_any s.size u hs
        have HC6 := Lib.hid hc6; clear hc6
        by_cases h63 : sixB s.size ≤ 63
        · have hv : vld 2 (bl s) = oks (bl s) := by simp [vld, bl_len, h4, h126, h63]
          have HV := Lib.hid hv; clear hv h4 k0 k1
          go_enter Try.func20, Try.ntmps20
          go_wp2_with fail
          refine (HC6.out _).mono ?_
          rintro e w' ⟨rfl, rfl⟩
          go_wp2_with fail
          go_loop [5] (fun i => ∃ j : Nat, j ≤ s.size ∧ i = .int .i64 j ∧ oks ((bl s).take j) = true) (fun i => s.size - (intOf i).toNat)
          case atStart => exact ⟨0, Nat.zero_le _, rfl, rfl⟩
          case round =>
            obtain ⟨j, hj, rfl, hok⟩ := hrel
            have HK := Lib.hid hok; clear hok
            by_cases hlt : j < s.size
            · have hx : s[j].toNat < 256 := s[j].toNat_lt
              have hjl : j < (bl s).length := by rw [bl_len]; exact hlt
              by_cases hneg : 32 ≤ s[j].toNat ∧ s[j].toNat ≤ 95
              · obtain ⟨hn1, hn2⟩ := hneg
                go_wp2_with fail
                refine ⟨⟨j + 1, by omega, by go_num, ?_⟩, by simp [intOf]; omega⟩
                have hg : (bl s)[j] = s[j] := rfl
                unfold oks
                rw [all_take_succ _ _ _ hjl, hg, show ((bl s).take j).all (fun x => decide (32 ≤ x.toNat ∧ x.toNat ≤ 95)) = true from HK.out]
                simp [hn1, hn2]
              · have hf : oks (bl s) = false := all_false _ _ j hjl (by have hg : (bl s)[j] = s[j] := rfl; rw [hg]; simpa using hneg)
                have HF := Lib.hid hf; clear hf
                by_cases hlow : s[j].toNat < 32
                · clear hneg
                  go_wp2_with fail
                  go_ret
                  exact ⟨ret_bool (by rw [HV.out, HF.out]), hbx⟩
                · have hhi : 95 < s[j].toNat := by omega
                  clear hneg
                  go_wp2_with fail
                  go_ret
                  exact ⟨ret_bool (by rw [HV.out, HF.out]), hbx⟩
            · go_wp2_with fail
              go_ret
              exact ⟨ret_bool (by have := HK.out; rw [List.take_of_length_le (by rw [bl_len]; omega)] at this; rw [HV.out, this]), hbx⟩
        · go_enter Try.func20, Try.ntmps20
          go_wp2_with fail
          refine (HC6.out _).mono ?_
          rintro e w' ⟨rfl, rfl⟩
          go_wp2_with fail
          go_ret
          exact ⟨ret_bool (by simp [vld, bl_len]; omega), hbx⟩
      · go_enter Try.func20, Try.ntmps20
        go_wp2
        go_ret
        exact ⟨ret_bool (by simp [vld, bl_len]; omega), hbx⟩
  by_cases k3 : k = 3
  · subst k3
    by_cases h0 : s.size = 0
    · have t0 : ((s.size : Int) == 0) = true := by rw [beq_iff_eq]; omega
      go_enter Try.func20, Try.ntmps20
      go_wp2
      go_ret
      exact ⟨ret_bool (by simp [vld, bl_len, h0]), hbx⟩
    · have t0 : ((s.size : Int) == 0) = false := by rw [beq_eq_false_iff_ne]; omega
      by_cases h2 : 2 ≤ s.size
      · go_enter Try.func20, Try.ntmps20
        go_wp2
        go_ret
        exact ⟨ret_bool (by simp [vld, bl_len, h0, h2]; omega), hbx⟩
      · go_enter Try.func20, Try.ntmps20
        go_wp2
        go_ret
        exact ⟨ret_bool (by simp [vld, bl_len, h0, h2]), hbx⟩
  have t0 : (k == 0) = false := by rw [beq_eq_false_iff_ne]; exact k0
  have t1 : (k == 1) = false := by rw [beq_eq_false_iff_ne]; exact k1
  have t2 : (k == 2) = false := by rw [beq_eq_false_iff_ne]; exact k2
  have t3 : (k == 3) = false := by rw [beq_eq_false_iff_ne]; exact k3
  go_enter Try.func20, Try.ntmps20
  go_wp2
  go_ret
  exact ⟨ret_bool (by simp [vld, k0, k1, k2, k3]), hbx⟩

set_option maxHeartbeats 2000000 in
theorem data_bcd (s : ByteArray) (w : World) (hv : vld 1 (bl s) = true) :
    Calls Try.prog 38 #[.agg #[.int .i64 1, .string s]] w fun e w' => ∃ v, e = .returned v ∧ Own w.heap.size w' v (bcd (bl s)) ∧ Below w.heap.size w w' := by
  obtain ⟨h2, h126, hok⟩ := vld_bcd hv
  rw [bl_len] at h2 h126
  obtain ⟨i0, hi, hz0, hz1, hz2⟩ := info_parts info5
  have hbx : Below w.heap.size w (w.alloc (.cells #[.int .i64 1, .string s] 23)) := (Below.refl _ _).alloc (Nat.le_refl _) _
  have hrg := fun (k : Nat) (hk : k < s.size) => (show 0 ≤ dig s[k].toNat from okd_at hok k (by rw [bl_len]; exact hk))
  have HOK := Lib.hid hrg
  obtain ⟨m, hm⟩ : ∃ m, s.size = 2 * m := ⟨s.size / 2, by omega⟩
  have HM := Lib.hid hm
  clear hv hok hrg hm h2
  go_enter Try.func38, Try.ntmps38
  go_wp2_with fail
  have hst : (w.alloc (.cells #[.int .i64 1, .string s] 23)).heap[w.heap.size]? = some (.cells #[.int .i64 1, .string s] 23 (0, 0)) := heap_alloc_new w _
  have hsz : (w.alloc (.cells #[.int .i64 1, .string s] 23)).heap.size = w.heap.size + 1 := by simp
  generalize w.alloc (.cells #[.int .i64 1, .string s] 23) = w1 at *
  go_loopw [4, 5] (fun v i wr => ∃ k : Nat, k ≤ m ∧ i = .int .i64 (2 * (k : Int)) ∧ Own (w.heap.size + 1) wr v (bcd ((bl s).take (2 * k))) ∧ Below (w.heap.size + 1) w1 wr) (fun _ i _ => m - ((intOf i).toNat / 2))
  case atStart => exact ⟨0, Nat.zero_le _, rfl, Own.nil, Below.refl _ _⟩
  case round =>
    obtain ⟨k, hk, rfl, hown, hbel⟩ := hrel
    have hmx : m ≤ 63 := by have := HM.out; omega
    by_cases hlt : k < m
    · have hk1 : 2 * k + 1 < s.size := by rw [HM.out]; omega
      have hbl : 2 * k + 1 < (bl s).length := by rw [bl_len]; exact hk1
      have hx0 : s[2 * k].toNat < 256 := s[2 * k].toNat_lt
      have hx1 : s[2 * k + 1].toNat < 256 := s[2 * k + 1].toNat_lt
      have hd0 := HOK.out (2 * k) (by omega)
      have hd1 := HOK.out (2 * k + 1) hk1
      obtain ⟨-, hd0'⟩ := dig_range s[2 * k].toNat
      obtain ⟨-, hd1'⟩ := dig_range s[2 * k + 1].toNat
      have hcell : wr.cell? ⟨w.heap.size, 1, none⟩ = some (.string s) := by
        rw [hbel.cell (p := ⟨w.heap.size, 1, none⟩) (Nat.lt_succ_self _), cell_of_row w1 w.heap.size 1 _ _ _ hst]; rfl
      have b1 : (2 * (k : Int) + 1 < (s.size : Int)) := by omega
      have b2 : (2 * (k : Int) < (s.size : Int)) := by omega
      have hz := hbel.size
      rw [hsz] at hz
      have a1 : 0 ≤ 2 * (k : Int) := by omega
      have hn0 : (2 * (k : Int)).toNat = 2 * k := by omega
      have hn1 : (2 * (k : Int) + 1).toNat = 2 * k + 1 := by omega
      have e16 : IntKind.i64.wrap (16 * dig s[2 * k].toNat) = 16 * dig s[2 * k].toNat := IntWalk.i64_in _ ⟨by omega, by omega⟩
      have esum : IntKind.i64.wrap (16 * dig s[2 * k].toNat + dig s[2 * k + 1].toNat) = 16 * dig s[2 * k].toNat + dig s[2 * k + 1].toNat := IntWalk.i64_in _ ⟨by omega, by omega⟩
      have einc : IntKind.i64.wrap (2 * (k : Int) + 1) = 2 * (k : Int) + 1 := IntWalk.i64_in _ ⟨by omega, by omega⟩
      have e8 : IntKind.u8.wrap (16 * dig s[2 * k].toNat + dig s[2 * k + 1].toNat) = 16 * dig s[2 * k].toNat + dig s[2 * k + 1].toNat := IntWalk.u8_in _ ⟨by omega, by omega⟩
      go_wp2_with fail
      have hne : u4.ownBlock ≠ some w.heap.size := fun h => by have := (World.ownsRow.lt hown _ h).1; omega
      have hc2 : (wr.alloc (.cells #[.int .u8 (IntKind.u8.wrap (IntKind.i64.wrap (16 * dig s[2 * k].toNat + dig s[2 * k + 1].toNat)))] 5)).cell? ⟨w.heap.size, 1, none⟩ = some (.string s) := (World.cell?_alloc_lt wr _ _ (by simp; omega)).trans hcell
      go_region_held3 (fun w' => w'.cell? ⟨w.heap.size, 1, none⟩ = some (.string s)) (first | go_keep | (rw [hgr2.cell_far _ (by simp; omega) (Ne.symm hne)]; exact hc2))
        (first
          | (go_at_call 41; refine (digit_any _ _ (by omega)).mono ?_; rintro e w' ⟨rfl, rfl⟩)
          | (refine step_append_rd _ rfl (.tmp 36) (.tmp 51) 31 rfl (w.heap.size + 1) 5 i0 (.int .u8 0) 1 Try.underlying31 hi hz0 hz1 hz2 rfl u4 _ _ rfl ((World.ownsRow.alloc hown _).drew) (wr.heap.size + 1) (some ⟨wr.heap.size, 0, none⟩) 1 1 [.int .u8 (IntKind.u8.wrap (IntKind.i64.wrap (16 * dig s[2 * k].toNat + dig s[2 * k + 1].toNat)))] rfl rfl (Rd.drew (Rd.new wr #[.int .u8 (IntKind.u8.wrap (IntKind.i64.wrap (16 * dig s[2 * k].toNat + dig s[2 * k + 1].toNat)))] 5)) (fun hh => by cases hh) one_int (by unfold maxLen; rw [bcd_len]; simp; omega) (by rw [bcd_len]; simp; omega) (by simp; omega) ?_; intro v1 w2 hown2 hgr2))
      all_goals
        go_wp2_with fail
        refine ⟨⟨k + 1, by omega, vi (by omega), own_of hown2 (by rw [bcd_step _ _ hbl, List.length_append]; rfl) ?_, below_grown (((hbel.alloc (by omega) _)).drew) ((World.ownsRow.alloc hown _).drew) hgr2 (by simp; omega)⟩, by simp [intOf]; omega⟩
        have hg0 : (bl s)[2 * k] = s[2 * k] := rfl
        have hg1 : (bl s)[2 * k + 1] = s[2 * k + 1] := rfl
        rw [bcd_step _ _ hbl, bvs_app, esum, e8, hg0, hg1]
        congr 1
        obtain ⟨z, hzz⟩ := Int.eq_ofNat_of_zero_le (show 0 ≤ 16 * dig s[2 * k].toNat + dig s[2 * k + 1].toNat by omega)
        rw [hzz]
        have hz256 : z < 256 := by omega
        show [Value.int .u8 (z : Int)] = [bv (UInt8.ofNat z)]
        rw [bv_nat hz256]
    · have hb : ¬ (2 * (k : Int) + 1 < (s.size : Int)) := by have := HM.out; omega
      go_wp2_with fail
      go_ret
      have : m = k := by omega
      subst this
      refine ⟨_, rfl, ?_, hbx.trans (hbel.mono (by omega))⟩
      rw [List.take_of_length_le (by rw [bl_len, HM.out]; omega)] at hown
      exact hown.base_ (by omega)
end Go.Proofs.Ytkhdldemhaifpaa.F2r
