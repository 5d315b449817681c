/- Walks: the reference's data of six-bit and of plain fields. -/
import Derived.Test.YtkhdldemhaifpaaF2r
namespace Go.Proofs.Ytkhdldemhaifpaa.F2s
open Go.RowKit Go.Proofs.Ytkhdldemhaifpaa.Mem Go.Proofs.Ytkhdldemhaifpaa.F2p Go.Proofs.Ytkhdldemhaifpaa.F2r
set_option maxRecDepth 100000
set_option maxHeartbeats 1000000

theorem make_bytes (m : Nat) (u : World) (i0 : TypeInfo) (hi : Try.prog.info? 5 = some i0) (hz0 : i0.zero = some (.int .u8 0)) (hz1 : i0.size = 1) (hz2 : i0.bytes = 1) (hm : m ≤ 1000000) :
    (Instr.makeSlice 31 (.int .i64 (m : Int)) (.int .i64 (m : Int))).run Try.prog u = .ok (.slice (some ⟨u.heap.size, 0, none⟩) m m) (u.alloc (.cells (madeCells #[.int .u8 0] m) 5)) := by
  have h := run_make (P := Try.prog) u 31 5 i0 (.int .u8 0) Try.underlying31 hi hz0 .i64 .i64 (m : Int) (m : Int) (by omega) (Int.le_refl _) (by rw [hz2]; omega) (by omega)
  simpa [hz1, Value.cells] using h
theorem own_block {base g m : Nat} {u : World} (hh : u.heap[g]? = some (.cells (madeCells #[.int .u8 0] m) 5)) (hb : base ≤ g) (hm : m ≤ 1000000) : Own base u (.slice (some ⟨g, 0, none⟩) m m) (List.replicate m 0) := by
  have hl : (List.replicate m (0 : UInt8)).length = m := List.length_replicate
  have e : bvs (List.replicate m 0) = List.replicate m (.int .u8 0) := by simp [bvs, bv]
  unfold Own
  rw [hl, e]
  refine ⟨by simp, .inr ⟨g, m, _, rfl, hb, hh, Nat.le_refl _, by unfold maxLen; omega, by rw [size_madeCells, Nat.mul_one], ?_⟩⟩
  rw [toList_madeCells_one, List.take_of_length_le (by simp)]
theorem lit_zero (n : Nat) : lit 0 n = List.replicate n 0 := by
  induction n with
  | zero => rfl
  | succ n ih => rw [lit, Nat.zero_div, ih, List.replicate_succ]; rfl

theorem bv_pow (q e : Nat) : Value.int .u8 (((q : Int) + 2 ^ e) % 256) = bv (UInt8.ofNat (q + 2 ^ e)) := by
  have h1 : ((q : Int) + 2 ^ e) = ((q + 2 ^ e : Nat) : Int) := by norm_cast
  have h2 : UInt8.ofNat ((q + 2 ^ e) % 256) = UInt8.ofNat (q + 2 ^ e) := by
    apply UInt8.toNat_inj.1
    rw [UInt8.toNat_ofNat', UInt8.toNat_ofNat']; omega
  rw [h1, bv_mod, h2]
theorem lt_of_some {w : World} {g : Nat} {o : Obj} (h : w.heap[g]? = some o) : g < w.heap.size := by
  rcases Nat.lt_or_ge g w.heap.size with h1 | h1
  · exact h1
  · rw [Array.getElem?_eq_none h1] at h; cases h
theorem data_six (s : ByteArray) (w : World) (hv : vld 2 (bl s) = true) :
    Calls Try.prog 38 #[.agg #[.int .i64 2, .string s]] w fun e w' => ∃ v, e = .returned v ∧ Own w.heap.size w' v (lit (v6 (bl s)) (sixB s.size)) ∧ Below w.heap.size w w' := by
  obtain ⟨-, h126, h63, hok⟩ := vld_six hv
  rw [bl_len] at h126 h63
  obtain ⟨i0, hi, hz0, hz1, hz2⟩ := info_parts info5
  have hbx : Below w.heap.size w (w.alloc (.cells #[.int .i64 2, .string s] 23)) := (Below.refl _ _).alloc (Nat.le_refl _) _
  have HOK := Lib.hid hok
  have h6 : 6 * s.size ≤ 8 * sixB s.size := by unfold sixB; omega
  have hmk := fun u : World => make_bytes (sixB s.size) u i0 hi hz0 hz1 hz2 (by omega)
  clear hv hok
  go_enter Try.func38, Try.ntmps38
  go_wp2_with fail
  refine (six_any s.size _ (by omega)).mono ?_
  rintro e w' ⟨rfl, rfl⟩
  go_wp2_with fail
  have hst : (w.alloc (.cells #[.int .i64 2, .string s] 23)).heap[w.heap.size]? = some (.cells #[.int .i64 2, .string s] 23 (0, 0)) := heap_alloc_new w _
  have hsz : (w.alloc (.cells #[.int .i64 2, .string s] 23)).heap.size = w.heap.size + 1 := by simp
  generalize w.alloc (.cells #[.int .i64 2, .string s] 23) = w1 at *
  have hst2 : (w1.alloc (.cells (madeCells #[.int .u8 0] (sixB s.size)) 5)).heap[w.heap.size]? = some (.cells #[.int .i64 2, .string s] 23 (0, 0)) := (Below.heap_alloc w1 _ _ (by omega)).trans hst
  have hnew : (w1.alloc (.cells (madeCells #[.int .u8 0] (sixB s.size)) 5)).heap[w.heap.size + 1]? = some (.cells (madeCells #[.int .u8 0] (sixB s.size)) 5 (0, 0)) := by rw [← hsz]; exact heap_alloc_new w1 _
  have hb2 : Below w.heap.size w (w1.alloc (.cells (madeCells #[.int .u8 0] (sixB s.size)) 5)) := hbx.alloc (by omega) _
  have ho2 : Own (w.heap.size + 1) (w1.alloc (.cells (madeCells #[.int .u8 0] (sixB s.size)) 5)) (.slice (some ⟨w.heap.size + 1, 0, none⟩) (sixB s.size) (sixB s.size)) (lit 0 (sixB s.size)) := by
    rw [lit_zero]; exact own_block hnew (Nat.le_refl _) (by omega)
  generalize w1.alloc (.cells (madeCells #[.int .u8 0] (sixB s.size)) 5) = w2 at *
  have hg1 : w.heap.size + 1 ≠ w.heap.size := by omega
  generalize hgb : w.heap.size + 1 = gb at *
  have hgb2 : w.heap.size < gb := by omega
  have HG := Lib.hid hgb
  clear hst hnew hbx hgb hsz hmk
  go_loopw [6] (fun i wr => ∃ j : Nat, j ≤ s.size ∧ i = .int .i64 j ∧ Own gb wr (.slice (some ⟨gb, 0, none⟩) (sixB s.size) (sixB s.size)) (lit (v6 ((bl s).take j)) (sixB s.size)) ∧ w2.grownBy wr (some gb)) (fun i _ => s.size - (intOf i).toNat)
  case atStart => exact ⟨0, Nat.zero_le _, rfl, ho2, World.grownBy.refl _ _⟩
  case round =>
    obtain ⟨j, hj, rfl, hown, hgr⟩ := hrel
    by_cases hlt : j < s.size
    · have hjl : j < (bl s).length := by rw [bl_len]; exact hlt
      have hx : s[j].toNat < 256 := s[j].toNat_lt
      obtain ⟨hx1, hx2⟩ := (show 32 ≤ s[j].toNat ∧ s[j].toNat ≤ 95 from oks_at HOK.out j hjl)
      have hcell : wr.cell? ⟨w.heap.size, 1, none⟩ = some (.string s) := by
        rw [cell_of_row wr w.heap.size 1 _ _ _ ((hgr.block w.heap.size (lt_of_some hst2) (fun e => by injection e; omega)).trans hst2)]; rfl
      have hvlt := Lib.hid (v6_take_lt HOK.out j (by omega))
      have hsc := Lib.hid (v6_succ (bl s) j hjl)
      have hgx := Lib.hid (show (bl s)[j] = s[j] from rfl)
      obtain ⟨y, hy⟩ : ∃ y, s[j].toNat = y + 32 := ⟨s[j].toNat - 32, by omega⟩
      have HY := Lib.hid hy
      have hy64 : y < 64 := by omega
      have e1 : (s[j].toNat : Int) - 32 = (y : Int) := by omega
      clear hy
      go_wp2_with fail
      go_loopw [7, 8] (fun v7 v8 wx => ∃ k : Nat, k ≤ 6 ∧ v8 = .int .i64 k ∧ v7 = .int .i64 ((y / 2 ^ k : Nat) : Int) ∧
          Own gb wx (.slice (some ⟨gb, 0, none⟩) (sixB s.size) (sixB s.size)) (lit (v6 ((bl s).take j) + 64 ^ j * (y % 2 ^ k)) (sixB s.size)) ∧ w2.grownBy wx (some gb)) (fun _ v8 _ => 6 - (intOf v8).toNat)
      case atStart => exact ⟨0, by omega, rfl, vi (by simp; omega), by rw [Nat.pow_zero, Nat.mod_one, Nat.mul_zero, Nat.add_zero]; exact hown, hgr⟩
      case round =>
        clear hown hgr hcell
        obtain ⟨k, hk, rfl, rfl, hown, hgr⟩ := hrel
        have hyk : y / 2 ^ k ≤ y := Nat.div_le_self _ _
        by_cases hk6 : k < 6
        · have hat : 6 * j + k < 8 * sixB s.size := by omega
          have hnx : y / 2 ^ k / 2 = y / 2 ^ (k + 1) := by rw [Nat.div_div_eq_div_mul, Nat.pow_succ]
          have HNX := Lib.hid hnx; clear hnx
          by_cases hbit : y / 2 ^ k % 2 = 1
          · have hidx : (6 * j + k) / 8 < (lit (v6 ((bl s).take j) + 64 ^ j * (y % 2 ^ k)) (sixB s.size)).length := by rw [lit_len]; omega
            have hl0 : sixB s.size = (lit (v6 ((bl s).take j) + 64 ^ j * (y % 2 ^ k)) (sixB s.size)).length := (lit_len _ _).symm
            have hc0 := own_cell hown hl0 hidx
            have hf0 := own_frozen hown hl0 ((6 * j + k) / 8)
            have hst := own_store hown hl0 ((6 * j + k) / 8) (UInt8.ofNat ((v6 ((bl s).take j) + 64 ^ j * (y % 2 ^ k)) / 256 ^ ((6 * j + k) / 8) % 256 + 2 ^ ((6 * j + k) % 8)))
            rw [v6_bit (bl s) j k y _ hvlt.out hbit hat] at hst
            rw [lit_get _ _ _ (by omega)] at hc0
            have hold : (UInt8.ofNat ((v6 ((bl s).take j) + 64 ^ j * (y % 2 ^ k)) / 256 ^ ((6 * j + k) / 8) % 256)).toNat = (v6 ((bl s).take j) + 64 ^ j * (y % 2 ^ k)) / 256 ^ ((6 * j + k) / 8) % 256 := by
              rw [UInt8.toNat_ofNat']; omega
            rw [hold] at hc0
            generalize hq : (v6 ((bl s).take j) + 64 ^ j * (y % 2 ^ k)) / 256 ^ ((6 * j + k) / 8) % 256 = q at *
            have hq256 : q < 256 := by omega
            have HST := Lib.hid hst
            clear hidx hl0 hold hq hst
            have tb : (((y / 2 ^ k : Nat) : Int) % 2 == 1) = true := by rw [beq_iff_eq]; omega
            clear hbit
            generalize y / 2 ^ k = z at *
            go_wp2_with fail
            rw [bv_pow]
            exact ⟨⟨k + 1, by omega, by go_num, vi (by rw [← HNX.out]; omega), HST.out.1, grown_trans hgr HST.out.2⟩, by simp [intOf]; omega⟩
          · have tb : (((y / 2 ^ k : Nat) : Int) % 2 == 1) = false := by rw [beq_eq_false_iff_ne]; omega
            have hnb := Lib.hid (v6_nobit y k hbit)
            clear hbit
            generalize y / 2 ^ k = z at *
            go_wp2_with fail
            exact ⟨⟨k + 1, by omega, by go_num, vi (by rw [← HNX.out]; omega), by rw [hnb.out]; exact hown, hgr⟩, by simp [intOf]; omega⟩
        · obtain rfl : k = 6 := by omega
          rw [Nat.mod_eq_of_lt (show y < 2 ^ 6 by omega)] at hown
          clear hyk
          go_wp2_with fail
          refine ⟨⟨j + 1, by omega, by go_num, ?_, hgr⟩, by simp [intOf]; omega⟩
          have := hsc.out
          rw [hgx.out, HY.out, Nat.add_sub_cancel] at this
          rw [this]; exact hown
    · go_wp2_with fail
      go_ret
      have : j = s.size := by omega
      subst this
      rw [List.take_of_length_le (by rw [bl_len]; omega)] at hown
      exact ⟨_, rfl, hown.base_ (by omega), hb2.grown hgr (by have := hb2.size; omega) (fun k hk => by cases hk; omega)⟩

theorem data_rest (k : Int) (s : ByteArray) (w : World) (h1 : k ≠ 1) (h2 : k ≠ 2) (hs : s.size ≤ 100000) :
    Calls Try.prog 38 #[.agg #[.int .i64 k, .string s]] w fun e w' => ∃ v, e = .returned v ∧ Own w.heap.size w' v (bl s) ∧ Below w.heap.size w w' := by
  obtain ⟨i0, hi, hz0, hz1, hz2⟩ := info_parts info5
  have hbx : Below w.heap.size w (w.alloc (.cells #[.int .i64 k, .string s] 23)) := (Below.refl _ _).alloc (Nat.le_refl _) _
  have t1 : (k == 1) = false := by rw [beq_eq_false_iff_ne]; exact h1
  have t2 : (k == 2) = false := by rw [beq_eq_false_iff_ne]; exact h2
  clear h1 h2
  go_enter Try.func38, Try.ntmps38
  go_wp2_with fail
  have hst : (w.alloc (.cells #[.int .i64 k, .string s] 23)).heap[w.heap.size]? = some (.cells #[.int .i64 k, .string s] 23 (0, 0)) := heap_alloc_new w _
  have hsz : (w.alloc (.cells #[.int .i64 k, .string s] 23)).heap.size = w.heap.size + 1 := by simp
  generalize w.alloc (.cells #[.int .i64 k, .string s] 23) = w1 at *
  go_loopw [4, 10] (fun v i wr => ∃ j : Nat, j ≤ s.size ∧ i = .int .i64 j ∧ Own (w.heap.size + 1) wr v ((bl s).take j) ∧ Below (w.heap.size + 1) w1 wr) (fun _ i _ => s.size - (intOf i).toNat)
  case atStart => exact ⟨0, Nat.zero_le _, rfl, Own.nil, Below.refl _ _⟩
  case round =>
    obtain ⟨j, hj, rfl, hown, hbel⟩ := hrel
    by_cases hlt : j < s.size
    · have hjl : j < (bl s).length := by rw [bl_len]; exact hlt
      have hx : s[j].toNat < 256 := s[j].toNat_lt
      have hz := hbel.size
      rw [hsz] at hz
      have hcell : wr.cell? ⟨w.heap.size, 1, none⟩ = some (.string s) := by
        rw [hbel.cell (p := ⟨w.heap.size, 1, none⟩) (Nat.lt_succ_self _), cell_of_row w1 w.heap.size 1 _ _ _ hst]; rfl
      go_wp2_with (at_builtin; (refine wpList_append_rd _ rfl _ _ _ rfl (w.heap.size + 1) 5 i0 _ 1 Try.underlying31 hi hz0 hz1 hz2 rfl _ ((bl s).take j).length (bvs ((bl s).take j)) rfl (World.ownsRow.alloc hown _) _ _ 1 1 (bvs [s[j]]) rfl rfl (Rd.new wr _ _) (fun hh => by cases hh) (bvs_one _) (by unfold maxLen; simp; omega) (by simp; omega) (by simp; omega) ?_); intro v1 w2 hown1 hg1)
      have hbel1 : Below (w.heap.size + 1) w1 w2 := below_grown (hbel.alloc (by omega) _) (World.ownsRow.alloc hown _) hg1 (by simp; omega)
      exact ⟨⟨j + 1, by omega, by go_num, by rw [take_snoc hjl]; exact own_app hown1, hbel1⟩, by simp [intOf]; omega⟩
    · go_wp2_with fail
      go_ret
      rw [List.take_of_length_le (by rw [bl_len]; omega)] at hown
      exact ⟨_, rfl, hown.base_ (by omega), hbx.trans (hbel.mono (by omega))⟩
theorem data_any (k : Int) (s : ByteArray) (w : World) (hv : vld k (bl s) = true) (hs : s.size ≤ 100000) :
    Calls Try.prog 38 #[.agg #[.int .i64 k, .string s]] w (Mem.Made w (dat k (bl s))) := by
  by_cases h1 : k = 1
  · subst h1; exact (data_bcd s w hv).mono fun _ _ h => Made.of h
  · by_cases h2 : k = 2
    · subst h2
      refine (data_six s w hv).mono fun _ _ h => Made.of ?_
      rw [← bl_len] at h
      exact h
    · refine (data_rest k s w h1 h2 hs).mono fun _ _ h => Made.of ?_
      unfold dat; rw [if_neg h1, if_neg h2]; exact h
theorem vld_len {k : Int} {l : List UInt8} (h : vld k l = true) : (dat k l).length ≤ 63 ∧ 0 ≤ k ∧ k ≤ 3 := by
  rw [dat_len]
  unfold vld at h
  split at h
  · subst_vars; simp at h ⊢; exact h
  · split at h
    · subst_vars; simp at h ⊢; omega
    · split at h
      · subst_vars; simp at h ⊢; exact h.1.2.2
      · split at h
        · subst_vars
          have h := of_decide_eq_true h
          simp; omega
        · cases h
theorem encode_no (k : Int) (s : ByteArray) (w : World) (hv : vld k (bl s) = false) (hs : s.size ≤ 100000) :
    Calls Try.prog 18 #[.agg #[.int .i64 k, .string s]] w fun e w' => e = .returned (.tuple #[.slice none 0 0, .int .i64 1]) ∧ Below w.heap.size w w' := by
  go_enter Try.func18, Try.ntmps18
  go_wp2_with fail
  refine (valid_any k s _ hs).mono ?_
  rintro e w' ⟨rfl, hb⟩
  rw [hv]
  go_wp2_with fail
  go_ret2
  exact ⟨rfl, ((Below.refl _ _).alloc (Nat.le_refl _) _).trans (hb.mono (by simp))⟩
theorem encode_yes (k : Int) (s : ByteArray) (w : World) (hv : vld k (bl s) = true) (hs : s.size ≤ 100000) :
    Calls Try.prog 18 #[.agg #[.int .i64 k, .string s]] w fun e w' => ∃ A n c, e = .returned (.tuple #[.slice A n c, .int .i64 0]) ∧ Sl w' A n c (enc k (bl s)) ∧ Below w.heap.size w w' := by
  obtain ⟨hl, hk0, hk3⟩ := vld_len hv
  go_enter Try.func18, Try.ntmps18
  go_wp2_with fail
  refine (valid_any k s _ hs).mono ?_
  rintro e w1 ⟨rfl, hb⟩
  rw [hv]
  have hst : (w.alloc (.cells #[.int .i64 k, .string s] 23)).heap[w.heap.size]? = some (.cells #[.int .i64 k, .string s] 23 (0, 0)) := heap_alloc_new w _
  have hst1 := (hb.block w.heap.size (by simp)).trans hst
  have hb1 : Below w.heap.size w w1 := ((Below.refl _ _).alloc (Nat.le_refl _) _).trans (hb.mono (by simp))
  have hsz : w.heap.size < w1.heap.size := lt_of_some hst1
  clear hb hst
  have c0 : w1.cell? ⟨w.heap.size, 0, none⟩ = some (.int .i64 k) := by rw [cell_of_row w1 w.heap.size 0 _ _ _ hst1]; rfl
  have c1 : w1.cell? ⟨w.heap.size, 1, none⟩ = some (.string s) := by rw [cell_of_row w1 w.heap.size 1 _ _ _ hst1]; rfl
  go_wp2_with fail
  refine (data_any k s w1 hv hs).mono ?_
  rintro e w2 ⟨A2, n2, c2, rfl, o2, s2, b2⟩
  have hn2 : n2 ≤ 63 := by rw [s2.len]; exact hl
  have d0 : w2.cell? ⟨w.heap.size, 0, none⟩ = some (.int .i64 k) := by rw [b2.cell (p := ⟨w.heap.size, 0, none⟩) hsz]; exact c0
  have hb2 : Below w.heap.size w w2 := hb1.trans (b2.mono (by omega))
  have hz2 := hb2.size
  obtain ⟨i0, hi, hz0, hz1, hz3⟩ := info_parts info5
  have HL := Lib.hid s2.len
  go_wp2_with (at_builtin; (refine wpList_append_rd _ rfl _ _ _ rfl w.heap.size 5 i0 _ 1 Try.underlying31 hi hz0 hz1 hz3 rfl _ 1 [.int .u8 (64 * k + n2)] rfl (World.ownsRow_lit w2 #[.int .u8 (64 * k + n2)] 1 hz2 (by unfold maxLen; omega) rfl) _ A2 n2 c2 (bvs (dat k (bl s))) rfl ((len_bvs _).trans HL.out.symm) (Rd.alloc s2.row (Nat.le_refl _) _) s2.nil (bvs_one _) (by unfold maxLen; omega) (by omega) (by simp; omega) ?_); intro v3 w3 hown3 hg3)
  have own3 : Own w.heap.size w3 v3 (enc k (bl s)) := own_of hown3 (by rw [enc, List.length_cons, ← HL.out, Nat.add_comm]) (by
    obtain ⟨z, hzz⟩ := Int.eq_ofNat_of_zero_le (show 0 ≤ 64 * k + (n2 : Int) by omega)
    have hz256 : z < 256 := by omega
    rw [enc, ← HL.out, hzz]
    show _ = bv (UInt8.ofNat z) :: bvs (dat k (bl s))
    rw [← bv_nat hz256]; rfl)
  have hb3 : Below w.heap.size w w3 := (hb2.alloc hz2 _).grown hg3 (by simp; omega) (fun q hq => by cases hq; omega)
  obtain ⟨A3, n3, c3, rfl, s3⟩ := Sl.of_own own3
  go_ret2
  exact ⟨A3, n3, c3, rfl, s3, hb3⟩
end Go.Proofs.Ytkhdldemhaifpaa.F2s
