/- Walks: the program's package fields: Encode, Decode. -/
import Derived.Test.YtkhdldemhaifpaaFe
namespace Go.Proofs.Ytkhdldemhaifpaa.Fa
open Go.RowKit Go.Proofs.Ytkhdldemhaifpaa.Mem Go.Proofs.Ytkhdldemhaifpaa.F2p
set_option maxRecDepth 100000
set_option maxHeartbeats 1000000

theorem lt_of_some {w : World} {g : Nat} {o : Obj} (h : w.heap[g]? = some o) : g < w.heap.size := by
  rcases Nat.lt_or_ge g w.heap.size with h1 | h1
  · exact h1
  · rw [Array.getElem?_eq_none h1] at h; cases h
theorem pair_cells {w : World} {g : Nat} {u v : Value} {t : TypeId} (h : w.heap[g]? = some (.cells #[u, v] t (0, 0))) :
    w.cell? ⟨g, 0, none⟩ = some u ∧ w.cell? ⟨g, 1, none⟩ = some v ∧ ∀ i, w.frozen? ⟨g, i, none⟩ = false :=
  ⟨by rw [cell_of_row w g 0 _ _ _ h]; rfl, by rw [cell_of_row w g 1 _ _ _ h]; rfl, fun i => by simp [World.frozen?, h]⟩
/-- What a call that makes a slice of bytes leaves that is read only. -/
def MadeR (w : World) (l : List UInt8) (e : Ending) (w' : World) : Prop := ∃ A n c, e = .returned (.slice A n c) ∧ Sl w' A n c l ∧ Below w.heap.size w w'
theorem made_r {w : World} {l : List UInt8} {e : Ending} {w' : World} (h : ∃ v, e = .returned v ∧ Own w.heap.size w' v l ∧ Below w.heap.size w w') : MadeR w l e w' := by
  obtain ⟨A, n, c, h1, _, h3, h4⟩ := Made.of h
  exact ⟨A, n, c, h1, h3, h4⟩
theorem conv_bytes (s : ByteArray) (w : World) (hs : s.size ≤ 100000) : ∃ c w', (convert 9 31 (.string s)).run Try.prog w = .ok (.slice (some ⟨w.heap.size, 0, none⟩) s.size c) w' ∧ Sl w' (some ⟨w.heap.size, 0, none⟩) s.size c (bl s) ∧ Below w.heap.size w w' := by
  have h := run_bytes_of_string (P := Try.prog) w 9 31 5 s Try.underlying9 Try.underlying31 Try.underlying5
  have hge := grownCap_ge w s.size 0 5
  have hle := grownCap_le_maxLen w s.size 0 5 (by unfold maxLen; omega)
  generalize grownCap w s.size 0 5 = c at *
  refine ⟨c, _, h, ⟨(bl_len s).symm, ?_, hge, hle, fun hh => by cases hh⟩, ?_⟩
  · have h1 := (Rd.new w.drew (bytesRow s c) 5 ((bytesRow s c).size, (bytesRow s c).size + 1)).take s.size
    have h2 : (bytesRow s c).toList.take s.size = bvs (bl s) := by
      unfold bytesRow
      rw [Array.toList_append, List.take_left' (by simp)]
      simp [bvs, bl, bv]
    rw [h2] at h1
    exact h1.more (by simp)
  · exact ((⟨rfl, rfl, rfl, Nat.le_refl _, fun _ _ => rfl⟩ : Below w.heap.size w w.drew)).alloc (Nat.le_refl _) _
theorem pack_any (k : Int) (s : ByteArray) (w : World) (hv : vld k (bl s) = true) (hs : s.size ≤ 100000) :
    Calls Try.prog 37 #[.agg #[.int .i64 k, .string s]] w (MadeR w (dat k (bl s))) := by
  have hbx : Below w.heap.size w (w.alloc (.cells #[.int .i64 k, .string s] 23)) := (Below.refl _ _).alloc (Nat.le_refl _) _
  by_cases h1 : k = 1
  · subst h1
    obtain ⟨h2, h126, hok⟩ := vld_bcd hv
    rw [bl_len] at h2 h126
    have hd : dat 1 (bl s) = bcd (bl s) := rfl
    rw [hd]
    have hc := Lib.hid (fun u => packBCD_any s u h2 h126 hok)
    clear h2 hok hv hd
    go_enter Try.func37, Try.ntmps37
    go_wp2_with (go_at_call 47; refine (hc.out _).mono ?_; rintro e w' ⟨v, rfl, ho, hb⟩)
    go_ret
    exact made_r ⟨v, rfl, ho.base_ hbx.size, hbx.trans (hb.mono hbx.size)⟩
  · by_cases h2 : k = 2
    · subst h2
      obtain ⟨-, h126, -, hok⟩ := vld_six hv
      rw [bl_len] at h126
      have hd : dat 2 (bl s) = lit (v6 (bl s)) (sixB s.size) := by rw [← bl_len]; rfl
      rw [hd]
      have hc := Lib.hid (fun u => packSix_any s u hs hok)
      clear hok hv hd h1
      go_enter Try.func37, Try.ntmps37
      go_wp2_with (go_at_call 48; refine (hc.out _).mono ?_; rintro e w' ⟨v, rfl, ho, hb⟩)
      go_ret
      exact made_r ⟨v, rfl, ho.base_ hbx.size, hbx.trans (hb.mono hbx.size)⟩
    · have t1 : (k == 1) = false := by rw [beq_eq_false_iff_ne]; exact h1
      have t2 : (k == 2) = false := by rw [beq_eq_false_iff_ne]; exact h2
      have hd : dat k (bl s) = bl s := by unfold dat; rw [if_neg h1, if_neg h2]
      rw [hd]
      obtain ⟨c, w2, hcv, hsl, hb2⟩ := conv_bytes s (w.alloc (.cells #[.int .i64 k, .string s] 23)) hs
      have hall : Below w.heap.size w w2 := hbx.trans (hb2.mono hbx.size)
      clear h1 h2 hv hd
      go_enter Try.func37, Try.ntmps37
      go_wp2_with fail
      go_ret
      exact ⟨_, _, _, rfl, by simpa using hsl, hall⟩
theorem enc_no (k : Int) (s : ByteArray) (w : World) (hv : vld k (bl s) = false) (hs : s.size ≤ 100000) :
    Calls Try.prog 17 #[.agg #[.int .i64 k, .string s]] w fun e w' => e = .returned (.tuple #[.slice none 0 0, .int .i64 1]) ∧ Below w.heap.size w w' := by
  go_enter Try.func17, Try.ntmps17
  go_wp2_with fail
  refine (valid_p k s _ hs).mono ?_
  rintro e w' ⟨rfl, hb⟩
  rw [hv]
  go_wp2_with fail
  go_ret2
  exact ⟨rfl, ((Below.refl _ _).alloc (Nat.le_refl _) _).trans (hb.mono (by simp))⟩
theorem enc_yes (k : Int) (s : ByteArray) (w : World) (hv : vld k (bl s) = true) (hs : s.size ≤ 100000) :
    Calls Try.prog 17 #[.agg #[.int .i64 k, .string s]] w fun e w' => ∃ A n c, e = .returned (.tuple #[.slice A n c, .int .i64 0]) ∧ Own w.heap.size w' (.slice A n c) (enc k (bl s)) ∧ Sl w' A n c (enc k (bl s)) ∧ Below w.heap.size w w' := by
  obtain ⟨hl, hk0, hk3, -⟩ := vld_dat hv
  go_enter Try.func17, Try.ntmps17
  go_wp2_with fail
  refine (valid_p k s _ hs).mono ?_
  rintro e w1 ⟨rfl, hb⟩
  rw [hv]
  have hst : (w.alloc (.cells #[.int .i64 k, .string s] 23)).heap[w.heap.size]? = some (.cells #[.int .i64 k, .string s] 23 (0, 0)) := heap_alloc_new w _
  have hst1 := (hb.block w.heap.size (by simp)).trans hst
  have hb1 : Below w.heap.size w w1 := ((Below.refl _ _).alloc (Nat.le_refl _) _).trans (hb.mono (by simp))
  have hsz : w.heap.size < w1.heap.size := lt_of_some hst1
  clear hb hst
  have c0 : w1.cell? ⟨w.heap.size, 0, none⟩ = some (.int .i64 k) := by rw [cell_of_row w1 w.heap.size 0 _ _ _ hst1]; rfl
  have c1 : w1.cell? ⟨w.heap.size, 1, none⟩ = some (.string s) := by rw [cell_of_row w1 w.heap.size 1 _ _ _ hst1]; rfl
  go_wp2_with fail
  refine (pack_any k s w1 hv hs).mono ?_
  rintro e w2 ⟨A2, n2, c2, rfl, s2, b2⟩
  have hn2 : n2 ≤ 63 := by rw [s2.len]; exact hl
  have d0 : w2.cell? ⟨w.heap.size, 0, none⟩ = some (.int .i64 k) := by rw [b2.cell (p := ⟨w.heap.size, 0, none⟩) hsz]; exact c0
  have hb2 : Below w.heap.size w w2 := hb1.trans (b2.mono (by omega))
  have hz2 := hb2.size
  obtain ⟨i0, hi, hz0, hz1, hz3⟩ := info_parts info5
  have HL := Lib.hid s2.len
  go_wp2_with (at_builtin; (refine wpList_append_rd _ rfl _ _ _ rfl w.heap.size 5 i0 _ 1 Try.underlying31 hi hz0 hz1 hz3 rfl _ 1 [.int .u8 (64 * k + n2)] rfl (World.ownsRow_lit w2 #[.int .u8 (64 * k + n2)] 1 hz2 (by unfold maxLen; omega) rfl) _ A2 n2 c2 (bvs (dat k (bl s))) rfl ((len_bvs _).trans HL.out.symm) (Rd.alloc s2.row (Nat.le_refl _) _) s2.nil (bvs_one _) (by unfold maxLen; omega) (by omega) (by simp; omega) ?_); intro v3 w3 hown3 hg3)
  have own3 : Own w.heap.size w3 v3 (enc k (bl s)) := own_of hown3 (by rw [enc, List.length_cons, ← HL.out, Nat.add_comm]) (by
    obtain ⟨z, hzz⟩ := Int.eq_ofNat_of_zero_le (show 0 ≤ 64 * k + (n2 : Int) by omega)
    have hz256 : z < 256 := by omega
    rw [enc, ← HL.out, hzz]
    show _ = bv (UInt8.ofNat z) :: bvs (dat k (bl s))
    rw [← bv_nat hz256]; rfl)
  have hb3 : Below w.heap.size w w3 := (hb2.alloc hz2 _).grown hg3 (by simp; omega) (fun q hq => by cases hq; omega)
  obtain ⟨A3, n3, c3, rfl, s3⟩ := Sl.of_own own3
  go_ret2
  exact ⟨A3, n3, c3, rfl, own3, s3, hb3⟩
end Go.Proofs.Ytkhdldemhaifpaa.Fa
