/- Walks: the reference's sealing and opening. -/
import Derived.Test.YtnmakbbbbcngbaaWc
namespace Go.Proofs.Ytnmakbbbbcngbaa.Wd
open Go.RowKit Go.Proofs.Ytnmakbbbbcngbaa.Mem Go.Proofs.Ytnmakbbbbcngbaa.Pl Go.Proofs.Ytnmakbbbbcngbaa.Wa Go.Proofs.Ytnmakbbbbcngbaa.Wb Go.Proofs.Ytnmakbbbbcngbaa.Wc
set_option maxRecDepth 100000
set_option maxHeartbeats 400000

theorem rseal8_any (A : Option Addr) (n c : Nat) (l : List UInt8) (w : World) (hn : n = l.length) (h : Row w.heap.size w A l) (hb : n ≤ 100000) :
    Calls Try.prog 29 #[.slice A n c] w fun e w' => ∃ v, e = .returned v ∧ Own w.heap.size w' v (l ++ [UInt8.ofNat (sum8 l)]) ∧ Below w.heap.size w w' := by
  subst hn
  obtain ⟨i0, hi, hz0, hz1, hz2⟩ := info_parts info5
  go_enter Try.func29, Try.ntmps29
  go_wp2_with fail
  refine (copy_any A l.length c l w rfl h (by omega)).mono ?_
  rintro e w1 ⟨u, rfl, ho, hb1⟩
  go_wp2_with fail
  refine (rsum8_any A c l _ w1 (h.below hb1) (by unfold maxLen; omega)).mono ?_
  rintro e w' ⟨rfl, rfl⟩
  have hz := hb1.size
  go_wp2_with (at_builtin; (refine wpList_append_rd _ rfl _ _ _ rfl w.heap.size 5 i0 _ 1 Try.underlying22 hi hz0 hz1 hz2 rfl _ l.length (bvs l) rfl (World.ownsRow.alloc ho _) _ _ 1 1 [.int .u8 (sum8 l)] rfl rfl (Rd.new w1 _ _) (fun hh => by cases hh) one_int (by unfold maxLen; omega) (by omega) (by simp; omega) ?_); intro v' w2 hown2 hg2; have hbel2 : Below w.heap.size w w2 := below_grown (hb1.alloc hz _) (World.ownsRow.alloc ho _) hg2 (by simp; omega))
  go_ret
  exact ⟨_, rfl, own_of hown2 (by simp) (by rw [bvs_app, bv_nat (sum8_lt l)]; rfl), hbel2⟩
theorem rsealcrc8_any (A : Option Addr) (n c : Nat) (l : List UInt8) (w : World) (hn : n = l.length) (h : Row w.heap.size w A l) (hb : n ≤ 100000) :
    Calls Try.prog 31 #[.slice A n c] w fun e w' => ∃ v, e = .returned v ∧ Own w.heap.size w' v (l ++ [UInt8.ofNat (crc8 l)]) ∧ Below w.heap.size w w' := by
  subst hn
  obtain ⟨i0, hi, hz0, hz1, hz2⟩ := info_parts info5
  go_enter Try.func31, Try.ntmps31
  go_wp2_with fail
  refine (copy_any A l.length c l w rfl h (by omega)).mono ?_
  rintro e w1 ⟨u, rfl, ho, hb1⟩
  go_wp2_with fail
  refine (rcrc8_any A c l _ w1 (h.below hb1) (by unfold maxLen; omega)).mono ?_
  rintro e w' ⟨rfl, rfl⟩
  have hz := hb1.size
  go_wp2_with (at_builtin; (refine wpList_append_rd _ rfl _ _ _ rfl w.heap.size 5 i0 _ 1 Try.underlying22 hi hz0 hz1 hz2 rfl _ l.length (bvs l) rfl (World.ownsRow.alloc ho _) _ _ 1 1 [.int .u8 (crc8 l)] rfl rfl (Rd.new w1 _ _) (fun hh => by cases hh) one_int (by unfold maxLen; omega) (by omega) (by simp; omega) ?_); intro v' w2 hown2 hg2; have hbel2 : Below w.heap.size w w2 := below_grown (hb1.alloc hz _) (World.ownsRow.alloc ho _) hg2 (by simp; omega))
  go_ret
  exact ⟨_, rfl, own_of hown2 (by simp) (by rw [bvs_app, bv_nat (crc8_lt l)]; rfl), hbel2⟩
theorem rsealcrc32_any (A : Option Addr) (n c : Nat) (l : List UInt8) (w : World) (hn : n = l.length) (h : Row w.heap.size w A l) (hb : n ≤ 100000) :
    Calls Try.prog 33 #[.slice A n c] w fun e w' => ∃ v, e = .returned v ∧ Own w.heap.size w' v (l ++ lit (crc32 l) 4) ∧ Below w.heap.size w w' := by
  subst hn
  obtain ⟨i0, hi, hz0, hz1, hz2⟩ := info_parts info5
  have hlt : crc32 l < 4294967296 := by unfold crc32; omega
  have hl4 := lit_len (crc32 l) 4
  go_enter Try.func33, Try.ntmps33
  go_wp2_with fail
  refine (copy_any A l.length c l w rfl h (by omega)).mono ?_
  rintro e w1 ⟨u, rfl, ho, hb1⟩
  go_wp2_with fail
  refine (rcrc32_any A c l _ w1 (h.below hb1) (by unfold maxLen; omega)).mono ?_
  rintro e w' ⟨rfl, rfl⟩
  have hz := hb1.size
  go_wp2_with fail
  refine (littles_any (crc32 l) 4 w1 (by omega) (by omega)).mono ?_
  rintro e w2 ⟨u2, rfl, ho2, hb2⟩
  have ho2' := ho.below hb2 (Nat.le_refl _)
  have hb12 := hb1.trans (hb2.mono hz)
  have hz2' := hb12.size
  obtain ⟨A2, c2, rfl, _, hr2, hA2⟩ := own_slice ho2 hl4.symm
  go_wp2_with (at_builtin; (refine wpList_append_rd _ rfl _ _ _ rfl w.heap.size 5 i0 _ 1 Try.underlying22 hi hz0 hz1 hz2 rfl _ l.length (bvs l) rfl ho2' _ A2 4 c2 (bvs (lit (crc32 l) 4)) rfl (by rw [len_bvs, lit_len]) hr2 hA2 (bvs_one _) (by unfold maxLen; omega) (by omega) hz2' ?_); intro v' w3 hown3 hg3; have hbel3 : Below w.heap.size w w3 := below_grown hb12 ho2' hg3 hz2')
  go_ret
  exact ⟨_, rfl, own_of hown3 (by simp [lit_len]) (by rw [bvs_app]), hbel3⟩

theorem ropen8_any (A : Option Addr) (n c : Nat) (l : List UInt8) (w : World) (hn : n = l.length) (h : Row w.heap.size w A l) (hc : n ≤ c) (hb : n ≤ 100000) :
    Calls Try.prog 22 #[.slice A n c] w fun e w' => ∃ v, e = .returned (.tuple #[v, .int .i64 ((open8 l).1 : Int)]) ∧ Own w.heap.size w' v (open8 l).2 ∧ Below w.heap.size w w' := by
  subst hn
  by_cases h0 : l.length = 0
  · have hs : open8 l = (4, []) := if_pos h0
    rw [h0, hs]
    go_enter Try.func22, Try.ntmps22
    go_wp2
    go_ret2
    exact ⟨_, rfl, Own.nil, Below.refl _ _⟩
  · obtain ⟨m, hm⟩ : ∃ m, l.length = m + 1 := ⟨l.length - 1, by omega⟩
    have hm2 : m + 1 ≤ 100000 := by omega
    have hc2 : m + 1 ≤ c := by omega
    obtain ⟨a, rfl, -, -⟩ := row_at h (k := 0) (by omega)
    have hcall := rsum8_any (some a) c l _ w h (by unfold maxLen; omega)
    have ho : open8 l = if sum8 l ≠ 0 then (5, []) else (0, l.take m) := by unfold open8; rw [if_neg h0, hm, Nat.add_sub_cancel]
    have hlen : m = (l.take m).length := by simp; omega
    have hrt := row_take h m
    rw [hm] at hcall ⊢
    rw [ho]
    have hz : ((m : Int) + 1 == 0) = false := by rw [beq_eq_false_iff_ne]; omega
    by_cases hs0 : sum8 l = 0
    · have hb0 : ((sum8 l : Int) != 0) = false := by rw [hs0]; rfl
      rw [if_neg (by simpa using hs0)]
      have HC := Lib.hid hcall; have HL := Lib.hid hlen; clear hcall hm ho hs0 hlen
      go_enter Try.func22, Try.ntmps22
      go_wp2_with fail
      refine HC.out.mono ?_
      rintro e w' ⟨rfl, rfl⟩
      go_wp2_with fail
      refine (copy_any (some a) m c (l.take m) w HL.out hrt (by omega)).mono ?_
      rintro e w' ⟨v, rfl, ho, hb⟩
      go_wp2_with fail
      go_ret2
      exact ⟨v, rfl, ho, hb⟩
    · have hb0 : ((sum8 l : Int) != 0) = true := by simp; omega
      rw [if_pos hs0]
      have HC := Lib.hid hcall; clear hcall hm ho hs0 hlen
      go_enter Try.func22, Try.ntmps22
      go_wp2_with fail
      refine HC.out.mono ?_
      rintro e w' ⟨rfl, rfl⟩
      go_wp2_with fail
      go_ret2
      exact ⟨_, rfl, Own.nil, Below.refl _ _⟩
theorem number_at (A : Option Addr) (n c : Nat) (l : List UInt8) (B : Nat) (w : World) (hn : n = l.length) (h : Row B w A l) (hl : n ≤ 8) :
    Calls Try.prog 42 #[.slice A n c] w fun e w' => e = .returned (.int .u64 (num l)) ∧ w = w' := by
  subst hn
  exact number_any A c l B w h hl
theorem ropencrc8_any (A : Option Addr) (n c : Nat) (l : List UInt8) (w : World) (hn : n = l.length) (h : Row w.heap.size w A l) (hc : n ≤ c) (hb : n ≤ 100000) :
    Calls Try.prog 24 #[.slice A n c] w fun e w' => ∃ v, e = .returned (.tuple #[v, .int .i64 ((opencrc8 l).1 : Int)]) ∧ Own w.heap.size w' v (opencrc8 l).2 ∧ Below w.heap.size w w' := by
  subst hn
  by_cases h0 : l.length = 0
  · have hs : opencrc8 l = (4, []) := if_pos h0
    rw [h0, hs]
    go_enter Try.func24, Try.ntmps24
    go_wp2
    go_ret2
    exact ⟨_, rfl, Own.nil, Below.refl _ _⟩
  · obtain ⟨m, hm⟩ : ∃ m, l.length = m + 1 := ⟨l.length - 1, by omega⟩
    have hm2 : m + 1 ≤ 100000 := by omega
    have hc2 : m + 1 ≤ c := by omega
    obtain ⟨a, rfl, -, hcell⟩ := row_at h (k := m) (by omega)
    have hx := l[m].toNat_lt
    have hc8 := crc8_lt (l.take m)
    have ho : opencrc8 l = if crc8 (l.take m) ≠ l[m].toNat then (5, []) else (0, l.take m) := by
      unfold opencrc8
      rw [if_neg h0]
      simp only [hm, Nat.add_sub_cancel]
      have e1 : l.getD m 0 = l[m] := by rw [List.getD, List.getElem?_eq_getElem (by omega)]; rfl
      have e2 : (UInt8.ofNat (crc8 (l.take m)) = l[m]) ↔ crc8 (l.take m) = l[m].toNat := by
        rw [← UInt8.toNat_inj, UInt8.toNat_ofNat', Nat.mod_eq_of_lt hc8]
      rw [e1]
      simp only [ne_eq, e2]
    have hlen : m = (l.take m).length := by simp; omega
    have hrt := row_take h m
    have hcall := fun k => rcrc8_at (some a) m c (l.take m) _ (w.drewN k) hlen hrt (by unfold maxLen; omega)
    rw [hm, ho]
    generalize l[m].toNat = x at *
    generalize crc8 (l.take m) = y at *
    have b1 : (0 : Int) ≤ (m : Int) := by omega
    have b2 : (m : Int) ≤ (c : Int) := by omega
    have b3 : (m : Int) < (m : Int) + 1 := by omega
    have hz : ((m : Int) + 1 == 0) = false := by rw [beq_eq_false_iff_ne]; omega
    by_cases hs0 : y = x
    · have hb0 : ((y : Int) != (x : Int)) = false := by rw [hs0]; simp
      rw [if_neg (by simpa using hs0)]
      have HC := Lib.hid hcall; have HL := Lib.hid hlen; clear hcall hm ho hs0 hlen
      go_enter Try.func24, Try.ntmps24
      go_wp2_with fail
      go_quiet ((go_at_call 18; exact quiet_same (HC.out _)))
      go_wp2_with fail
      refine (copy_any (some a) m c (l.take m) _ HL.out (by exact hrt) (by omega)).mono ?_
      rintro e w' ⟨v, rfl, ho, hb⟩
      go_wp2_with fail
      go_ret2
      exact ⟨v, rfl, ho, below_of_drawn.trans hb⟩
    · have hb0 : ((y : Int) != (x : Int)) = true := by simp; omega
      rw [if_pos hs0]
      have HC := Lib.hid hcall; clear hcall hm ho hs0 hlen
      go_enter Try.func24, Try.ntmps24
      go_wp2_with fail
      go_quiet ((go_at_call 18; exact quiet_same (HC.out _)))
      go_wp2_with fail
      go_ret2
      exact ⟨_, rfl, Own.nil, below_of_drawn⟩
theorem ropencrc32_any (A : Option Addr) (n c : Nat) (l : List UInt8) (w : World) (hn : n = l.length) (h : Row w.heap.size w A l) (hc : n ≤ c) (hb : n ≤ 100000) :
    Calls Try.prog 26 #[.slice A n c] w fun e w' => ∃ v, e = .returned (.tuple #[v, .int .i64 ((opencrc32 l).1 : Int)]) ∧ Own w.heap.size w' v (opencrc32 l).2 ∧ Below w.heap.size w w' := by
  by_cases h0 : l.length < 4
  · have hs : opencrc32 l = (4, []) := if_pos h0
    rw [hs]
    have h4 : (n : Int) < 4 := by omega
    clear hn
    go_enter Try.func26, Try.ntmps26
    go_wp2
    go_ret2
    exact ⟨_, rfl, Own.nil, Below.refl _ _⟩
  · obtain ⟨m, hm⟩ : ∃ m, l.length = m + 4 := ⟨l.length - 4, by omega⟩
    subst hn
    have hm2 : m + 4 ≤ 100000 := by omega
    have hc2 : m + 4 ≤ c := by omega
    have hcm : ¬ c = m := by omega
    obtain ⟨a, rfl, -, -⟩ := row_at h (k := m) (by omega)
    have ho : opencrc32 l = if crc32 (l.take m) ≠ num (l.drop m) then (5, []) else (0, l.take m) := by
      unfold opencrc32
      rw [if_neg h0]
      simp only [hm, Nat.add_sub_cancel]
    have hlen : m = (l.take m).length := by simp; omega
    have hrt := row_take h m
    have hrd := row_cut h (n := m) (cap := c) (by omega) (by omega)
    rw [if_neg hcm] at hrd
    have hcall := fun k => rcrc32_at (some a) m c (l.take m) _ (w.drewN k) hlen hrt (by unfold maxLen; omega)
    have hlit := fun k => number_at (some (a.add m)) 4 (c - m) (l.drop m) _ (w.drewN k) (by simp; omega) hrd (by omega)
    rw [hm, ho]
    have hy : crc32 (l.take m) < 4294967296 := by unfold crc32; omega
    generalize crc32 (l.take m) = y at *
    have hwy := IntWalk.u64_in (y : Int) ⟨by omega, by omega⟩
    generalize num (l.drop m) = x at *
    have b1 : (0 : Int) ≤ (m : Int) := by omega
    have b2 : (m : Int) ≤ (c : Int) := by omega
    have b3 : (m : Int) ≤ (m : Int) + 4 := by omega
    have b4 : (m : Int) + 4 ≤ (c : Int) := by omega
    by_cases hs0 : y = x
    · have hb0 : ((y : Int) != (x : Int)) = false := by rw [hs0]; simp
      rw [if_neg (by simpa using hs0)]
      have HC := Lib.hid hcall; have HL := Lib.hid hlen; have HI := Lib.hid hlit; clear hcall hm ho hs0 hlen hlit
      go_enter Try.func26, Try.ntmps26
      go_wp2_with fail
      go_quiet ((first | (go_at_call 20; exact quiet_same (HC.out _)) | (go_at_call 42; exact quiet_same (HI.out _))))
      go_wp2_with fail
      refine (copy_any (some a) m c (l.take m) _ HL.out (by exact hrt) (by omega)).mono ?_
      rintro e w' ⟨v, rfl, ho, hb⟩
      go_wp2_with fail
      go_ret2
      exact ⟨v, rfl, ho, below_of_drawn.trans hb⟩
    · have hb0 : ((y : Int) != (x : Int)) = true := by simp; omega
      rw [if_pos hs0]
      have HC := Lib.hid hcall; have HI := Lib.hid hlit; clear hcall hm ho hs0 hlen hlit
      go_enter Try.func26, Try.ntmps26
      go_wp2_with fail
      go_quiet ((first | (go_at_call 20; exact quiet_same (HC.out _)) | (go_at_call 42; exact quiet_same (HI.out _))))
      go_wp2_with fail
      go_ret2
      exact ⟨_, rfl, Own.nil, below_of_drawn⟩
end Go.Proofs.Ytnmakbbbbcngbaa.Wd
