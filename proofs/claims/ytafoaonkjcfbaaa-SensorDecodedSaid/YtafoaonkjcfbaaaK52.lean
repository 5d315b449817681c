/- Walks: the reference's sealing and opening. -/
import Derived.Test.YtafoaonkjcfbaaaK37
namespace Go.Proofs.Ytafoaonkjcfbaaa.Wd
open Go.RowKit Go.Proofs.Ytafoaonkjcfbaaa.Mem Go.Proofs.Ytafoaonkjcfbaaa.Pl Go.Proofs.Ytafoaonkjcfbaaa.Wa Go.Proofs.Ytafoaonkjcfbaaa.Wb Go.Proofs.Ytafoaonkjcfbaaa.Wc
set_option maxRecDepth 100000
set_option maxHeartbeats 400000

theorem rseal8_any (A : Option Addr) (n c : Nat) (l : List UInt8) (w : World) (hn : n = l.length) (h : Row w.heap.size w A l) (hb : n ≤ 100000) :
    Calls Try.prog 35 #[.slice A n c] w fun e w' => ∃ v, e = .returned v ∧ Own w.heap.size w' v (l ++ [UInt8.ofNat (sum8 l)]) ∧ Below w.heap.size w w' := by
  subst hn
  obtain ⟨i0, hi, hz0, hz1, hz2⟩ := info_parts info5
  go_enter Try.func35, Try.ntmps35
  go_wp2_with fail
  refine (copy_any A l.length c l w rfl h (by omega)).mono ?_
  rintro e w1 ⟨u, rfl, ho, hb1⟩
  go_wp2_with fail
  refine (rsum8_any A c l _ w1 (h.below hb1) (by unfold maxLen; omega)).mono ?_
  rintro e w' ⟨rfl, rfl⟩
  have hz := hb1.size
  go_wp2_with (at_builtin; (refine wpList_append_rd _ rfl _ _ _ rfl w.heap.size 5 i0 _ 1 Try.underlying60 hi hz0 hz1 hz2 rfl _ l.length (bvs l) rfl (World.ownsRow.alloc ho _) _ _ 1 1 [.int .u8 (sum8 l)] rfl rfl (Rd.new w1 _ _) (fun hh => by cases hh) one_int (by unfold maxLen; omega) (by omega) (by simp; omega) ?_); intro v' w2 hown2 hg2; have hbel2 : Below w.heap.size w w2 := below_grown (hb1.alloc hz _) (World.ownsRow.alloc ho _) hg2 (by simp; omega))
  go_ret
  exact ⟨_, rfl, own_of hown2 (by simp) (by rw [bvs_app, bv_nat (sum8_lt l)]; rfl), hbel2⟩
theorem ropen8_any (A : Option Addr) (n c : Nat) (l : List UInt8) (w : World) (hn : n = l.length) (h : Row w.heap.size w A l) (hc : n ≤ c) (hb : n ≤ 100000) :
    Calls Try.prog 73 #[.slice A n c] w fun e w' => ∃ v, e = .returned (.tuple #[v, .int .i64 ((open8 l).1 : Int)]) ∧ Own w.heap.size w' v (open8 l).2 ∧ Below w.heap.size w w' := by
  subst hn
  by_cases h0 : l.length = 0
  · have hs : open8 l = (4, []) := if_pos h0
    rw [h0, hs]
    go_enter Try.func73, Try.ntmps73
    go_wp2
    go_ret2
    exact ⟨_, rfl, Own.nil, Below.refl _ _⟩
  · obtain ⟨m, hm⟩ : ∃ m, l.length = m + 1 := ⟨l.length - 1, by omega⟩
    have hm2 : m + 1 ≤ 100000 := by omega
    have hc2 : m + 1 ≤ c := by omega
    obtain ⟨a, rfl, -, -⟩ := row_at h (k := 0) (by omega)
    have hcall := rsum8_any (some a) c l _ w h (by unfold maxLen; omega)
    have ho : open8 l = if sum8 l ≠ 0 then (5, []) else (0, l.take m) := by unfold open8; rw [if_neg h0, hm, Nat.add_sub_cancel]
    have hlen : m = (l.take m).length := by simp; omega
    have hrt := row_take h m
    rw [hm] at hcall ⊢
    rw [ho]
    have hz : ((m : Int) + 1 == 0) = false := by rw [beq_eq_false_iff_ne]; omega
    by_cases hs0 : sum8 l = 0
    · have hb0 : ((sum8 l : Int) != 0) = false := by rw [hs0]; rfl
      rw [if_neg (by simpa using hs0)]
      have HC := Lib.hid hcall; have HL := Lib.hid hlen; clear hcall hm ho hs0 hlen
      go_enter Try.func73, Try.ntmps73
      go_wp2_with fail
      refine HC.out.mono ?_
      rintro e w' ⟨rfl, rfl⟩
      go_wp2_with fail
      refine (copy_any (some a) m c (l.take m) w HL.out hrt (by omega)).mono ?_
      rintro e w' ⟨v, rfl, ho, hb⟩
      go_wp2_with fail
      go_ret2
      exact ⟨v, rfl, ho, hb⟩
    · have hb0 : ((sum8 l : Int) != 0) = true := by simp; omega
      rw [if_pos hs0]
      have HC := Lib.hid hcall; clear hcall hm ho hs0 hlen
      go_enter Try.func73, Try.ntmps73
      go_wp2_with fail
      refine HC.out.mono ?_
      rintro e w' ⟨rfl, rfl⟩
      go_wp2_with fail
      go_ret2
      exact ⟨_, rfl, Own.nil, Below.refl _ _⟩
theorem number_at (A : Option Addr) (n c : Nat) (l : List UInt8) (B : Nat) (w : World) (hn : n = l.length) (h : Row B w A l) (hl : n ≤ 8) :
    Calls Try.prog 75 #[.slice A n c] w fun e w' => e = .returned (.int .u64 (num l)) ∧ w = w' := by
  subst hn
  exact number_any A c l B w h hl
end Go.Proofs.Ytafoaonkjcfbaaa.Wd
