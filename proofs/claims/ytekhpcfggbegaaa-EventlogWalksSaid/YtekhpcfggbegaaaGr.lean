/- Walks: the sanity check of layer 9. -/
import Derived.Test.YtekhpcfggbegaaaGq
namespace Go.Proofs.Ytekhpcfggbegaaa.G9
open Go.RowKit Go.Proofs.Ytekhpcfggbegaaa.Mem Go.Proofs.Ytekhpcfggbegaaa.E5p Go.Proofs.Ytekhpcfggbegaaa.E5m Go.Proofs.Ytekhpcfggbegaaa.E5a Go.Proofs.Ytekhpcfggbegaaa.E5d Go.Proofs.Ytekhpcfggbegaaa.V7 Go.Proofs.Ytekhpcfggbegaaa.V9
set_option maxRecDepth 100000
set_option maxHeartbeats 4000000

def e0 : Ev := ⟨0, 0, 0, 0, 0, 111, false, 0, 0, 0⟩
def itA : Nat → Lg
  | 0 => fresh 0 4 true 3
  | i + 1 => (madd 3 (itA i) e0).1
theorem itA_ok : ∀ i, i < 10 → (madd 3 (itA i) e0).2 = (i + 1, 0) ∧ (itA i).newest < 100 := by decide
theorem itA_end : (itA 10).recs.length = 7 ∧ (itA 10).full = false := by decide
theorem e0_fit : e0.Fit := ⟨by decide, by decide, by decide, by decide, by decide, by decide, by decide, by decide, by decide⟩
section
variable {B : Nat} {W w w' : World} {d : Sh} {s s' : Fl} {m m' g n n' : Nat} {rv rv' : Value} {L L' : Lg}
theorem len_p (h : LA B W w d s m g rv L n) : Calls Try.prog 47 #[.pointer (some ⟨g, 0, none⟩)] w fun e w' => e = .returned (.int .i64 (L.recs.length : Int)) ∧ w' = w := by
  have hlg := h.lg
  have c8 := h.c8
  obtain ⟨A, n8, c, rfl, hs⟩ := h.own.sl
  have hl := hs.len
  clear h hs
  subst hl
  go_enter Try.func47, Try.ntmps47
  go_wp2_with fail
  go_ret
  exact ⟨rfl, rfl⟩
theorem full_p (h : LA B W w d s m g rv L n) : Calls Try.prog 46 #[.pointer (some ⟨g, 0, none⟩)] w fun e w' => e = .returned (.bool L.full) ∧ w' = w := by
  have hlg := h.lg
  have c9 := h.c9
  clear h
  go_enter Try.func46, Try.ntmps46
  go_wp2_with fail
  go_ret
  exact ⟨rfl, rfl⟩
end
theorem meas10 {k : Nat} (h : k < 10) : 10 - (intOf (.int .i64 ((k : Int) + 1))).toNat < 10 - (intOf (.int .i64 (k : Int))).toNat := by simp [intOf]; omega
theorem awake_any (w : World) : Calls Try.prog 40 #[] w fun e w' => e = .returned (.bool true) ∧ Below w.heap.size w w' := by
  have HC := Lib.hid (fun u => (show Calls Try.prog 43 #[.int .i64 4, .int .i64 64] u fun e w' => e = .returned (.tuple #[.int .i64 9, .int .i64 3, .int .i64 0]) ∧ w' = u from capacity_p 4 64 (by omega) (by omega) (by omega) (by omega) u))
  go_enter Try.func40, Try.ntmps40
  go_wp2_with fail
  refine (HC.out _).mono ?_
  rintro e w0 ⟨rfl, h0⟩
  rw [h0]
  clear h0 w0
  go_wp2_with fail
  refine (At.new 4 64 (by omega) (by omega) (by omega) (by omega) w.heap.size w w (Below.refl _ _) (Nat.le_refl _)).mono ?_
  rintro e w1 ⟨d, rfl, h1, -, -⟩
  have HO := openl_p h1 rfl (fun x hx => List.eq_of_mem_replicate hx) 0 4 (by omega) (by show 0 + 4 ≤ (Fl.new 4 64).wear.length; decide) true
  have HO := Lib.hid (show Calls Try.prog 79 #[.pointer (some ⟨d.g, 0, none⟩), .int .i64 0, .int .i64 4, .bool true] w1 _ from HO)
  clear h1
  go_wp2_with fail
  refine HO.out.mono ?_
  rintro e w2 ⟨g, rfl, h2, -, -⟩
  have H2 : Hid (LA w.heap.size w w2 d (Fl.new 4 64) 0 g (.slice none 0 0) (itA 0) 0) := Lib.hid h2
  clear h2 HO HC
  go_wp2_with fail
  go_loopw [7, 8, 9] (fun hh id i wr => ∃ (k : Nat) (s : Fl) (rv : Value), k ≤ 10 ∧ i = .int .i64 (k : Int) ∧ hh = .int .i64 0 ∧ id = .int .u16 (k : Int) ∧ Calm s ∧ slots s = 3 ∧ LA w.heap.size w wr d s (40 * k) g rv (itA k) k) (fun _ _ i _ => 10 - (intOf i).toNat)
  case atStart => exact ⟨0, Fl.new 4 64, .slice none 0 0, Nat.zero_le _, rfl, rfl, rfl, ⟨rfl, rfl⟩, rfl, H2.out⟩
  case round =>
    obtain ⟨k, s, rv, hk, rfl, rfl, rfl, hcalm, hsl, hla⟩ := hrel
    rcases Nat.lt_or_ge k 10 with hlt | hge
    · have n1 : (k : Int) < 10 := by omega
      obtain ⟨hi1, hi2⟩ := itA_ok k hlt
      have hadd := add_p hla (by omega) (by omega) e0 e0_fit
      obtain ⟨a1, a2, a3⟩ := add_calm hcalm hla.ok hla.dev.ok (by omega) e0 (by decide) rfl
      rw [hsl, hi1] at a1
      have HADD := Lib.hid (show Calls Try.prog 80 #[.pointer (some ⟨g, 0, none⟩), .agg #[.int .u16 0, .int .u32 0, .int .u16 0, .int .u8 0, .int .u8 0, .int .u8 111, .bool false, .int .u8 0, .int .u8 0, .int .u8 0]] wr _ from hadd)
      have A1 := Lib.hid a1
      have A2 := Lib.hid a2
      have A3 := Lib.hid a3
      have HSL := Lib.hid hsl
      clear hi1 hi2 hadd a1 a2 a3 hla hcalm hsl
      go_wp2_with fail
      refine HADD.out.mono ?_
      rintro e w3 ⟨rv3, rfl, h3, -⟩
      rw [A1.out] at h3 ⊢
      have H3 : Hid (LA w.heap.size w w3 d (Lg.add s (itA k) e0).1 (40 * (k + 1)) g rv3 (itA (k + 1)) (k + 1)) := Lib.hid h3
      clear h3 HADD A1
      go_wp2_with fail
      exact ⟨⟨k + 1, _, rv3, hlt, by go_num, rfl, by go_num, A2.out, by rw [A3.out.slots]; exact HSL.out, H3.out⟩, meas10 hlt⟩
    · obtain rfl : k = 10 := by omega
      have HLEN := Lib.hid (len_p hla)
      rw [itA_end.1] at HLEN
      have HFUL := Lib.hid (full_p hla)
      rw [itA_end.2] at HFUL
      have HB := Lib.hid hla.dev.low
      clear hla hcalm hsl hge hk
      go_wp2_with fail
      refine HLEN.out.mono ?_
      rintro e w4 ⟨rfl, rfl⟩
      go_wp2_with fail
      refine HFUL.out.mono ?_
      rintro e w5 ⟨rfl, rfl⟩
      go_wp2_with fail
      go_ret
      exact ⟨rfl, HB.out⟩
end Go.Proofs.Ytekhpcfggbegaaa.G9
