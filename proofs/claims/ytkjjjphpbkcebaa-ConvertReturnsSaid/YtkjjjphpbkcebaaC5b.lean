/- Walks: the reference of conversions: the direction of the values. -/
import Derived.Test.YtkjjjphpbkcebaaC5a
namespace Go.Proofs.Ytkjjjphpbkcebaa.C4v
open Go.RowKit Go.Proofs.Ytkjjjphpbkcebaa.Mem Go.Proofs.Ytkjjjphpbkcebaa.M3p Go.Proofs.Ytkjjjphpbkcebaa.M3r Go.Proofs.Ytkjjjphpbkcebaa.C4p Go.Proofs.Ytkjjjphpbkcebaa.C4l
set_option maxRecDepth 100000
set_option maxHeartbeats 4000000

theorem dir_r (f m b k1 k2 : Int) (s : Bool) (A : Option Addr) (n cp : Nat) (l : List Pt) (w : World) (hsl : PSl w A n cp l) :
    Calls Try.prog 29 #[.agg #[.int .i64 f, .bool s, .int .i64 m, .int .i64 b, .int .i64 k1, .int .i64 k2, .slice A n cp]] w fun e w' => e = .returned (.tuple #[.int .i64 (dir ⟨f, s, m, b, k1, k2, l⟩).1, .int .i64 (dir ⟨f, s, m, b, k1, k2, l⟩).2]) ∧ Below w.heap.size w w' := by
  obtain ⟨R, hR⟩ : ∃ R, R = dir ⟨f, s, m, b, k1, k2, l⟩ := ⟨_, rfl⟩
  rw [← hR]
  obtain ⟨w1, hw1⟩ : ∃ w1, w1 = w.alloc (.cells #[.int .i64 f, .bool s, .int .i64 m, .int .i64 b, .int .i64 k1, .int .i64 k2, .slice A n cp] 24) := ⟨_, rfl⟩
  have hb1 : Below w.heap.size w w1 := by rw [hw1]; exact (Below.refl _ _).alloc (Nat.le_refl _) _
  have hst : w1.heap[w.heap.size]? = some (.cells #[.int .i64 f, .bool s, .int .i64 m, .int .i64 b, .int .i64 k1, .int .i64 k2, .slice A n cp] 24 (0, 0)) := by rw [hw1]; exact heap_alloc_new w _
  have hlt : w.heap.size < w1.heap.size := by rw [hw1]; simp
  have hs1 : PSl w1 A n cp l := hsl.step hb1
  have hc : ∀ i v, (#[.int .i64 f, .bool s, .int .i64 m, .int .i64 b, .int .i64 k1, .int .i64 k2, .slice A n cp] : Array Value)[i]? = some v → w1.cell? ⟨w.heap.size, i, none⟩ = some v := by
    intro i v h
    rw [cell_of_row w1 w.heap.size i _ _ _ hst]
    exact h
  have HC := Lib.hid hc
  have HV := Lib.hid (valid_r f m b k1 k2 s A n cp l w1 hs1)
  have HRV := Lib.hid hR
  have HSL := Lib.hid hsl
  clear hR hsl hc hst
  go_enter Try.func29, Try.ntmps29
  go_wp2_with fail
  rw [← hw1]
  clear hw1
  refine (HV.out).mono ?_
  rintro e w2 ⟨rfl, hb2⟩
  have hbb : Below w.heap.size w w2 := hb1.trans (hb2.mono hb1.size)
  have hs2 : PSl w2 A n cp l := hs1.step hb2
  have hnm : n ≤ maxLen := Nat.le_trans hs2.cap hs2.max
  have HLT := Lib.hid hlt
  have HCC := Lib.hid (fun i v h wr (hr : Below w1.heap.size w2 wr) => (by rw [hr.cell (p := ⟨w.heap.size, i, none⟩) (by exact hlt), hb2.cell (p := ⟨w.heap.size, i, none⟩) hlt]; exact HC.out i v h : wr.cell? ⟨w.heap.size, i, none⟩ = some v))
  have HB2 := Lib.hid hb2
  clear hb1 hb2 hs1 HC HV hlt
  rcases hv : vld ⟨f, s, m, b, k1, k2, l⟩ with _ | _
  · have hres : R = (0, 1) := by rw [HRV.out]; unfold dir; rw [hv]; rfl
    subst hres
    go_wp2_with fail
    go_ret2
    exact ⟨rfl, hbb⟩
  obtain ⟨c, hcv⟩ : ∃ c : Cv, c = ⟨f, s, m, b, k1, k2, l⟩ := ⟨_, rfl⟩
  have hcs : c.s = s := by rw [hcv]
  have hres : R = if (dfold c 256).rise = true ∧ (dfold c 256).fall = true then (0, 0) else if (dfold c 256).fall = true then (-1, 0) else (1, 0) := by
    rw [HRV.out]
    unfold dir
    rw [if_pos hv, ← hcv]
  have HRES := Lib.hid hres
  have hlb := least_b s
  have HLE := Lib.hid (fun u => least_r s u)
  have HRA := Lib.hid (fun z u h1 h2 => raw_r z u h1 h2)
  have hvc : vld c = true := by rw [hcv]; exact hv
  have HVC := Lib.hid hvc
  have HCV := Lib.hid hcv
  have HCS := Lib.hid hcs
  have HVAL := Lib.hid (fun q u (hu : PSl u A n cp l) => value_r f m b k1 k2 s A n cp l q u hu)
  obtain ⟨L, hL⟩ : ∃ L, L = least s := ⟨_, rfl⟩
  rw [← hL] at hlb HLE
  have HL := Lib.hid hL
  have HALL := Lib.hid (fun wr (hr : Below w1.heap.size w2 wr) => (⟨hr, HCC.out 0 _ rfl wr hr, HCC.out 1 _ rfl wr hr, HCC.out 2 _ rfl wr hr, HCC.out 3 _ rfl wr hr, HCC.out 4 _ rfl wr hr, HCC.out 5 _ rfl wr hr, HCC.out 6 _ rfl wr hr⟩ : (fun w' => Below w1.heap.size w2 w' ∧ w'.cell? ⟨w.heap.size, 0, none⟩ = some (.int .i64 f) ∧ w'.cell? ⟨w.heap.size, 1, none⟩ = some (.bool s) ∧ w'.cell? ⟨w.heap.size, 2, none⟩ = some (.int .i64 m) ∧ w'.cell? ⟨w.heap.size, 3, none⟩ = some (.int .i64 b) ∧ w'.cell? ⟨w.heap.size, 4, none⟩ = some (.int .i64 k1) ∧ w'.cell? ⟨w.heap.size, 5, none⟩ = some (.int .i64 k2) ∧ w'.cell? ⟨w.heap.size, 6, none⟩ = some (.slice A n cp)) wr))
  clear hres HRV hv hvc hcv hcs hL
  go_wp2_with fail
  go_loopw [4, 5, 6, 7, 8] (fun v4 v5 v6 v7 v8 wr => ∃ (i : Nat) (D : Ds), i ≤ 256 ∧ v8 = .int .i64 i ∧ v4 = .bool D.seen ∧ v5 = .int .i64 D.last ∧ v6 = .bool D.rise ∧ v7 = .bool D.fall ∧ dfold c i = D ∧ Below w1.heap.size w2 wr) (fun _ _ _ _ v8 _ => 256 - (intOf v8).toNat)
  case atStart => exact ⟨0, ⟨false, 0, false, false⟩, Nat.zero_le _, rfl, rfl, rfl, rfl, rfl, rfl, Below.refl _ _⟩
  case round =>
    obtain ⟨i, ⟨seen, last, rise, fall⟩, hi, rfl, rfl, rfl, rfl, rfl, hdf, hbr⟩ := hrel
    have HDF := Lib.hid hdf
    obtain ⟨-, c0, c1, c2, c3, c4, c5, c6⟩ := HALL.out wr hbr
    have hball : Below w.heap.size w wr := hbb.trans (hbr.mono (Nat.le_of_lt HLT.out))
    have hsr : PSl wr A n cp l := HSL.out.step hball
    clear hdf
    dsimp only
    by_cases hlt : i < 256
    · obtain ⟨X, E, ho⟩ : ∃ X E : Int, ord c i = (X, E) := ⟨_, _, rfl⟩
      obtain ⟨q, hq⟩ : ∃ q, q = rawAt c i := ⟨_, rfl⟩
      have hvl : value ⟨f, s, m, b, k1, k2, l⟩ q = (X, E) := by rw [hq, ← HCV.out, value_at HVC.out hlt, ho]
      have HVA := Lib.hid (fun u (hu : PSl u A n cp l) => by have := HVAL.out q u hu; rw [hvl] at this; exact this)
      have hqr : rawOf (L + i) = q := by rw [hq]; unfold rawAt; rw [HCS.out, ← HL.out]
      have HRR := Lib.hid (fun u => by have := HRA.out (L + i) u (by omega) (by omega); rw [hqr] at this; exact this)
      have HRW := Lib.hid (fun u => by have := HRR.out u; rw [show L + (i : Int) = IntKind.i64.wrap (L + (i : Int)) by rw [IntKind.wrap_i64]; omega] at this; exact this)
      have hnx : dfold c (i + 1) = if E ≠ 0 then ⟨seen, last, rise, fall⟩ else ⟨true, X, rise || (seen && decide (last < X)), fall || (seen && decide (X < last))⟩ := by
        rw [dfold, HDF.out, ho]
      have HNX := Lib.hid hnx
      have hbr0 : Below w1.heap.size w2 wr.drew := ⟨hbr.os, hbr.tape, hbr.output, hbr.size, hbr.block⟩
      have hsd : PSl wr.drew A n cp l := ⟨hsr.len, hsr.row, hsr.cap, hsr.max, hsr.nil⟩
      have HBR := Lib.hid hbr
      clear hnx hqr hvl hq ho
      go_wp2_with fail
      go_region_held3 (fun w' => Below w1.heap.size w2 w' ∧ w'.cell? ⟨w.heap.size, 0, none⟩ = some (.int .i64 f) ∧ w'.cell? ⟨w.heap.size, 1, none⟩ = some (.bool s) ∧ w'.cell? ⟨w.heap.size, 2, none⟩ = some (.int .i64 m) ∧ w'.cell? ⟨w.heap.size, 3, none⟩ = some (.int .i64 b) ∧ w'.cell? ⟨w.heap.size, 4, none⟩ = some (.int .i64 k1) ∧ w'.cell? ⟨w.heap.size, 5, none⟩ = some (.int .i64 k2) ∧ w'.cell? ⟨w.heap.size, 6, none⟩ = some (.slice A n cp)) (first | exact HALL.out _ hbr4 | exact HALL.out _ hbr0 | go_keep)
        (first
          | (go_at_call 37; refine (HLE.out _).mono ?_; rintro e w' ⟨rfl, rfl⟩)
          | (go_at_call 38; refine (HRW.out _).mono ?_; rintro e w' ⟨rfl, rfl⟩)
          | (go_at_call 20; refine (HVA.out _ hsd).mono ?_; rintro e w4 ⟨rfl, hb4⟩; have hbr4 : Below w1.heap.size w2 w4 := HBR.out.trans (Below.mono (B := wr.heap.size) ⟨hb4.os, hb4.tape, hb4.output, hb4.size, hb4.block⟩ (Nat.le_trans HB2.out.size HBR.out.size))))
      by_cases hE : E = 0
      case neg =>
        have hE2 : (E != 0) = true := by rw [bne_iff_ne]; exact hE
        have hf : dfold c (i + 1) = ⟨seen, last, rise, fall⟩ := by rw [HNX.out, if_pos hE]
        have HF := Lib.hid hf
        clear hf
        clear hE
        go_wp2_with fail
        exact ⟨⟨i + 1, ⟨seen, last, rise, fall⟩, by omega, by go_num, rfl, rfl, rfl, rfl, HF.out, hbr4⟩, by simp [intOf]; omega⟩
      subst hE
      have hn := HNX.out
      rw [if_neg (by simp)] at hn
      have HN2 := Lib.hid hn
      clear hn
      cases seen
      · skip
        have hf : dfold c (i + 1) = ⟨true, X, rise, fall⟩ := by rw [HN2.out]; simp
        have HF := Lib.hid hf
        clear hf
        go_wp2_with fail
        exact ⟨⟨i + 1, ⟨true, X, rise, fall⟩, by omega, by go_num, rfl, rfl, rfl, rfl, HF.out, hbr4⟩, by simp [intOf]; omega⟩
      · rcases Int.lt_trichotomy last X with g | g | g
        · have g2 : ¬ X < last := by omega
          have hf : dfold c (i + 1) = ⟨true, X, true, fall⟩ := by rw [HN2.out, decide_eq_true g, decide_eq_false g2]; simp
          have HF := Lib.hid hf
          clear hf
          go_wp2_with fail
          exact ⟨⟨i + 1, ⟨true, X, true, fall⟩, by omega, by go_num, rfl, rfl, rfl, rfl, HF.out, hbr4⟩, by simp [intOf]; omega⟩
        · subst g
          have g2 : ¬ last < last := by omega
          have hf : dfold c (i + 1) = ⟨true, last, rise, fall⟩ := by rw [HN2.out, decide_eq_false g2]; simp
          have HF := Lib.hid hf
          clear hf
          go_wp2_with fail
          exact ⟨⟨i + 1, ⟨true, last, rise, fall⟩, by omega, by go_num, rfl, rfl, rfl, rfl, HF.out, hbr4⟩, by simp [intOf]; omega⟩
        · have g2 : ¬ last < X := by omega
          have hf : dfold c (i + 1) = ⟨true, X, rise, true⟩ := by rw [HN2.out, decide_eq_true g, decide_eq_false g2]; simp
          have HF := Lib.hid hf
          clear hf
          go_wp2_with fail
          exact ⟨⟨i + 1, ⟨true, X, rise, true⟩, by omega, by go_num, rfl, rfl, rfl, rfl, HF.out, hbr4⟩, by simp [intOf]; omega⟩
    · obtain rfl : i = 256 := by omega
      have hres := HRES.out
      rw [HDF.out] at hres
      dsimp only at hres
      clear c0 c1 c2 c3 c4 c5 c6
      cases rise <;> cases fall
      all_goals
        first
          | (have hr2 : R = (0, 0) := by rw [hres]; rfl)
          | (have hr2 : R = (-1, 0) := by rw [hres]; rfl)
          | (have hr2 : R = (1, 0) := by rw [hres]; rfl)
        subst hr2
        clear hres
        go_wp2_with fail
        go_ret2
        exact ⟨rfl, hball⟩
end Go.Proofs.Ytkjjjphpbkcebaa.C4v
