/- Walks: the program's conversions: the direction of the values. -/
import Derived.Test.YtkjjjphpbkcebaaP4g
import Derived.Test.YtkjjjphpbkcebaaC5b
namespace Go.Proofs.Ytkjjjphpbkcebaa.P4
open Go.RowKit Go.Shelf Go.Proofs.Ytkjjjphpbkcebaa.Mem Go.Proofs.Ytkjjjphpbkcebaa.M3p Go.Proofs.Ytkjjjphpbkcebaa.C4p Go.Proofs.Ytkjjjphpbkcebaa.C4l Go.Proofs.Ytkjjjphpbkcebaa.C4v
set_option maxRecDepth 100000
set_option maxHeartbeats 4000000
attribute [local go_sem] Oper.semAt_some

def dstep (D : Ds) (x : UInt8 × Int) : Ds := ⟨true, clp x.2, D.rise || (D.seen && decide (D.last < clp x.2)), D.fall || (D.seen && decide (clp x.2 < D.last))⟩
def dlist (l : List (UInt8 × Int)) : Ds := l.foldl dstep ⟨false, 0, false, false⟩
theorem dlist_snoc (pre : List (UInt8 × Int)) (x : UInt8 × Int) : dlist (pre ++ [x]) = dstep (dlist pre) x := by
  unfold dlist
  rw [List.foldl_append]
  rfl
theorem dlist_is {c : Cv} (hc : vld c = true) (n : Nat) : dlist (vseq c n) = dfold c n := by
  induction n with
  | zero => rfl
  | succ n ih =>
    have hx : clp (ord c n).1 = (ord c n).1 := by
      have := valv_in hc (least c.s + n)
      exact clp_in this.1 this.2
    rw [vseq, dfold]
    by_cases h : (ord c n).2 = 0
    · rw [if_pos h, if_neg (by rw [h]; simp), dlist_snoc, ih]
      unfold dstep
      dsimp only
      rw [hx]
    · rw [if_neg h, if_pos h]
      exact ih
theorem four {u : World} {n₀ p : Nat} {x y z t x' y' z' t' : Value} (h0 : Bx u p x) (h1 : Bx u (p + 1) y) (h2 : Bx u (p + 1 + 1) z) (h3 : Bx u (p + 1 + 1 + 1) t) (hn : n₀ ≤ p) :
    KeepsOthers u ((((u.setCell ⟨p + 1 + 1, 0, none⟩ z').setCell ⟨p + 1 + 1 + 1, 0, none⟩ t').setCell ⟨p, 0, none⟩ x').setCell ⟨p + 1, 0, none⟩ y') ∧ Kp n₀ (p + 4) u ((((u.setCell ⟨p + 1 + 1, 0, none⟩ z').setCell ⟨p + 1 + 1 + 1, 0, none⟩ t').setCell ⟨p, 0, none⟩ x').setCell ⟨p + 1, 0, none⟩ y') ∧ Bx ((((u.setCell ⟨p + 1 + 1, 0, none⟩ z').setCell ⟨p + 1 + 1 + 1, 0, none⟩ t').setCell ⟨p, 0, none⟩ x').setCell ⟨p + 1, 0, none⟩ y') p x' ∧ Bx ((((u.setCell ⟨p + 1 + 1, 0, none⟩ z').setCell ⟨p + 1 + 1 + 1, 0, none⟩ t').setCell ⟨p, 0, none⟩ x').setCell ⟨p + 1, 0, none⟩ y') (p + 1) y' ∧ Bx ((((u.setCell ⟨p + 1 + 1, 0, none⟩ z').setCell ⟨p + 1 + 1 + 1, 0, none⟩ t').setCell ⟨p, 0, none⟩ x').setCell ⟨p + 1, 0, none⟩ y') (p + 1 + 1) z' ∧ Bx ((((u.setCell ⟨p + 1 + 1, 0, none⟩ z').setCell ⟨p + 1 + 1 + 1, 0, none⟩ t').setCell ⟨p, 0, none⟩ x').setCell ⟨p + 1, 0, none⟩ y') (p + 1 + 1 + 1) t' := by
  refine ⟨(((KeepsOthers.setCell _ _ _).trans (KeepsOthers.setCell _ _ _)).trans (KeepsOthers.setCell _ _ _)).trans (KeepsOthers.setCell _ _ _), ⟨?_, ?_⟩, ?_, ?_, ?_, ?_⟩
  · exact ((((Below.refl n₀ u).setCell (p := ⟨p + 1 + 1, 0, none⟩) (by show n₀ ≤ p + 1 + 1; omega) z').setCell (p := ⟨p + 1 + 1 + 1, 0, none⟩) (by show n₀ ≤ p + 1 + 1 + 1; omega) t').setCell (p := ⟨p, 0, none⟩) hn x').setCell (p := ⟨p + 1, 0, none⟩) (by show n₀ ≤ p + 1; omega) y'
  · rw [heap_other _ (by omega), heap_other _ (by omega), heap_other _ (by omega), heap_other _ (by omega)]
  · exact (((h0.other z' (by omega)).other t' (by omega)).set x').other y' (by omega)
  · exact (((h1.other z' (by omega)).other t' (by omega)).other x' (by omega)).set y'
  · exact (((h2.set z').other t' (by omega)).other x' (by omega)).other y' (by omega)
  · exact (((h3.other z' (by omega)).set t').other x' (by omega)).other y' (by omega)
theorem dir_p (f m b k1 k2 : Int) (s : Bool) (A : Option Addr) (n cp : Nat) (l : List Pt) (w : World) (hsl : PSl w A n cp l) :
    Calls Try.prog 28 #[.agg #[.int .i64 f, .bool s, .int .i64 m, .int .i64 b, .int .i64 k1, .int .i64 k2, .slice A n cp]] w fun e w' => e = .returned (.tuple #[.int .i64 (dir ⟨f, s, m, b, k1, k2, l⟩).1, .int .i64 (dir ⟨f, s, m, b, k1, k2, l⟩).2]) ∧ Below w.heap.size w w' := by
  obtain ⟨R, hR⟩ : ∃ R, R = dir ⟨f, s, m, b, k1, k2, l⟩ := ⟨_, rfl⟩
  rw [← hR]
  obtain ⟨w1, hw1⟩ : ∃ w1, w1 = w.alloc (.cells #[.int .i64 f, .bool s, .int .i64 m, .int .i64 b, .int .i64 k1, .int .i64 k2, .slice A n cp] 24) := ⟨_, rfl⟩
  have hb1 : Below w.heap.size w w1 := by rw [hw1]; exact (Below.refl _ _).alloc (Nat.le_refl _) _
  have HV := Lib.hid (valid_p f m b k1 k2 s A n cp l w1 (hsl.step hb1))
  have HRV := Lib.hid hR
  have HSL := Lib.hid hsl
  clear hR hsl
  refine (callsIn_wide (n := 6)).1 ?_
  refine callsIn_of_wp_marks Try.func28 rfl trivial ?_ rfl
  simp only [Try.ntmps28, List.size_toArray, List.length_cons, List.length_nil, Nat.reduceAdd, Nat.reduceSub, Array.replicate_succ, Array.replicate_zero, List.push_toArray, List.append_toArray, List.nil_append, List.cons_append]
  gi_wp2
  rw [← hw1]
  have hst0 : w1.heap[w.heap.size]? = some (.cells #[.int .i64 f, .bool s, .int .i64 m, .int .i64 b, .int .i64 k1, .int .i64 k2, .slice A n cp] 24 (0, 0)) := by
    rw [hw1]
    exact heap_alloc_new w _
  have hsz1 : w1.heap.size = w.heap.size + 1 := by rw [hw1]; simp
  clear hw1
  refine ⟨trivial, (callsIn_wide.2 (HV.out)).mono ?_⟩
  rintro e w2 ⟨rfl, hb2⟩
  have hbb : Below w.heap.size w w2 := hb1.trans (hb2.mono hb1.size)
  have hr0 := (hb2.block w.heap.size (by omega)).trans hst0
  have hz2 := hb2.size
  clear hst0 HV
  rcases hv : vld ⟨f, s, m, b, k1, k2, l⟩ with _ | _
  · have hres : R = (0, 1) := by rw [HRV.out]; unfold dir; rw [hv]; rfl
    subst hres
    gi_wp2
    exact ⟨_, results_tmp2 rfl _ _ _, rfl, hbb⟩
  · obtain ⟨c, hcv⟩ : ∃ c : Cv, c = ⟨f, s, m, b, k1, k2, l⟩ := ⟨_, rfl⟩
    obtain ⟨w4, hw4⟩ : ∃ w4, w4 = (((w2.alloc (.cells #[.int .i64 0] 2)).alloc (.cells #[.bool false] 4)).alloc (.cells #[.bool false] 4)).alloc (.cells #[.bool false] 4) := ⟨_, rfl⟩
    have hb4 : Below w2.heap.size w2 w4 := by
      rw [hw4]
      exact ((((Below.refl w2.heap.size w2).alloc (Nat.le_refl _) _).alloc (by rw [World.size_alloc]; omega) _).alloc (by rw [World.size_alloc, World.size_alloc]; omega) _).alloc (by rw [World.size_alloc, World.size_alloc, World.size_alloc]; omega) _
    have hz4 : w4.heap.size = w2.heap.size + 4 := by rw [hw4, World.size_alloc, World.size_alloc, World.size_alloc, World.size_alloc]
    have hr4 := (hb4.block w.heap.size (by omega)).trans hr0
    have c0 : w4.cell? ⟨w.heap.size, 0, none⟩ = some (.int .i64 f) := by rw [cell_of_row w4 _ 0 _ _ _ hr4]; rfl
    have c1 : w4.cell? ⟨w.heap.size, 1, none⟩ = some (.bool s) := by rw [cell_of_row w4 _ 1 _ _ _ hr4]; rfl
    have c2 : w4.cell? ⟨w.heap.size, 2, none⟩ = some (.int .i64 m) := by rw [cell_of_row w4 _ 2 _ _ _ hr4]; rfl
    have c3 : w4.cell? ⟨w.heap.size, 3, none⟩ = some (.int .i64 b) := by rw [cell_of_row w4 _ 3 _ _ _ hr4]; rfl
    have c4 : w4.cell? ⟨w.heap.size, 4, none⟩ = some (.int .i64 k1) := by rw [cell_of_row w4 _ 4 _ _ _ hr4]; rfl
    have c5 : w4.cell? ⟨w.heap.size, 5, none⟩ = some (.int .i64 k2) := by rw [cell_of_row w4 _ 5 _ _ _ hr4]; rfl
    have c6 : w4.cell? ⟨w.heap.size, 6, none⟩ = some (.slice A n cp) := by rw [cell_of_row w4 _ 6 _ _ _ hr4]; rfl
    have HW4 := Lib.hid hw4
    rw [hw4] at c0 c1 c2 c3 c4 c5 c6
    clear hw4
    gi_wp2
    rw [← HW4.out]
    clear c0 c1 c2 c3 c4 c5 c6
    refine ⟨trivial, (callsIn_wide.2 (values_p f m b k1 k2 s A n cp w4)).mono ?_⟩
    rintro e w5 ⟨rfl, hw5⟩
    have hz5 : w5.heap.size = w2.heap.size + 5 := by rw [hw5, World.size_alloc]; omega
    have hbw : Below w.heap.size w w5 := hbb.trans ((hb4.trans (by rw [hw5]; exact (Below.refl _ _).alloc (by omega) _)).mono (by omega))
    have hbc : w5.heap[w2.heap.size + 4]? = some (.cells (cvs f m b k1 k2 s A n cp) 24 (0, 0)) := by
      rw [hw5, ← hz4]
      exact heap_alloc_new w4 _
    have hB0 : Bx w5 w2.heap.size (.int .i64 0) := by
      rw [hw5, HW4.out]
      exact ((((Bx.new w2 _ _).alloc _).alloc _).alloc _).alloc _
    have hB1 : Bx w5 (w2.heap.size + 1) (.bool false) := by
      rw [hw5, HW4.out]
      refine (((Bx.alloc ?_ _).alloc _).alloc _)
      have := Bx.new (w2.alloc (.cells #[.int .i64 0] 2)) (.bool false) 4
      rw [World.size_alloc] at this
      exact this
    have hB2 : Bx w5 (w2.heap.size + 1 + 1) (.bool false) := by
      rw [hw5, HW4.out]
      refine ((Bx.alloc ?_ _).alloc _)
      have := Bx.new ((w2.alloc (.cells #[.int .i64 0] 2)).alloc (.cells #[.bool false] 4)) (.bool false) 4
      rw [World.size_alloc, World.size_alloc] at this
      exact this
    have hB3 : Bx w5 (w2.heap.size + 1 + 1 + 1) (.bool false) := by
      rw [hw5, HW4.out]
      refine (Bx.alloc ?_ _)
      have := Bx.new (((w2.alloc (.cells #[.int .i64 0] 2)).alloc (.cells #[.bool false] 4)).alloc (.cells #[.bool false] 4)) (.bool false) 4
      rw [World.size_alloc, World.size_alloc, World.size_alloc] at this
      exact this
    have HZ5 := Lib.hid hz5
    have HLE := Lib.hid (show w.heap.size ≤ w2.heap.size by omega)
    have HBW := Lib.hid hbw
    have HBC := Lib.hid hbc
    have HB0 := Lib.hid hB0
    have HB1 := Lib.hid hB1
    have HB2 := Lib.hid hB2
    have HB3 := Lib.hid hB3
    clear hw5 hz5 hbw hbc hB0 hB1 hB2 hB3 hb4 hr4
    gi_wp2
    refine wpIn_rangeFunc_ownF rfl (by omega) (gf := 66) (lb := #[.pointer (some ⟨w2.heap.size + 4, 0, none⟩)]) rfl trivial (enters_of Try.func66 (by kernel_rfl) rfl)
      (values_stops f m b k1 k2 s A n cp l w HSL.out hv (6 - 1) (w2.heap.size + 4) (by omega) w5 HBW.out HBC.out) (fun h k => Kp.trans h k)
      (fun W l o o' hl h hc hw => ⟨belowK_b (w := w5) HBW.out.size W l o o' hl h hc hw, World.putObj_heap_other (by have := HZ5.out; omega)⟩) (Below.refl _ _) (fun _ => rfl)
      (fun pre u => (Bx u w2.heap.size (.int .i64 (dlist pre).last) ∧ Bx u (w2.heap.size + 1) (.bool (dlist pre).seen) ∧ Bx u (w2.heap.size + 1 + 1) (.bool (dlist pre).rise) ∧ Bx u (w2.heap.size + 1 + 1 + 1) (.bool (dlist pre).fall)) ∧ Below w.heap.size w u)
      (fun _ _ _ => False)
      (OwnFrom.and (Own.from (fun s A B row hs hg hr => ⟨hs.1.kept hg hr, hs.2.1.kept hg hr, hs.2.2.1.kept hg hr, hs.2.2.2.kept hg hr⟩) _) (ownFrom_below (Nat.le_refl _) (by have := HZ5.out; omega)))
      (fun _ _ _ _ _ hs _ _ => hs)
      ⟨⟨HB0.out, HB1.out, HB2.out, HB3.out⟩, HBW.out⟩
      (fun x => { tmps := #[.agg #[.int .i64 f, .bool s, .int .i64 m, .int .i64 b, .int .i64 k1, .int .i64 k2, .slice A n cp], .pointer (some ⟨w.heap.size, 0, none⟩), .int .i64 0, .int .i64 0, .pointer (some ⟨w2.heap.size, 0, none⟩), .pointer (some ⟨w2.heap.size + 1, 0, none⟩), .pointer (some ⟨w2.heap.size + 1 + 1, 0, none⟩), .pointer (some ⟨w2.heap.size + 1 + 1 + 1, 0, none⟩), undef, .int .i64 (clp x.2), .agg #[.int .i64 f, .bool s, .int .i64 m, .int .i64 b, .int .i64 k1, .int .i64 k2, .slice A n cp], .bool true, .bool false, .agg #[.int .i64 f, .bool s, .int .i64 m, .int .i64 b, .int .i64 k1, .int .i64 k2, .slice A n cp], .func (.func 66) #[] #[.pointer (some ⟨w2.heap.size + 4, 0, none⟩)], .int .u8 (x.1.toNat : Int), .int .i64 (clp x.2), undef, undef, undef, undef, undef, undef, undef, undef, undef, undef, undef, undef, undef, undef, undef, undef, undef, undef, undef, undef, undef, undef, undef, undef, undef], defers := [] }) ?assign ?body ?done ?stop
    case assign =>
      intro l x W K hK
      gi_wp2
      exact hK
    case body =>
      rintro lp pre x u ⟨⟨hL, hS, hR, hF⟩, hbu⟩ _
      have hsn := dlist_snoc pre x
      obtain ⟨⟨seen, last, rise, fall⟩, hst⟩ : ∃ st, dlist pre = st := ⟨_, rfl⟩
      rw [hst] at hsn hL hS hR hF
      unfold dstep at hsn
      dsimp only at hsn hL hS hR hF
      obtain ⟨y, hy⟩ : ∃ y, clp x.2 = y := ⟨_, rfl⟩
      obtain ⟨r, hr⟩ : ∃ r, x.1 = r := ⟨_, rfl⟩
      rw [hy] at hsn
      dsimp only
      rw [hy, hr]
      have H4 := Lib.hid (fun x' y' z' t' => four (x' := x') (y' := y') (z' := z') (t' := t') (n₀ := w.heap.size) hL hS hR hF HLE.out)
      obtain ⟨a1, a2⟩ := hL
      obtain ⟨a3, a4⟩ := hS
      obtain ⟨a5, a6⟩ := hR
      obtain ⟨a7, a8⟩ := hF
      have HSNI := Lib.hid hsn
      clear hsn hst hy hr
      cases seen
      · have HSN := Lib.hid (show dlist (pre ++ [x]) = ⟨true, y, rise, fall⟩ by rw [HSNI.out]; simp)
        cases rise <;> cases fall
        all_goals
          gi_wp2
          obtain ⟨t1, t2, t3, t4, t5, t6⟩ := H4.out (.int .i64 y) (.bool true) _ _
          exact ⟨t1, t2, ⟨by rw [HSN.out]; exact t3, by rw [HSN.out]; exact t4, by rw [HSN.out]; exact t5, by rw [HSN.out]; exact t6⟩, hbu.trans t2.1⟩
      · rcases Int.lt_trichotomy last y with g | g | g
        · have g2 : ¬ y < last := by omega
          have HSN := Lib.hid (show dlist (pre ++ [x]) = ⟨true, y, true, fall⟩ by rw [HSNI.out, decide_eq_true g, decide_eq_false g2]; simp)
          cases rise <;> cases fall
          all_goals
            gi_wp2
            obtain ⟨t1, t2, t3, t4, t5, t6⟩ := H4.out (.int .i64 y) (.bool true) _ _
            exact ⟨t1, t2, ⟨by rw [HSN.out]; exact t3, by rw [HSN.out]; exact t4, by rw [HSN.out]; exact t5, by rw [HSN.out]; exact t6⟩, hbu.trans t2.1⟩
        · have g2 : ¬ y < last := by omega
          have g3 : ¬ last < y := by omega
          have HSN := Lib.hid (show dlist (pre ++ [x]) = ⟨true, y, rise, fall⟩ by rw [HSNI.out, decide_eq_false g3, decide_eq_false g2]; simp)
          clear g
          cases rise <;> cases fall
          all_goals
            gi_wp2
            obtain ⟨t1, t2, t3, t4, t5, t6⟩ := H4.out (.int .i64 y) (.bool true) _ _
            exact ⟨t1, t2, ⟨by rw [HSN.out]; exact t3, by rw [HSN.out]; exact t4, by rw [HSN.out]; exact t5, by rw [HSN.out]; exact t6⟩, hbu.trans t2.1⟩
        · have g3 : ¬ last < y := by omega
          have HSN := Lib.hid (show dlist (pre ++ [x]) = ⟨true, y, rise, true⟩ by rw [HSNI.out, decide_eq_false g3, decide_eq_true g]; simp)
          cases rise <;> cases fall
          all_goals
            gi_wp2
            obtain ⟨t1, t2, t3, t4, t5, t6⟩ := H4.out (.int .i64 y) (.bool true) _ _
            exact ⟨t1, t2, ⟨by rw [HSN.out]; exact t3, by rw [HSN.out]; exact t4, by rw [HSN.out]; exact t5, by rw [HSN.out]; exact t6⟩, hbu.trans t2.1⟩
    case done =>
      rintro D xs u hD rfl ⟨⟨hL, hS, hR, hF⟩, hbu⟩ hK
      rw [← hcv, dlist_is (by rw [hcv]; exact hv)] at hR hF
      have hres : R = if (dfold c 256).rise = true ∧ (dfold c 256).fall = true then (0, 0) else if (dfold c 256).fall = true then (-1, 0) else (1, 0) := by
        rw [HRV.out]
        unfold dir
        rw [if_pos hv, ← hcv]
      obtain ⟨a5, a6⟩ := hR
      obtain ⟨a7, a8⟩ := hF
      have HBE := Lib.hid (hbu.trans (belowK_b (w := w) (Nat.le_refl _) u D _ (.deferred none) (by have := HZ5.out; omega) hK rfl rfl))
      generalize (dfold c 256).rise = rise at *
      generalize (dfold c 256).fall = fall at *
      clear hL hS
      cases rise <;> cases fall <;> simp at hres <;> subst hres
      all_goals
        gi_wp2
        refine ⟨by simp, .inl ⟨_, _, rfl, run_takeDeferred hK, ?_⟩⟩
        exact ⟨_, results_tmp2 rfl _ _ _, rfl, HBE.out⟩
    case stop =>
      rintro D c pre W _ _ h _
      exact h.elim
end Go.Proofs.Ytkjjjphpbkcebaa.P4
