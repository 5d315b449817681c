/- Walks: the program's conversions: the nearest raw reading. -/
import Derived.Test.YtkjjjphpbkcebaaP4f
namespace Go.Proofs.Ytkjjjphpbkcebaa.P4
open Go.RowKit Go.Shelf Go.Proofs.Ytkjjjphpbkcebaa.Mem Go.Proofs.Ytkjjjphpbkcebaa.M3p Go.Proofs.Ytkjjjphpbkcebaa.C4p Go.Proofs.Ytkjjjphpbkcebaa.C4l Go.Proofs.Ytkjjjphpbkcebaa.C4v
set_option maxRecDepth 100000
set_option maxHeartbeats 4000000
attribute [local go_sem] Oper.semAt_some

/-- What the search has after some readings: the nearest one, its distance, whether there is one. -/
def lstep (w : Int) (s : UInt8 × Int × Bool) (x : UInt8 × Int) : UInt8 × Int × Bool := if s.2.2 = false ∨ dist w (clp x.2) < s.2.1 then (x.1, dist w (clp x.2), true) else s
def lfold (w : Int) (l : List (UInt8 × Int)) : UInt8 × Int × Bool := l.foldl (lstep w) (0, 0, false)
theorem lfold_snoc (w : Int) (pre : List (UInt8 × Int)) (x : UInt8 × Int) : lfold w (pre ++ [x]) = if (lfold w pre).2.2 = false ∨ dist w (clp x.2) < (lfold w pre).2.1 then (x.1, dist w (clp x.2), true) else lfold w pre := by
  unfold lfold
  rw [List.foldl_append]
  rfl
theorem lfold_is {c : Cv} (hc : vld c = true) (w : Int) (n : Nat) : (lfold w (vseq c n) = (0, 0, false) ∧ nfold c w n = (-1, 0)) ∨ (∃ q d, 0 ≤ d ∧ lfold w (vseq c n) = (q, d, true) ∧ nfold c w n = (d, q)) := by
  induction n with
  | zero => exact .inl ⟨rfl, rfl⟩
  | succ n ih =>
    have hx : clp (ord c n).1 = (ord c n).1 := by
      have := valv_in hc (least c.s + n)
      exact clp_in this.1 this.2
    rw [vseq, nfold]
    by_cases h : (ord c n).2 = 0
    · rw [if_pos h, if_neg (by rw [h]; simp), lfold_snoc]
      dsimp only
      rw [hx]
      rcases ih with ⟨h1, h2⟩ | ⟨q, d, hd, h1, h2⟩
      · rw [h1, h2, if_pos (.inl rfl), if_pos (.inl (by show (-1 : Int) < 0; decide))]
        exact .inr ⟨_, _, dist_nn _ _, rfl, rfl⟩
      · rw [h1, h2]
        by_cases hlt : dist w (ord c n).1 < d
        · rw [if_pos (.inr hlt), if_pos (.inr hlt)]
          exact .inr ⟨_, _, dist_nn _ _, rfl, rfl⟩
        · rw [if_neg (by rintro (e | e); cases e; exact hlt e), if_neg (by rintro (e | e); exact absurd e (by show ¬ d < 0; omega); exact hlt e)]
          exact .inr ⟨q, d, hd, rfl, rfl⟩
    · rw [if_neg h, if_pos h]
      exact ih
theorem three {u : World} {n₀ p g : Nat} {x y z v x' y' z' : Value} (h0 : Bx u p x) (h1 : Bx u (p + 1) y) (h2 : Bx u (p + 1 + 1) z) (h3 : Bx u g v) (hg : g < p) (hn : n₀ ≤ p) :
    KeepsOthers u (((u.setCell ⟨p, 0, none⟩ x').setCell ⟨p + 1, 0, none⟩ y').setCell ⟨p + 1 + 1, 0, none⟩ z') ∧ Kp n₀ (p + 3) u (((u.setCell ⟨p, 0, none⟩ x').setCell ⟨p + 1, 0, none⟩ y').setCell ⟨p + 1 + 1, 0, none⟩ z') ∧
    Bx (((u.setCell ⟨p, 0, none⟩ x').setCell ⟨p + 1, 0, none⟩ y').setCell ⟨p + 1 + 1, 0, none⟩ z') p x' ∧ Bx (((u.setCell ⟨p, 0, none⟩ x').setCell ⟨p + 1, 0, none⟩ y').setCell ⟨p + 1 + 1, 0, none⟩ z') (p + 1) y' ∧
    Bx (((u.setCell ⟨p, 0, none⟩ x').setCell ⟨p + 1, 0, none⟩ y').setCell ⟨p + 1 + 1, 0, none⟩ z') (p + 1 + 1) z' ∧ Bx (((u.setCell ⟨p, 0, none⟩ x').setCell ⟨p + 1, 0, none⟩ y').setCell ⟨p + 1 + 1, 0, none⟩ z') g v := by
  refine ⟨((KeepsOthers.setCell _ _ _).trans (KeepsOthers.setCell _ _ _)).trans (KeepsOthers.setCell _ _ _), ⟨?_, ?_⟩, ?_, ?_, ?_, ?_⟩
  · exact (((Below.refl n₀ u).setCell (p := ⟨p, 0, none⟩) hn x').setCell (p := ⟨p + 1, 0, none⟩) (by show n₀ ≤ p + 1; omega) y').setCell (p := ⟨p + 1 + 1, 0, none⟩) (by show n₀ ≤ p + 1 + 1; omega) z'
  · rw [heap_other _ (by omega), heap_other _ (by omega), heap_other _ (by omega)]
  · exact ((h0.set x').other y' (by omega)).other z' (by omega)
  · exact ((h1.other x' (by omega)).set y').other z' (by omega)
  · exact ((h2.other x' (by omega)).other y' (by omega)).set z'
  · exact ((h3.other x' (by omega)).other y' (by omega)).other z' (by omega)
theorem near_p (f m b k1 k2 : Int) (s : Bool) (A : Option Addr) (n cp : Nat) (l : List Pt) (v : Int) (w : World) (hsl : PSl w A n cp l) :
    Calls Try.prog 26 #[.agg #[.int .i64 f, .bool s, .int .i64 m, .int .i64 b, .int .i64 k1, .int .i64 k2, .slice A n cp], .int .i64 v] w fun e w' => e = .returned (.tuple #[.int .u8 ((near ⟨f, s, m, b, k1, k2, l⟩ v).1.toNat : Int), .int .i64 (near ⟨f, s, m, b, k1, k2, l⟩ v).2]) ∧ Below w.heap.size w w' := by
  obtain ⟨R, hR⟩ : ∃ R, R = near ⟨f, s, m, b, k1, k2, l⟩ v := ⟨_, rfl⟩
  rw [← hR]
  obtain ⟨w1, hw1⟩ : ∃ w1, w1 = (w.alloc (.cells #[.int .i64 f, .bool s, .int .i64 m, .int .i64 b, .int .i64 k1, .int .i64 k2, .slice A n cp] 24)).alloc (.cells #[.int .i64 v] 2) := ⟨_, rfl⟩
  have hb1 : Below w.heap.size w w1 := by rw [hw1]; exact ((Below.refl _ _).alloc (Nat.le_refl _) _).alloc (by simp) _
  have HV := Lib.hid (valid_p f m b k1 k2 s A n cp l w1 (hsl.step hb1))
  have HRV := Lib.hid hR
  have HSL := Lib.hid hsl
  clear hR hsl
  refine (callsIn_wide (n := 6)).1 ?_
  refine callsIn_of_wp_marks Try.func26 rfl trivial ?_ rfl
  simp only [Try.ntmps26, List.size_toArray, List.length_cons, List.length_nil, Nat.reduceAdd, Nat.reduceSub, Array.replicate_succ, Array.replicate_zero, List.push_toArray, List.append_toArray, List.nil_append, List.cons_append]
  gi_wp2
  rw [← hw1]
  have hst0 : w1.heap[w.heap.size]? = some (.cells #[.int .i64 f, .bool s, .int .i64 m, .int .i64 b, .int .i64 k1, .int .i64 k2, .slice A n cp] 24 (0, 0)) := by
    rw [hw1, Below.heap_alloc _ _ _ (by simp)]
    exact heap_alloc_new w _
  have hst1 : w1.heap[w.heap.size + 1]? = some (.cells #[.int .i64 v] 2 (0, 0)) := by
    rw [hw1]
    have := heap_alloc_new (w.alloc (.cells #[.int .i64 f, .bool s, .int .i64 m, .int .i64 b, .int .i64 k1, .int .i64 k2, .slice A n cp] 24)) (.cells #[.int .i64 v] 2)
    simpa using this
  have hsz1 : w1.heap.size = w.heap.size + 2 := by rw [hw1]; simp
  clear hw1
  refine ⟨trivial, (callsIn_wide.2 (HV.out)).mono ?_⟩
  rintro e w2 ⟨rfl, hb2⟩
  have hbb : Below w.heap.size w w2 := hb1.trans (hb2.mono hb1.size)
  have hs2 : PSl w2 A n cp l := HSL.out.step hbb
  have hr0 := (hb2.block w.heap.size (by omega)).trans hst0
  have hr1 := (hb2.block (w.heap.size + 1) (by omega)).trans hst1
  have hz2 := hb2.size
  clear hst0 hst1 HV
  rcases hv : vld ⟨f, s, m, b, k1, k2, l⟩ with _ | _
  · have hres : R = (0, 1) := by rw [HRV.out]; unfold near; rw [hv]; rfl
    subst hres
    gi_wp2
    exact ⟨_, results_tmp2 rfl _ _ _, rfl, hbb⟩
  · obtain ⟨c, hcv⟩ : ∃ c : Cv, c = ⟨f, s, m, b, k1, k2, l⟩ := ⟨_, rfl⟩
    have hcs : c.s = s := by rw [hcv]
    obtain ⟨W, hW⟩ : ∃ W, W = clp v := ⟨_, rfl⟩
    have hW2 := clp_le v
    rw [← hW] at hW2
    have HCLP := Lib.hid (fun u => by have := M3w.clamp_p v u; rw [← hW] at this; exact this)
    have HW := Lib.hid hW
    clear hW
    obtain ⟨w4, hw4⟩ : ∃ w4, w4 = (((w2.setCell ⟨w.heap.size + 1, 0, none⟩ (.int .i64 W)).alloc (.cells #[.int .u8 0] 5)).alloc (.cells #[.int .i64 0] 2)).alloc (.cells #[.bool false] 4) := ⟨_, rfl⟩
    have hz3 : (w2.setCell ⟨w.heap.size + 1, 0, none⟩ (.int .i64 W)).heap.size = w2.heap.size := by simp [World.setCell]
    have hb4 : Below (w.heap.size + 1) w2 w4 := by
      rw [hw4]
      exact ((((Below.refl (w.heap.size + 1) w2).setCell (p := ⟨w.heap.size + 1, 0, none⟩) (Nat.le_refl _) _).alloc (by omega) _).alloc (by rw [World.size_alloc]; omega) _).alloc (by rw [World.size_alloc, World.size_alloc]; omega) _
    have hz4 : w4.heap.size = w2.heap.size + 3 := by rw [hw4, World.size_alloc, World.size_alloc, World.size_alloc, hz3]
    have hr4 := (hb4.block w.heap.size (by omega)).trans hr0
    have c0 : w4.cell? ⟨w.heap.size, 0, none⟩ = some (.int .i64 f) := by rw [cell_of_row w4 _ 0 _ _ _ hr4]; rfl
    have c1 : w4.cell? ⟨w.heap.size, 1, none⟩ = some (.bool s) := by rw [cell_of_row w4 _ 1 _ _ _ hr4]; rfl
    have c2 : w4.cell? ⟨w.heap.size, 2, none⟩ = some (.int .i64 m) := by rw [cell_of_row w4 _ 2 _ _ _ hr4]; rfl
    have c3 : w4.cell? ⟨w.heap.size, 3, none⟩ = some (.int .i64 b) := by rw [cell_of_row w4 _ 3 _ _ _ hr4]; rfl
    have c4 : w4.cell? ⟨w.heap.size, 4, none⟩ = some (.int .i64 k1) := by rw [cell_of_row w4 _ 4 _ _ _ hr4]; rfl
    have c5 : w4.cell? ⟨w.heap.size, 5, none⟩ = some (.int .i64 k2) := by rw [cell_of_row w4 _ 5 _ _ _ hr4]; rfl
    have c6 : w4.cell? ⟨w.heap.size, 6, none⟩ = some (.slice A n cp) := by rw [cell_of_row w4 _ 6 _ _ _ hr4]; rfl
    have HW4 := Lib.hid hw4
    rw [hw4] at c0 c1 c2 c3 c4 c5 c6
    clear hw4
    have hcell : w2.cell? ⟨w.heap.size + 1, 0, none⟩ = some (.int .i64 v) := by rw [cell_of_row w2 _ 0 _ _ _ hr1]; rfl
    have hfz : w2.frozen? ⟨w.heap.size + 1, 0, none⟩ = false := frozen_of_row w2 _ 0 _ _ hr1
    gi_wp2
    refine ⟨trivial, (callsIn_wide.2 (HCLP.out _)).mono ?_⟩
    rintro e w' ⟨rfl, rfl⟩
    gi_wp2
    rw [← HW4.out]
    clear c0 c1 c2 c3 c4 c5 c6
    refine ⟨trivial, (callsIn_wide.2 (values_p f m b k1 k2 s A n cp w4)).mono ?_⟩
    rintro e w5 ⟨rfl, hw5⟩
    have hz5 : w5.heap.size = w2.heap.size + 4 := by rw [hw5]; simp; omega
    have hb5 : Below (w.heap.size + 1) w2 w5 := hb4.trans (by rw [hw5]; exact (Below.refl _ _).alloc (by omega) _)
    have hbw : Below w.heap.size w w5 := hbb.trans (hb5.mono (by omega))
    have hbc : w5.heap[w2.heap.size + 3]? = some (.cells (cvs f m b k1 k2 s A n cp) 24 (0, 0)) := by
      rw [hw5, ← hz4]
      exact heap_alloc_new w4 _
    have hB0 : Bx w5 w2.heap.size (.int .u8 0) := by
      rw [hw5, HW4.out]
      refine (((Bx.alloc ?_ _).alloc _).alloc _)
      have := Bx.new (w2.setCell ⟨w.heap.size + 1, 0, none⟩ (.int .i64 W)) (.int .u8 0) 5
      rw [hz3] at this
      exact this
    have hB1 : Bx w5 (w2.heap.size + 1) (.int .i64 0) := by
      rw [hw5, HW4.out]
      refine ((Bx.alloc ?_ _).alloc _)
      have := Bx.new ((w2.setCell ⟨w.heap.size + 1, 0, none⟩ (.int .i64 W)).alloc (.cells #[.int .u8 0] 5)) (.int .i64 0) 2
      rw [World.size_alloc, hz3] at this
      exact this
    have hB2 : Bx w5 (w2.heap.size + 1 + 1) (.bool false) := by
      rw [hw5, HW4.out]
      refine (Bx.alloc ?_ _)
      have := Bx.new (((w2.setCell ⟨w.heap.size + 1, 0, none⟩ (.int .i64 W)).alloc (.cells #[.int .u8 0] 5)).alloc (.cells #[.int .i64 0] 2)) (.bool false) 4
      rw [World.size_alloc, World.size_alloc, hz3] at this
      exact this
    have hB3 : Bx w5 (w.heap.size + 1) (.int .i64 W) := by
      rw [hw5, HW4.out]
      exact ((((Bx.row hr1).set (.int .i64 W)).alloc _).alloc _ |>.alloc _).alloc _
    have HZ5 := Lib.hid hz5
    have HLE := Lib.hid (show w.heap.size ≤ w2.heap.size by omega)
    have HZ2 := Lib.hid (show w.heap.size + 2 ≤ w2.heap.size by omega)
    have HBW := Lib.hid hbw
    have HBC := Lib.hid hbc
    have HB0 := Lib.hid hB0
    have HB1 := Lib.hid hB1
    have HB2 := Lib.hid hB2
    have HB3 := Lib.hid hB3
    clear hw5 hz5 hb5 hbw hbc hB0 hB1 hB2 hB3 hb4 hr4 hcell hfz
    gi_wp2
    refine wpIn_rangeFunc_ownF rfl (by omega) (gf := 66) (lb := #[.pointer (some ⟨w2.heap.size + 3, 0, none⟩)]) rfl trivial (enters_of Try.func66 (by kernel_rfl) rfl)
      (values_stops f m b k1 k2 s A n cp l w HSL.out hv (6 - 1) (w2.heap.size + 3) (by omega) w5 HBW.out HBC.out) (fun h k => Kp.trans h k)
      (fun W l o o' hl h hc hw => ⟨belowK_b (w := w5) HBW.out.size W l o o' hl h hc hw, World.putObj_heap_other (by have := HZ5.out; omega)⟩) (Below.refl _ _) (fun _ => rfl)
      (fun pre u => (Bx u w2.heap.size (.int .u8 ((lfold W pre).1.toNat : Int)) ∧ Bx u (w2.heap.size + 1) (.int .i64 (lfold W pre).2.1) ∧ Bx u (w2.heap.size + 1 + 1) (.bool (lfold W pre).2.2) ∧ Bx u (w.heap.size + 1) (.int .i64 W)) ∧ Below w.heap.size w u)
      (fun _ _ _ => False)
      (OwnFrom.and (Own.from (fun s A B row hs hg hr => ⟨hs.1.kept hg hr, hs.2.1.kept hg hr, hs.2.2.1.kept hg hr, hs.2.2.2.kept hg hr⟩) _) (ownFrom_below (Nat.le_refl _) (by have := HZ5.out; omega)))
      (fun _ _ _ _ _ hs _ _ => hs)
      ⟨⟨HB0.out, HB1.out, HB2.out, HB3.out⟩, HBW.out⟩
      (fun x => { tmps := #[.agg #[.int .i64 f, .bool s, .int .i64 m, .int .i64 b, .int .i64 k1, .int .i64 k2, .slice A n cp], .int .i64 v, .pointer (some ⟨w.heap.size, 0, none⟩), .pointer (some ⟨w.heap.size + 1, 0, none⟩), .int .u8 0, .int .i64 0, .pointer (some ⟨w2.heap.size, 0, none⟩), .pointer (some ⟨w2.heap.size + 1, 0, none⟩), .pointer (some ⟨w2.heap.size + 1 + 1, 0, none⟩), .int .u8 (x.1.toNat : Int), .int .i64 (clp x.2), undef, .agg #[.int .i64 f, .bool s, .int .i64 m, .int .i64 b, .int .i64 k1, .int .i64 k2, .slice A n cp], .bool true, .bool false, .int .i64 v, .int .i64 W, .agg #[.int .i64 f, .bool s, .int .i64 m, .int .i64 b, .int .i64 k1, .int .i64 k2, .slice A n cp], .func (.func 66) #[] #[.pointer (some ⟨w2.heap.size + 3, 0, none⟩)], .int .u8 (x.1.toNat : Int), .int .i64 (clp x.2), undef, undef, undef, undef, undef, undef, undef, undef, undef, undef, undef, undef, undef, undef, undef, undef, undef, undef, undef], defers := [] }) ?assign ?body ?done ?stop
    case assign =>
      intro l x W K hK
      gi_wp2
      exact hK
    case body =>
      rintro lp pre x u ⟨⟨hN, hL, hF, hV⟩, hbu⟩ _
      have hsn := lfold_snoc W pre x
      obtain ⟨⟨q, d, fd⟩, hst⟩ : ∃ st, lfold W pre = st := ⟨_, rfl⟩
      rw [hst] at hsn hN hL hF
      dsimp only at hsn hN hL hF
      obtain ⟨y1, y2⟩ := clp_le x.2
      obtain ⟨y, hy⟩ : ∃ y, clp x.2 = y := ⟨_, rfl⟩
      obtain ⟨r, hr⟩ : ∃ r, x.1 = r := ⟨_, rfl⟩
      rw [hy] at hsn y1 y2
      rw [hr] at hsn
      dsimp only
      rw [hy, hr]
      obtain ⟨D, hD⟩ : ∃ D, dist W y = D := ⟨_, rfl⟩
      rw [hD] at hsn
      have HDD := Lib.hid hD
      have HN := Lib.hid hN
      have HLL := Lib.hid hL
      have HF := Lib.hid hF
      have HVB := Lib.hid hV
      have H3 := Lib.hid (fun x' y' z' => three (x' := x') (y' := y') (z' := z') (n₀ := w.heap.size) hN hL hF hV (by have := HZ2.out; omega) HLE.out)
      obtain ⟨a1, a2⟩ := hN
      obtain ⟨a3, a4⟩ := hL
      obtain ⟨a5, a6⟩ := hF
      obtain ⟨a7, a8⟩ := hV
      have HSNI := Lib.hid hsn
      clear hsn hst hD hy hr
      unfold lim at y1 y2
      obtain ⟨W1, W2⟩ := hW2
      unfold lim at W1 W2
      have hds : (W ≤ y ∧ y - W = D) ∨ (y < W ∧ W - y = D) := by rw [← HDD.out]; unfold dist; omega
      rcases hds with ⟨g, hde⟩ | ⟨g, hde⟩
      all_goals
        cases fd
        · have HSN := Lib.hid (show lfold W (pre ++ [x]) = (r, D, true) by rw [HSNI.out, if_pos (.inl rfl)])
          gi_wp2
          all_goals (first | (exfalso; omega) | (obtain ⟨t1, t2, t3, t4, t5, t6⟩ := H3.out (.int .u8 (r.toNat : Int)) (.int .i64 D) (.bool true); exact ⟨t1, t2, ⟨by rw [HSN.out]; exact t3, by rw [HSN.out]; exact t4, by rw [HSN.out]; exact t5, t6⟩, hbu.trans t2.1⟩) | (have e : W - y = D := (by omega); rw [e]; obtain ⟨t1, t2, t3, t4, t5, t6⟩ := H3.out (.int .u8 (r.toNat : Int)) (.int .i64 D) (.bool true); exact ⟨t1, t2, ⟨by rw [HSN.out]; exact t3, by rw [HSN.out]; exact t4, by rw [HSN.out]; exact t5, t6⟩, hbu.trans t2.1⟩) | (have e : y - W = D := (by omega); rw [e]; obtain ⟨t1, t2, t3, t4, t5, t6⟩ := H3.out (.int .u8 (r.toNat : Int)) (.int .i64 D) (.bool true); exact ⟨t1, t2, ⟨by rw [HSN.out]; exact t3, by rw [HSN.out]; exact t4, by rw [HSN.out]; exact t5, t6⟩, hbu.trans t2.1⟩))
        · by_cases hlt : D < d
          · have HSN := Lib.hid (show lfold W (pre ++ [x]) = (r, D, true) by rw [HSNI.out, if_pos (.inr hlt)])
            gi_wp2
            all_goals (first | (exfalso; omega) | (obtain ⟨t1, t2, t3, t4, t5, t6⟩ := H3.out (.int .u8 (r.toNat : Int)) (.int .i64 D) (.bool true); exact ⟨t1, t2, ⟨by rw [HSN.out]; exact t3, by rw [HSN.out]; exact t4, by rw [HSN.out]; exact t5, t6⟩, hbu.trans t2.1⟩) | (have e : W - y = D := (by omega); rw [e]; obtain ⟨t1, t2, t3, t4, t5, t6⟩ := H3.out (.int .u8 (r.toNat : Int)) (.int .i64 D) (.bool true); exact ⟨t1, t2, ⟨by rw [HSN.out]; exact t3, by rw [HSN.out]; exact t4, by rw [HSN.out]; exact t5, t6⟩, hbu.trans t2.1⟩) | (have e : y - W = D := (by omega); rw [e]; obtain ⟨t1, t2, t3, t4, t5, t6⟩ := H3.out (.int .u8 (r.toNat : Int)) (.int .i64 D) (.bool true); exact ⟨t1, t2, ⟨by rw [HSN.out]; exact t3, by rw [HSN.out]; exact t4, by rw [HSN.out]; exact t5, t6⟩, hbu.trans t2.1⟩))
          · have HSN := Lib.hid (show lfold W (pre ++ [x]) = (q, d, true) by rw [HSNI.out, if_neg (by rintro (e | e); cases e; exact hlt e)])
            gi_wp2
            all_goals (first | (exfalso; omega) | (exact ⟨KeepsOthers.refl _, Kp.refl _ _ _, ⟨by rw [HSN.out]; exact HN.out, by rw [HSN.out]; exact HLL.out, by rw [HSN.out]; exact HF.out, HVB.out⟩, hbu⟩))
    case done =>
      rintro D xs u hD rfl ⟨⟨hN, hL, hF, hV⟩, hbu⟩ hK
      rw [← hcv] at hN hL hF
      have hres : R = if (nfold c W 256).1 < 0 then (0, 8) else ((nfold c W 256).2, 0) := by
        rw [HRV.out]
        unfold near
        rw [if_pos hv, ← hcv, ← HW.out]
      obtain ⟨a1, a2⟩ := hN
      obtain ⟨a5, a6⟩ := hF
      have HBE := Lib.hid (hbu.trans (belowK_b (w := w) (Nat.le_refl _) u D _ (.deferred none) (by have := HZ5.out; omega) hK rfl rfl))
      rcases lfold_is (c := c) (by rw [hcv]; exact hv) W 256 with ⟨h1, h2⟩ | ⟨q, d, hd, h1, h2⟩
      · rw [h1] at a1 a5
        rw [h2, if_pos (by show (-1 : Int) < 0; decide)] at hres
        subst hres
        clear h1 h2 hL hV a2 a6
        gi_wp2
        refine ⟨by simp, .inl ⟨_, _, rfl, run_takeDeferred hK, ?_⟩⟩
        exact ⟨_, results_tmp2 rfl _ _ _, rfl, HBE.out⟩
      · rw [h1] at a1 a5
        rw [h2, if_neg (by show ¬ d < 0; omega)] at hres
        subst hres
        clear h1 h2 hL hV a2 a6
        gi_wp2
        refine ⟨by simp, .inl ⟨_, _, rfl, run_takeDeferred hK, ?_⟩⟩
        exact ⟨_, results_tmp2 rfl _ _ _, rfl, HBE.out⟩
    case stop =>
      rintro D c pre W _ _ h _
      exact h.elim
end Go.Proofs.Ytkjjjphpbkcebaa.P4
