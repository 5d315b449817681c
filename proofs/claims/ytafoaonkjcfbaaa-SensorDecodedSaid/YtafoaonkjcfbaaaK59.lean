/- Walks: the program's conversions: Decode. -/
import Derived.Test.YtafoaonkjcfbaaaK58
namespace Go.Proofs.Ytafoaonkjcfbaaa.P5
open Go.RowKit Go.Proofs.Ytafoaonkjcfbaaa.Mem Go.Proofs.Ytafoaonkjcfbaaa.M3p Go.Proofs.Ytafoaonkjcfbaaa.C4p Go.Proofs.Ytafoaonkjcfbaaa.C4l Go.Proofs.Ytafoaonkjcfbaaa.C4v Go.Proofs.Ytafoaonkjcfbaaa.P4 Go.Proofs.Ytafoaonkjcfbaaa.D5
set_option maxRecDepth 100000
set_option maxHeartbeats 1000000

theorem u8_take {l : List UInt8} {n i : Nat} (h : i < n) : u8 (l.take n) i = u8 l i := by
  unfold u8
  rw [List.getD_eq_getElem?_getD, List.getD_eq_getElem?_getD, List.getElem?_take, if_pos h]
theorem piece_take {l : List UInt8} {n a m : Nat} (h : a + m ≤ n) : piece (l.take n) a m = piece l a m := by
  unfold piece
  rw [List.drop_take, List.take_take, Nat.min_eq_left (by omega)]
theorem pts_take : ∀ (k : Nat) (l : List UInt8) (n : Nat), 7 * k ≤ n → pts (l.take n) k = pts l k
  | 0, _, _, _ => rfl
  | k + 1, l, n, h => by
    have h1 : (l.take n).getD 0 0 = l.getD 0 0 := by
      rw [List.getD_eq_getElem?_getD, List.getD_eq_getElem?_getD, List.getElem?_take, if_pos (by omega)]
    have h2 : piece (l.take n) 1 6 = piece l 1 6 := piece_take (by omega)
    have h3 : (l.take n).drop 7 = (l.drop 7).take (n - 7) := List.drop_take
    rw [pts, pts, h1, h2, h3, pts_take k (l.drop 7) (n - 7) (by omega)]
/-- What Decode leaves. -/
def Dcd (w : World) (l : List UInt8) (e : Ending) (w' : World) : Prop := ∃ A n c, e = .returned (.tuple #[.agg #[.int .i64 (dec l).1.f, .bool (dec l).1.s, .int .i64 (dec l).1.m, .int .i64 (dec l).1.b, .int .i64 (dec l).1.k1, .int .i64 (dec l).1.k2, .slice A n c], .int .i64 (dec l).2.1, .int .i64 (dec l).2.2]) ∧
  PSl w' A n c (dec l).1.p ∧ Below w.heap.size w w'
/-- What Decode answers, by the size first. -/
theorem dec_bad {l : List UInt8} (h : (esz l).2 ≠ 0) : dec l = (noCv, 0, (esz l).2) := by
  unfold esz at h ⊢
  unfold dec
  split
  · rfl
  · rename_i h0
    rw [if_neg h0] at h
    split
    · rfl
    · rename_i h1
      rw [if_neg h1] at h
      split
      · rename_i h2
        rw [if_pos h2] at h
        split
        · rfl
        · rename_i h3
          rw [if_neg h3] at h
          split
          · rfl
          · rename_i h4
            rw [if_neg h4] at h
            exact absurd rfl h
      · rename_i h2
        rw [if_neg h2] at h
        exact absurd rfl h
/-- What is read, valid or not. -/
def rd (l : List UInt8) : Cv := if u8 l 0 % 128 = 5 then ⟨5, decide (128 ≤ u8 l 0), 0, 0, 0, 0, pts (l.drop 2) (u8 l 1)⟩
  else ⟨(u8 l 0 % 128 : Nat), decide (128 ≤ u8 l 0), sgn (piece l 1 2), sgn (piece l 3 2), sgn (piece l 5 1), sgn (piece l 6 1), []⟩
theorem esz_good {l : List UInt8} (h : (esz l).2 = 0) : l ≠ [] ∧ ((u8 l 0 % 128 = 5 ∧ 2 ≤ u8 l 1 ∧ u8 l 1 ≤ 12 ∧ 2 ≤ l.length ∧ (esz l).1 = ((2 + 7 * u8 l 1 : Nat) : Int)) ∨ (u8 l 0 % 128 ≠ 5 ∧ (esz l).1 = 7)) ∧
    (¬ (u8 l 0 % 128 < 1 ∨ 5 < u8 l 0 % 128)) := by
  unfold esz at h ⊢
  split at h
  · simp at h
  · rename_i h0
    rw [if_neg h0]
    split at h
    · simp at h
    · rename_i h1
      rw [if_neg h1]
      split at h
      · rename_i h2
        rw [if_pos h2]
        split at h
        · simp at h
        · rename_i h3
          rw [if_neg h3]
          split at h
          · simp at h
          · rename_i h4
            rw [if_neg h4]
            exact ⟨h0, .inl ⟨h2, by omega, by omega, by omega, rfl⟩, h1⟩
      · rename_i h2
        rw [if_neg h2]
        exact ⟨h0, .inr ⟨h2, rfl⟩, h1⟩
theorem dec_good {l : List UInt8} (h : (esz l).2 = 0) : dec l = if (l.length : Int) < (esz l).1 then (noCv, 0, 4) else dfin (rd l) (esz l).1 := by
  obtain ⟨h0, h1, h2⟩ := esz_good h
  unfold dec rd
  rw [if_neg h0, if_neg h2]
  rcases h1 with ⟨h3, h4, h5, h6, h7⟩ | ⟨h3, h7⟩
  · rw [if_pos h3, if_pos h3, if_neg (by omega), if_neg (by omega), h7]
    by_cases h8 : l.length < 2 + 7 * u8 l 1
    · rw [if_pos h8, if_pos (by omega)]
    · rw [if_neg h8, if_neg (by omega)]
      congr 1
  · rw [if_neg h3, if_neg h3, h7]
    by_cases h8 : l.length < 7
    · rw [if_pos h8, if_pos (by omega)]
    · rw [if_neg h8, if_neg (by omega)]
theorem read_any (a : Addr) (n c : Nat) (l : List UInt8) (w : World) (hsl : Sl w (some a) n c (l.take n)) (h : (esz l).2 = 0) (hn : (esz l).1 = (n : Int)) :
    Calls Try.prog 160 #[.slice (some a) n c] w fun e w' => ∃ A m q, e = .returned (.agg #[.int .i64 (rd l).f, .bool (rd l).s, .int .i64 (rd l).m, .int .i64 (rd l).b, .int .i64 (rd l).k1, .int .i64 (rd l).k2, .slice A m q]) ∧ POwn w.heap.size w' (.slice A m q) (rd l).p ∧ Below w.heap.size w w' := by
  obtain ⟨h0, h1, h2⟩ := esz_good h
  rcases h1 with ⟨h3, h4, h5, h6, h7⟩ | ⟨h3, h7⟩
  · have hn2 : n = 2 + 7 * u8 l 1 := by omega
    have e0 : u8 (l.take n) 0 = u8 l 0 := u8_take (by omega)
    have e1 : u8 (l.take n) 1 = u8 l 1 := u8_take (by omega)
    refine (read_tab a n c (l.take n) w hsl (by rw [e0]; exact h3) (by rw [e1]; exact h5) (by rw [e1]; exact hn2) (by rw [e1]; exact h4)).mono ?_
    rintro e w' ⟨A, m, q, rfl, hp, hb⟩
    rw [e0]
    rw [e1, List.drop_take, pts_take _ _ _ (by omega)] at hp
    unfold rd
    rw [if_pos h3]
    exact ⟨A, m, q, rfl, hp, hb⟩
  · have hn2 : n = 7 := by omega
    have e0 : u8 (l.take n) 0 = u8 l 0 := u8_take (by omega)
    refine (read_lin a n c (l.take n) w hsl hn2 (by rw [e0]; exact h3)).mono ?_
    rintro e w' ⟨rfl, hb⟩
    rw [e0, piece_take (by omega), piece_take (by omega), piece_take (by omega), piece_take (by omega)]
    unfold rd
    rw [if_neg h3]
    exact ⟨none, 0, 0, rfl, POwn.nil, hb⟩
theorem pown_keep {base B : Nat} {w w' : World} {v : Value} {p : List Pt} (h : POwn base w v p) (hb : Below B w w') (hB : w.heap.size ≤ B) : POwn base w' v p := by
  refine ⟨h.1, ?_⟩
  rcases h.2 with h1 | ⟨g, cap, cur, h1, h2, h3, h4⟩
  · exact .inl h1
  · exact .inr ⟨g, cap, cur, h1, h2, (hb.block g (Nat.lt_of_lt_of_le (lt_of_some h3) hB)).trans h3, h4⟩
theorem dec_p (A : Option Addr) (n c : Nat) (l : List UInt8) (w : World) (hsl : Sl w A n c l) (hn : n ≤ 1000000) :
    Calls Try.prog 139 #[.slice A n c] w (Dcd w l) := by
  have hb0 : Below w.heap.size w (w.alloc (.cells #[.int .i64 0, .bool false, .int .i64 0, .int .i64 0, .int .i64 0, .int .i64 0, .slice none 0 0] 54)) := (Below.refl _ _).alloc (Nat.le_refl _) _
  have hhr : (w.alloc (.cells #[.int .i64 0, .bool false, .int .i64 0, .int .i64 0, .int .i64 0, .int .i64 0, .slice none 0 0] 54)).heap[w.heap.size]? = some (.cells #[.int .i64 0, .bool false, .int .i64 0, .int .i64 0, .int .i64 0, .int .i64 0, .slice none 0 0] 54 (0, 0)) := heap_alloc_new w _
  have hs1 := hsl.step hb0
  have hE := esize_p A n c l _ hs1 hn
  by_cases h0 : (esz l).2 = 0
  · obtain ⟨hl0, -, -⟩ := esz_good h0
    have hg := dec_good h0
    obtain ⟨⟨E1, E2⟩, hE12⟩ : ∃ E, E = esz l := ⟨_, rfl⟩
    have hE12' := hE12
    rw [← hE12] at hE h0 hg
    dsimp only at hE h0 hg
    subst h0
    have HE := Lib.hid hE
    have hbE : 7 ≤ E1 ∧ E1 ≤ 86 := by
      obtain ⟨-, h1, -⟩ := esz_good (l := l) (by rw [← hE12])
      rw [← hE12] at h1
      dsimp only at h1
      omega
    have hln := hsl.len
    by_cases hlt : (l.length : Int) < E1
    · rw [if_pos hlt] at hg
      have HD := Lib.hid hg
      have hlt2 : (n : Int) < E1 := by omega
      clear hE hg hE12 hE12' hsl hs1 hln hlt
      go_enter Try.func139, Try.ntmps139
      go_wp2_with fail
      refine HE.out.mono ?_
      rintro e w' ⟨rfl, rfl⟩
      go_wp2_with fail
      have cR : ∀ i v', (#[.int .i64 0, .bool false, .int .i64 0, .int .i64 0, .int .i64 0, .int .i64 0, .slice none 0 0] : Array Value)[i]? = some v' → (w.alloc (.cells #[.int .i64 0, .bool false, .int .i64 0, .int .i64 0, .int .i64 0, .int .i64 0, .slice none 0 0] 54)).cell? ⟨w.heap.size, i, none⟩ = some v' := fun i v h => (cell_of_row _ w.heap.size i _ _ _ hhr).trans h
      have r0 := cR 0 _ rfl; have r1 := cR 1 _ rfl; have r2 := cR 2 _ rfl; have r3 := cR 3 _ rfl; have r4 := cR 4 _ rfl; have r5 := cR 5 _ rfl; have r6 := cR 6 _ rfl
      unfold Dcd
      rw [HD.out]
      refine bodyPost_ret (v := .tuple #[.agg #[.int .i64 0, .bool false, .int .i64 0, .int .i64 0, .int .i64 0, .int .i64 0, .slice none 0 0], .int .i64 0, .int .i64 4]) ?_ rfl ⟨none, 0, 0, rfl, PSl.none, hb0⟩
      simp [results, Try.results139, go_sem, r0, r1, r2, r3, r4, r5, r6]
    · rw [if_neg hlt] at hg
      obtain ⟨N, rfl⟩ := Int.eq_ofNat_of_zero_le (by omega : 0 ≤ E1)
      have hNn : N ≤ n := by omega
      have hcp := hsl.cap
      obtain ⟨a, rfl⟩ : ∃ a, A = some a := by
        obtain ⟨a, ha, _⟩ := row_at hsl.row (k := 0) (by omega)
        exact ⟨a, ha⟩
      have hsN : Sl (w.alloc (.cells #[.int .i64 0, .bool false, .int .i64 0, .int .i64 0, .int .i64 0, .int .i64 0, .slice none 0 0] 54)) (some a) N c (l.take N) := ⟨by simp; omega, row_take hs1.row N, by omega, hs1.max, fun hh => by cases hh⟩
      have hRD := read_any a N c l _ hsN (by rw [← hE12]) (by rw [← hE12])
      have HR := Lib.hid hRD
      have HD := Lib.hid hg
      have u1 : ¬ ((n : Int) < (N : Int)) := by omega
      have u2 : (0 : Int) ≤ (N : Int) := by omega
      have u3 : (N : Int) ≤ (c : Int) := by omega
      have u4 : (N : Int) ≤ (n : Int) := by omega
      generalize hrd : rd l = C at *
      obtain ⟨f, s, m, b, k1, k2, p⟩ := C
      dsimp only at HR HD
      clear hE hg hE12 hE12' hsl hs1 hln hlt hRD hsN hrd hl0 hbE
      go_enter Try.func139, Try.ntmps139
      go_wp2_with fail
      refine HE.out.mono ?_
      rintro e w' ⟨rfl, rfl⟩
      go_wp2_with fail
      refine HR.out.mono ?_
      rintro e w2 ⟨A2, m2, q2, rfl, ho2, hb2⟩
      have hp2 : PSl w2 A2 m2 q2 p := by
        obtain ⟨A8, n8, c8, hv8, hs8⟩ := ho2.sl
        injection hv8 with e1 e2 e3
        subst e1 e2 e3
        exact hs8
      have ho2' : POwn (w.heap.size + 1) w2 (.slice A2 m2 q2) p := by
        rw [World.size_alloc] at ho2
        exact ho2
      clear ho2
      have hr2 := (hb2.block w.heap.size (by rw [World.size_alloc]; omega)).trans hhr
      have hb02 := hb0.trans (hb2.mono (by rw [World.size_alloc]; omega))
      have hlr2 := lt_of_some hr2
      clear HR HE hb2 hb0 hhr
      have cR : ∀ i v', (#[.int .i64 0, .bool false, .int .i64 0, .int .i64 0, .int .i64 0, .int .i64 0, .slice none 0 0] : Array Value)[i]? = some v' → w2.cell? ⟨w.heap.size, i, none⟩ = some v' := fun i v h => (cell_of_row _ w.heap.size i _ _ _ hr2).trans h
      have r0 := cR 0 _ rfl; have r1 := cR 1 _ rfl; have r2 := cR 2 _ rfl; have r3 := cR 3 _ rfl; have r4 := cR 4 _ rfl; have r5 := cR 5 _ rfl; have r6 := cR 6 _ rfl
      go_wp2_with fail
      have hst : Below w2.heap.size w2 (w2.alloc (.cells #[.int .i64 f, .bool s, .int .i64 m, .int .i64 b, .int .i64 k1, .int .i64 k2, .slice A2 m2 q2] 54)) := (Below.refl _ _).alloc (Nat.le_refl _) _
      have hf3 : (w2.alloc (.cells #[.int .i64 f, .bool s, .int .i64 m, .int .i64 b, .int .i64 k1, .int .i64 k2, .slice A2 m2 q2] 54)).heap[w2.heap.size]? = some (.cells #[.int .i64 f, .bool s, .int .i64 m, .int .i64 b, .int .i64 k1, .int .i64 k2, .slice A2 m2 q2] 54 (0, 0)) := heap_alloc_new w2 _
      have hr3 := (hst.block w.heap.size hlr2).trans hr2
      have hp3 := hp2.step hst
      have hb03 := hb02.trans (hst.mono hb02.size)
      have ho3 := pown_keep ho2' hst (Nat.le_refl _)
      clear ho2'
      have hV := valid_p f m b k1 k2 s A2 m2 q2 p _ hp3
      clear r0 r1 r2 r3 r4 r5 r6 cR hr2 hp2 hb02 hst
      have hlf := lt_of_some hf3
      have hlr3 := lt_of_some hr3
      generalize hw3 : w2.alloc (.cells #[.int .i64 f, .bool s, .int .i64 m, .int .i64 b, .int .i64 k1, .int .i64 k2, .slice A2 m2 q2] 54) = w3 at *
      generalize hF : w2.heap.size = F at *
      have hFr : w.heap.size < F := hlr2
      clear hw3 hF hlr2
      have HV := Lib.hid hV; clear hV
      have hbw := hb03.size
      refine HV.out.mono ?_
      rintro e w4 ⟨rfl, hb4⟩
      have hf4 := (hb4.block F hlf).trans hf3
      have hr4 := (hb4.block w.heap.size hlr3).trans hr3
      have ho4 := pown_keep ho3 hb4 (Nat.le_refl _)
      clear ho3
      have hb04 := hb03.trans (hb4.mono hbw)
      obtain ⟨r, hr⟩ : ∃ r, r = w.heap.size := ⟨_, rfl⟩
      rw [← hr] at hr4 hFr ho4 ⊢
      have hrw : w.heap.size ≤ r := Nat.le_of_eq hr.symm
      clear HV hf3 hr3 hb03 hb4 hlf hlr3 hbw hr
      have cF : ∀ i v', (#[.int .i64 f, .bool s, .int .i64 m, .int .i64 b, .int .i64 k1, .int .i64 k2, .slice A2 m2 q2] : Array Value)[i]? = some v' → w4.cell? ⟨F, i, none⟩ = some v' := fun i v h => (cell_of_row _ F i _ _ _ hf4).trans h
      have cR : ∀ i v', (#[.int .i64 0, .bool false, .int .i64 0, .int .i64 0, .int .i64 0, .int .i64 0, .slice none 0 0] : Array Value)[i]? = some v' → w4.cell? ⟨r, i, none⟩ = some v' := fun i v h => (cell_of_row _ r i _ _ _ hr4).trans h
      have zR := fun i => frozen_of_row w4 r i _ _ hr4
      have f0 := cF 0 _ rfl; have f1 := cF 1 _ rfl; have f2 := cF 2 _ rfl; have f3 := cF 3 _ rfl; have f4 := cF 4 _ rfl; have f5 := cF 5 _ rfl; have f6 := cF 6 _ rfl
      have r0 := cR 0 _ rfl; have r1 := cR 1 _ rfl; have r2 := cR 2 _ rfl; have r3 := cR 3 _ rfl; have r4 := cR 4 _ rfl; have r5 := cR 5 _ rfl; have r6 := cR 6 _ rfl
      have q0 := zR 0; have q1 := zR 1; have q2' := zR 2; have q3 := zR 3; have q4 := zR 4; have q5 := zR 5; have q6 := zR 6
      have HP4 := Lib.hid ho4; have HB4 := Lib.hid hb04; have HR4 := Lib.hid hr4
      clear cF cR zR hf4 ho4 hb04 hr4 hp3
      cases hv : vld ⟨f, s, m, b, k1, k2, p⟩
      · have HVV := Lib.hid hv; clear hv
        have hb7 := ((((((HB4.out.setCell (p := ⟨r, 0, none⟩) hrw (.int .i64 0)).setCell (p := ⟨r, 1, none⟩) hrw (.bool false)).setCell (p := ⟨r, 2, none⟩) hrw (.int .i64 0)).setCell (p := ⟨r, 3, none⟩) hrw (.int .i64 0)).setCell (p := ⟨r, 4, none⟩) hrw (.int .i64 0)).setCell (p := ⟨r, 5, none⟩) hrw (.int .i64 0)).setCell (p := ⟨r, 6, none⟩) hrw (.slice none 0 0)
        have HB7 := Lib.hid hb7; clear hb7
        have e : dec l = (noCv, 0, 1) := by rw [HD.out, dfin, HVV.out]; rfl
        have HE := Lib.hid e; clear e
        go_wp2_with fail
        unfold Dcd
        rw [HE.out]
        refine bodyPost_ret (v := .tuple #[.agg #[.int .i64 0, .bool false, .int .i64 0, .int .i64 0, .int .i64 0, .int .i64 0, .slice none 0 0], .int .i64 0, .int .i64 1]) ?_ rfl ⟨none, 0, 0, rfl, PSl.none, by first | exact HB7.out | exact HB4.out⟩
        simp [results, Try.results139, go_sem, r0, r1, r2, r3, r4, r5, r6]
      · have HVV := Lib.hid hv; clear hv
        have hb7 := ((((((HB4.out.setCell (p := ⟨r, 0, none⟩) hrw (.int .i64 f)).setCell (p := ⟨r, 1, none⟩) hrw (.bool s)).setCell (p := ⟨r, 2, none⟩) hrw (.int .i64 m)).setCell (p := ⟨r, 3, none⟩) hrw (.int .i64 b)).setCell (p := ⟨r, 4, none⟩) hrw (.int .i64 k1)).setCell (p := ⟨r, 5, none⟩) hrw (.int .i64 k2)).setCell (p := ⟨r, 6, none⟩) hrw (.slice A2 m2 q2)
        have HB7 := Lib.hid hb7; clear hb7
        have e : dec l = (⟨f, s, m, b, k1, k2, p⟩, (N : Int), 0) := by rw [HD.out, dfin, HVV.out]; rfl
        have HE := Lib.hid e; clear e
        go_wp2_with fail
        unfold Dcd
        rw [HE.out]
        have ho7 := pown_out7 HP4.out (r := r) (Nat.lt_succ_self _) (.int .i64 f) (.bool s) (.int .i64 m) (.int .i64 b) (.int .i64 k1) (.int .i64 k2) (.slice A2 m2 q2)
        obtain ⟨A8, n8, c8, hv8, hs8⟩ := ho7.sl
        injection hv8 with e1 e2 e3
        subst e1 e2 e3
        refine bodyPost_ret (v := .tuple #[.agg #[.int .i64 f, .bool s, .int .i64 m, .int .i64 b, .int .i64 k1, .int .i64 k2, .slice A2 m2 q2], .int .i64 (N : Int), .int .i64 0]) ?_ rfl ⟨A2, m2, q2, rfl, hs8, HB7.out⟩
        simp [results, Try.results139, go_sem, r0, r1, r2, r3, r4, r5, r6]
  · have hd := dec_bad h0
    obtain ⟨⟨E1, E2⟩, hE12⟩ : ∃ E, E = esz l := ⟨_, rfl⟩
    rw [← hE12] at hE h0 hd
    dsimp only at hE h0 hd
    have HE := Lib.hid hE; have HD := Lib.hid hd
    have hne : (E2 != 0) = true := by rw [bne_iff_ne]; exact h0
    clear hE hd hE12 hsl hs1 h0
    go_enter Try.func139, Try.ntmps139
    go_wp2_with fail
    refine HE.out.mono ?_
    rintro e w' ⟨rfl, rfl⟩
    go_wp2_with fail
    have cR : ∀ i v', (#[.int .i64 0, .bool false, .int .i64 0, .int .i64 0, .int .i64 0, .int .i64 0, .slice none 0 0] : Array Value)[i]? = some v' → (w.alloc (.cells #[.int .i64 0, .bool false, .int .i64 0, .int .i64 0, .int .i64 0, .int .i64 0, .slice none 0 0] 54)).cell? ⟨w.heap.size, i, none⟩ = some v' := fun i v h => (cell_of_row _ w.heap.size i _ _ _ hhr).trans h
    have r0 := cR 0 _ rfl; have r1 := cR 1 _ rfl; have r2 := cR 2 _ rfl; have r3 := cR 3 _ rfl; have r4 := cR 4 _ rfl; have r5 := cR 5 _ rfl; have r6 := cR 6 _ rfl
    unfold Dcd
    rw [HD.out]
    refine bodyPost_ret (v := .tuple #[.agg #[.int .i64 0, .bool false, .int .i64 0, .int .i64 0, .int .i64 0, .int .i64 0, .slice none 0 0], .int .i64 0, .int .i64 E2]) ?_ rfl ⟨none, 0, 0, rfl, PSl.none, hb0⟩
    simp [results, Try.results139, go_sem, r0, r1, r2, r3, r4, r5, r6]
end Go.Proofs.Ytafoaonkjcfbaaa.P5
