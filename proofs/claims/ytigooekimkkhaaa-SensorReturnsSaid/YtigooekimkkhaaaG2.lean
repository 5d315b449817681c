/- Walks: the dice's entities; bits of masks; the mathematics of the dice's thresholds. Plain mathematics of the dice's thresholds. Walks: the dice's thresholds. Walks: the dice's sensor records: where a walk stands; what discrete ones are. -/
import Derived.Test.YtigooekimkkhaaaTk
import Derived.Test.YtigooekimkkhaaaG1
import Derived.Test.YtigooekimkkhaaaTa
import Derived.Deep.RegionHeld3
namespace Go.Proofs.Ytigooekimkkhaaa.Tl
open Go.RowKit Go.Proofs.Ytigooekimkkhaaa.Mem Go.Proofs.Ytigooekimkkhaaa.F2p Go.Proofs.Ytigooekimkkhaaa.Made Go.Proofs.Ytigooekimkkhaaa.C4l Go.Proofs.Ytigooekimkkhaaa.D5 Go.Proofs.Ytigooekimkkhaaa.Ta Go.Proofs.Ytigooekimkkhaaa.Tb
set_option maxRecDepth 100000
set_option maxHeartbeats 1000000

theorem has_r (m i : Nat) (hm : m < 65536) (hi : i ≤ 16) (w : World) : Calls Try.prog 60 #[.int .u16 (m : Int), .int .i64 (i : Int)] w fun e w' => e = .returned (.bool (has m i)) ∧ w = w' := by
  have h2 : (m : Int) / 2 ^ i % 2 = ((m / 2 ^ i % 2 : Nat) : Int) := by rw [Int.natCast_emod, Int.natCast_ediv, Int.natCast_pow]; rfl
  have hl : m / 2 ^ i ≤ m := Nat.div_le_self _ _
  have h3 : (m : Int) / 2 ^ i = ((m / 2 ^ i : Nat) : Int) := by rw [Int.natCast_ediv, Int.natCast_pow]; rfl
  unfold has
  rw [h3] at h2
  generalize m / 2 ^ i = q at *
  have hq : q < 65536 := by omega
  generalize q % 2 = R at *
  clear hl
  go_enter Try.func60, Try.ntmps60
  go_wp2_with fail
  go_ret
  exact ⟨ret_bool (by rw [Bool.eq_iff_iff]; simp; try omega), rfl⟩
/-- What the dice's Entity leaves. -/
def Ent (w : World) (g n c : Nat) (A : Option Addr) (l : List Int) (e : Ending) (w' : World) : Prop := ∃ x y : UInt8, e = .returned (.agg #[.int .u8 (x.toNat : Int), .int .u8 (y.toNat : Int)]) ∧ Dz w' g A n c l ∧ w.grownBy w' (some g)
theorem u8_int (q : Nat) (h : q < 256) : ∃ x : UInt8, (q : Int) = (x.toNat : Int) := ⟨UInt8.ofNat q, by rw [UInt8.toNat_ofNat', Nat.mod_eq_of_lt h]⟩
theorem entity_any {w : World} {g n c : Nat} {A : Option Addr} {l : List Int} (h : Dz w g A n c l) :
    Calls Try.prog 32 #[.pointer (some ⟨g, 0, none⟩)] w (Ent w g n c A l) := by
  have hlt := h.lt
  have hal0 := World.grownBy_alloc w (.cells #[.int .u8 0, .int .u8 0] 23) (some g)
  have hd0 := h.grown (World.grownBy_alloc w (.cells #[.int .u8 0, .int .u8 0] 23) none) (by simp) (fun k hk => by cases hk)
  have hst0 : (w.alloc (.cells #[.int .u8 0, .int .u8 0] 23)).heap[w.heap.size]? = some (.cells #[.int .u8 0, .int .u8 0] 23 (0, 0)) := heap_alloc_new w _
  clear h
  go_enter Try.func32, Try.ntmps32
  go_wp2_with fail
  refine (hd0.next 4 (by omega) (by omega)).mono ?_
  rintro e w2 ⟨q, hq, rfl, hd2, hg2⟩
  have hst2 := (hg2.block w.heap.size (lt_of_some hst0) (fun e => by injection e; omega)).trans hst0
  have hgw2 := grown_trans hal0 hg2
  clear hd0 hal0 hst0 hg2
  go_wp2_with fail
  refine (hd2.next 2 (by omega) (by omega)).mono ?_
  rintro e w3 ⟨q2, hq2, rfl, hd3, hg3⟩
  have hst3 := (hg3.block w.heap.size (lt_of_some hst2) (fun e => by injection e; omega)).trans hst2
  have hgw3 := grown_trans hgw2 hg3
  have f0 : w3.frozen? ⟨w.heap.size, 0, none⟩ = false := frozen_of_row w3 _ 0 _ _ hst3
  have f1 : w3.frozen? ⟨w.heap.size, 1, none⟩ = false := frozen_of_row w3 _ 1 _ _ hst3
  have c0 : w3.cell? ⟨w.heap.size, 0, none⟩ = some (.int .u8 0) := cell_of_row w3 _ 0 _ _ _ hst3
  have c1 : w3.cell? ⟨w.heap.size, 1, none⟩ = some (.int .u8 0) := cell_of_row w3 _ 1 _ _ _ hst3
  obtain ⟨x, hx⟩ := u8_int (1 + q) (by omega)
  obtain ⟨y, hy⟩ := u8_int q2 (by omega)
  have G1 := set_grown w3 w.heap.size 0 (.int .u8 (1 + (q : Int)))
  have B1 := heap_setCell_same w3 w.heap.size 0 _ _ (.int .u8 (1 + (q : Int))) hst3
  have G2 := set_grown (w3.setCell ⟨w.heap.size, 0, none⟩ (.int .u8 (1 + (q : Int)))) w.heap.size 1 (.int .u8 (q2 : Int))
  have B2 := heap_setCell_same (w3.setCell ⟨w.heap.size, 0, none⟩ (.int .u8 (1 + (q : Int)))) w.heap.size 1 _ _ (.int .u8 (q2 : Int)) B1
  have hd5 := hd3.grown (grown_trans G1 G2) (fun e => by injection e; omega) (fun k hk => by injection hk; omega)
  have hg5 := grown_new (grown_new hgw3 G1 (fun b hb => by injection hb; omega)) G2 (fun b hb => by injection hb; omega)
  have P := Lib.hid (And.intro hd5 (And.intro hg5 B2))
  have HX := Lib.hid hx
  have HY := Lib.hid hy
  clear hd2 hst2 hgw2 hg3 hd3 hgw3 hst3 G1 B1 G2 B2 hd5 hg5 hx hy
  go_wp2_with fail
  refine bodyPost_ret (results_cell_row Try.results32 _ _ w.heap.size _ _ _ _ rfl P.out.2.2 Try.underlying23 rfl (by kernel_rfl)) rfl ⟨x, y, ?_, P.out.1, P.out.2.1⟩
  rw [← HX.out, ← HY.out]; push_cast; rfl
end Go.Proofs.Ytigooekimkkhaaa.Tl
namespace Go.Proofs.Ytigooekimkkhaaa.Tm
open Go.Proofs.Ytigooekimkkhaaa.Ta Go.Proofs.Ytigooekimkkhaaa.C4p
set_option maxRecDepth 100000

def ord (k : Nat) : Nat := [2, 1, 0, 3, 4, 5].getD k 0
theorem ord_lt {k : Nat} (h : k < 6) : ord k < 6 := by
  rcases (show k = 0 ∨ k = 1 ∨ k = 2 ∨ k = 3 ∨ k = 4 ∨ k = 5 by omega) with rfl | rfl | rfl | rfl | rfl | rfl <;> decide
theorem ord_inj {a b : Nat} (ha : a < 6) (hb : b < 6) (h : ord a = ord b) : a = b := by
  have : ∀ a, a < 6 → ∀ b, b < 6 → ord a = ord b → a = b := by decide
  exact this a ha b hb h
structure Inv (sg : Bool) (mx k : Nat) (x : Int) (raw : List UInt8) : Prop where
  len : raw.length = 6
  lo : least sg ≤ x
  hi : x ≤ least sg + 39 + 35 * (k : Int) + (if 3 < k then 1 else 0)
  top : ∀ a, a < k → has mx (ord a) = true → num sg (raw.getD (ord a) 0) + (if a < 3 ∧ 3 < k then 1 else 0) ≤ x
  prs : ∀ a b, a < b → b < k → has mx (ord a) = true → has mx (ord b) = true → num sg (raw.getD (ord a) 0) + (if a < 3 ∧ 3 ≤ b then 1 else 0) ≤ num sg (raw.getD (ord b) 0)
  zer : ∀ a, a < 6 → (k ≤ a ∨ has mx (ord a) = false) → raw.getD (ord a) 0 = 0
theorem getD_set (l : List UInt8) (i j : Nat) (v : UInt8) (hi : i < l.length) : (l.set i v).getD j 0 = if i = j then v else l.getD j 0 := by
  rw [List.getD_eq_getElem?_getD, List.getElem?_set, List.getD_eq_getElem?_getD]
  split
  · subst_vars; first | (rw [if_pos hi]; rfl) | rfl
  · rfl
theorem Inv.start {sg : Bool} {mx : Nat} {x : Int} (h1 : least sg ≤ x) (h2 : x ≤ least sg + 39) : Inv sg mx 0 x [0, 0, 0, 0, 0, 0] := by
  refine ⟨rfl, h1, by simp; omega, fun a h => absurd h (Nat.not_lt_zero _), fun a b _ h => absurd h (Nat.not_lt_zero _), fun a ha _ => ?_⟩
  have := ord_lt ha
  rcases (show ord a = 0 ∨ ord a = 1 ∨ ord a = 2 ∨ ord a = 3 ∨ ord a = 4 ∨ ord a = 5 by omega) with e | e | e | e | e | e <;> rw [e] <;> rfl
/-- The number at hand in round k. -/
def now (k : Nat) (x : Int) : Int := if k = 3 then x + 1 else x
theorem Inv.miss {sg : Bool} {mx k : Nat} {x : Int} {raw : List UInt8} (h : Inv sg mx k x raw) (hk : k < 6) (hb : has mx (ord k) = false) : Inv sg mx (k + 1) (now k x) raw := by
  obtain ⟨h0, h1, h2, h3, h4, h5⟩ := h
  unfold now
  refine ⟨h0, by split <;> omega, ?_, fun a ha hh => ?_, fun a b hab hbk ha hh => ?_, fun a ha hh => ?_⟩
  · by_cases e : k = 3
    · subst e; simp at h2 ⊢; omega
    · rw [if_neg e]
      by_cases e2 : 3 < k
      · rw [if_pos e2] at h2; rw [if_pos (by omega)]; push_cast; omega
      · rw [if_neg e2] at h2; rw [if_neg (by omega)]; push_cast; omega
  · rcases Nat.lt_or_ge a k with g | g
    · have := h3 a g hh
      by_cases e : k = 3
      · subst e
        rw [if_neg (by omega)] at this
        rw [if_pos rfl]
        split <;> omega
      · rw [if_neg e]
        by_cases e2 : a < 3 ∧ 3 < k
        · rw [if_pos e2] at this; rw [if_pos (by omega)]; omega
        · rw [if_neg e2] at this; rw [if_neg (by omega)]; omega
    · obtain rfl : a = k := by omega
      rw [hb] at hh; cases hh
  · rcases Nat.lt_or_ge b k with g | g
    · exact h4 a b hab g ha hh
    · obtain rfl : b = k := by omega
      rw [hb] at hh; cases hh
  · refine h5 a ha ?_
    rcases hh with hh | hh
    · exact .inl (by omega)
    · exact .inr hh
theorem Inv.hit {sg : Bool} {mx k : Nat} {x : Int} {raw : List UInt8} (h : Inv sg mx k x raw) (hk : k < 6) (hb : has mx (ord k) = true) (q : Nat) (hq : q < 36) : Inv sg mx (k + 1) (now k x + (q : Int)) (raw.set (ord k) (rawOf (now k x))) := by
  obtain ⟨h0, h1, h2, h3, h4, h5⟩ := h
  have hlt := ord_lt hk
  have hnl : least sg ≤ now k x ∧ now k x < least sg + 256 ∧ x ≤ now k x := by
    unfold now
    have : (if 3 < k then (1 : Int) else 0) ≤ 1 := by split <;> omega
    split <;> omega
  have hnum : num sg (rawOf (now k x)) = now k x := num_raw hnl.1 hnl.2.1
  have hsame : ∀ a, a < 6 → a ≠ k → (raw.set (ord k) (rawOf (now k x))).getD (ord a) 0 = raw.getD (ord a) 0 := fun a ha hne => by
    rw [getD_set _ _ _ _ (by omega), if_neg (fun e => hne (ord_inj hk ha e).symm)]
  have hown : (raw.set (ord k) (rawOf (now k x))).getD (ord k) 0 = rawOf (now k x) := by
    rw [getD_set _ _ _ _ (by omega), if_pos rfl]
  have hstep : ∀ a, a < k → has mx (ord a) = true → num sg (raw.getD (ord a) 0) + (if a < 3 ∧ 3 ≤ k then 1 else 0) ≤ now k x := fun a ha hh => by
    have := h3 a ha hh
    unfold now
    by_cases e : k = 3
    · subst e
      rw [if_neg (by omega)] at this
      rw [if_pos rfl]
      split <;> omega
    · rw [if_neg e]
      by_cases e2 : a < 3 ∧ 3 < k
      · rw [if_pos e2] at this; rw [if_pos (by omega)]; omega
      · rw [if_neg e2] at this; rw [if_neg (by omega)]; omega
  refine ⟨by rw [List.length_set]; exact h0, by omega, ?_, fun a ha hh => ?_, fun a b hab hbk ha hh => ?_, fun a ha hh => ?_⟩
  · unfold now
    by_cases e : k = 3
    · subst e; simp at h2 ⊢; omega
    · rw [if_neg e]
      by_cases e2 : 3 < k
      · rw [if_pos e2] at h2; rw [if_pos (by omega)]; push_cast; omega
      · rw [if_neg e2] at h2; rw [if_neg (by omega)]; push_cast; omega
  · rcases Nat.lt_or_ge a k with g | g
    · rw [hsame a (by omega) (by omega)]
      have := hstep a g hh
      by_cases e2 : a < 3 ∧ 3 ≤ k
      · rw [if_pos e2] at this; rw [if_pos (by omega)]; omega
      · rw [if_neg e2] at this; rw [if_neg (by omega)]; omega
    · obtain rfl : a = k := by omega
      rw [hown, hnum, if_neg (by omega)]; omega
  · rcases Nat.lt_or_ge b k with g | g
    · rw [hsame a (by omega) (by omega), hsame b (by omega) (by omega)]
      exact h4 a b hab g ha hh
    · obtain rfl : b = k := by omega
      rw [hsame a (by omega) (by omega), hown, hnum]
      exact hstep a hab ha
  · have hak : a ≠ k := fun e => by
      subst e
      rcases hh with hh | hh
      · omega
      · rw [hb] at hh; cases hh
    rw [hsame a ha hak]
    refine h5 a ha ?_
    rcases hh with hh | hh
    · exact .inl (by omega)
    · exact .inr hh
theorem Inv.fin {sg : Bool} {mx : Nat} {x : Int} {raw : List UInt8} (h : Inv sg mx 6 x raw) (hm : mx ≤ 63) : lims sg mx raw = true := by
  obtain ⟨h0, h1, h2, h3, h4, h5⟩ := h
  unfold lims Ta.zer ordd
  rw [decide_eq_true hm, Bool.true_and, Bool.and_eq_true]
  have pos : ∀ i, i < 6 → ∃ a, a < 6 ∧ ord a = i ∧ (i < 3 → a = 2 - i) ∧ (3 ≤ i → a = i) := by
    intro i hi
    rcases (show i = 0 ∨ i = 1 ∨ i = 2 ∨ i = 3 ∨ i = 4 ∨ i = 5 by omega) with rfl | rfl | rfl | rfl | rfl | rfl
    · exact ⟨2, by omega, rfl, by omega, by omega⟩
    · exact ⟨1, by omega, rfl, by omega, by omega⟩
    · exact ⟨0, by omega, rfl, by omega, by omega⟩
    · exact ⟨3, by omega, rfl, by omega, by omega⟩
    · exact ⟨4, by omega, rfl, by omega, by omega⟩
    · exact ⟨5, by omega, rfl, by omega, by omega⟩
  constructor
  · simp only [List.all_eq_true, List.mem_range, Bool.or_eq_true, decide_eq_true_eq]
    intro i hi
    obtain ⟨a, ha, rfl, -, -⟩ := pos i hi
    cases hh : has mx (ord a) with
    | true => exact .inl rfl
    | false => exact .inr (h5 a ha (.inr hh))
  · simp only [List.all_eq_true, List.mem_range]
    intro j hj i hi
    obtain ⟨b, hb, rfl, pb1, pb2⟩ := pos j hj
    obtain ⟨a, ha, rfl, pa1, pa2⟩ := pos i (by omega)
    unfold pair
    cases hha : has mx (ord a)
    · rfl
    cases hhb : has mx (ord b)
    · rfl
    simp only [Bool.and_self, Bool.true_and, Bool.not_not]
    unfold fol
    by_cases q1 : ord b ≤ 2
    · rw [if_pos q1, decide_eq_true_eq]
      have e1 := pb1 (by omega)
      have e2 := pa1 (by omega)
      have := h4 b a (by omega) ha hhb hha
      rw [if_neg (by omega)] at this
      omega
    · rw [if_neg q1]
      have e1 := pb2 (by omega)
      by_cases q2 : 3 ≤ ord a
      · rw [if_pos q2, decide_eq_true_eq]
        have e2 := pa2 q2
        have := h4 a b (by omega) hb hha hhb
        rw [if_neg (by omega)] at this
        omega
      · rw [if_neg q2, decide_eq_true_eq]
        have e2 := pa1 (by omega)
        have := h4 a b (by omega) hb hha hhb
        rw [if_pos (by omega)] at this
        omega
end Go.Proofs.Ytigooekimkkhaaa.Tm
namespace Go.Proofs.Ytigooekimkkhaaa.Tl
open Go.RowKit Go.Proofs.Ytigooekimkkhaaa.Mem Go.Proofs.Ytigooekimkkhaaa.F2p Go.Proofs.Ytigooekimkkhaaa.Made Go.Proofs.Ytigooekimkkhaaa.C4l Go.Proofs.Ytigooekimkkhaaa.D5 Go.Proofs.Ytigooekimkkhaaa.Ta Go.Proofs.Ytigooekimkkhaaa.Tb Go.Proofs.Ytigooekimkkhaaa.Tm
set_option maxRecDepth 100000
set_option maxHeartbeats 1000000

/-- Thresholds at a block: the mask, and the raw readings. -/
def Tx (w : World) (r : Nat) (mx : UInt8) (raw : List UInt8) : Prop := w.heap[r]? = some (.cells (bvs (mx :: raw)).toArray 29 (0, 0))
section
variable {w w' : World} {r : Nat} {mx : UInt8} {raw : List UInt8}
theorem Tx.kept (h : Tx w r mx raw) {b : Option Nat} (hg : w.grownBy w' b) (hne : some r ≠ b) : Tx w' r mx raw := (hg.block r (lt_of_some h) hne).trans h
theorem Tx.c0 (h : Tx w r mx raw) : w.cell? ⟨r, 0, none⟩ = some (.int .u8 (mx.toNat : Int)) := cell_of_row w r 0 _ _ _ h
theorem Tx.fz (h : Tx w r mx raw) (i : Nat) : w.frozen? ⟨r, i, none⟩ = false := frozen_of_row w r i _ _ h
theorem Tx.there (h : Tx w r mx raw) {i : Nat} (hi : i < raw.length) : ∃ u, w.cell? ⟨r, 1 + i, none⟩ = some u := by
  rw [cell_of_row w r (1 + i) _ _ _ h]
  refine ⟨bv raw[i], ?_⟩
  rw [List.getElem?_toArray, bvs, List.getElem?_map, Nat.add_comm 1 i, List.getElem?_cons_succ, List.getElem?_eq_getElem hi]
  rfl
theorem Tx.set (h : Tx w r mx raw) (i : Nat) (v : UInt8) : Tx (w.setCell ⟨r, 1 + i, none⟩ (.int .u8 (v.toNat : Int))) r mx (raw.set i v) := by
  have := heap_setCell_same w r (1 + i) _ _ (.int .u8 (v.toNat : Int)) h
  unfold Tx
  rw [this]
  congr 2
  rw [List.setIfInBounds_toArray]
  congr 1
  unfold bvs
  rw [Nat.add_comm 1 i, List.map_cons, List.map_cons, List.set_cons_succ, List.map_set]
  rfl
end
/-- What the dice's thresholds leave. -/
def Thd (sg : Bool) (w : World) (g n c : Nat) (A : Option Addr) (l : List Int) (e : Ending) (w' : World) : Prop := ∃ mx r0 r1 r2 r3 r4 r5 : UInt8, e = .returned (.agg #[.int .u8 (mx.toNat : Int), .int .u8 (r0.toNat : Int), .int .u8 (r1.toNat : Int), .int .u8 (r2.toNat : Int), .int .u8 (r3.toNat : Int), .int .u8 (r4.toNat : Int), .int .u8 (r5.toNat : Int)]) ∧
  lims sg mx.toNat [r0, r1, r2, r3, r4, r5] = true ∧ Dz w' g A n c l ∧ w.grownBy w' (some g)
/-- Where a walk of the thresholds stands. r: the result's block, F: the thresholds' block, O: the order's. -/
structure Tt (w0 w : World) (g n c : Nat) (A : Option Addr) (l : List Int) (r F O : Nat) (mx : UInt8) (raw : List UInt8) : Prop where
  dz : Dz w g A n c l
  res : w.heap[r]? = some (.cells #[.int .u8 0, .int .u8 0, .int .u8 0, .int .u8 0, .int .u8 0, .int .u8 0, .int .u8 0] 29 (0, 0))
  tx : Tx w F mx raw
  od : w.heap[O]? = some (.cells #[.int .i64 2, .int .i64 1, .int .i64 0, .int .i64 3, .int .i64 4, .int .i64 5] 61 (0, 0))
  gr : w0.grownBy w (some g)
  lo : w0.heap.size ≤ r ∧ r < F ∧ F < O ∧ g < w0.heap.size
section
variable {w0 w w' : World} {g n c r F O : Nat} {A : Option Addr} {l : List Int} {mx : UInt8} {raw : List UInt8}
theorem Tt.step (h : Tt w0 w g n c A l r F O mx raw) (hd : Dz w' g A n c l) (hg : w.grownBy w' (some g)) : Tt w0 w' g n c A l r F O mx raw :=
  ⟨hd, (hg.block r (lt_of_some h.res) (fun e => by injection e; have := h.lo; omega)).trans h.res, h.tx.kept hg (fun e => by injection e; have := h.lo; omega), (hg.block O (lt_of_some h.od) (fun e => by injection e; have := h.lo; omega)).trans h.od, grown_trans h.gr hg, h.lo⟩
theorem Tt.drew (h : Tt w0 w g n c A l r F O mx raw) : Tt w0 w.drew g n c A l r F O mx raw := ⟨dz_drew h.dz, h.res, h.tx, h.od, grown_drew h.gr, h.lo⟩
theorem Tt.drewN (h : Tt w0 w g n c A l r F O mx raw) (k : Nat) : Tt w0 (w.drewN k) g n c A l r F O mx raw := by
  obtain ⟨a, ha, hd⟩ := h.dz.at_
  exact ⟨⟨h.dz.len, h.dz.bnd, h.dz.few, Rd.drewN h.dz.row k, a, ha, hd⟩, h.res, h.tx, h.od, grown_drewN h.gr k, h.lo⟩
theorem Tt.set (h : Tt w0 w g n c A l r F O mx raw) (i : Nat) (v : UInt8) : Tt w0 (w.setCell ⟨F, 1 + i, none⟩ (.int .u8 (v.toNat : Int))) g n c A l r F O mx (raw.set i v) :=
  ⟨h.dz.grown (set_grown w F (1 + i) _) (fun e => by injection e; have := h.lo; omega) (fun k hk => by injection hk; have := h.lo; omega),
    (heap_setCell_other w ⟨F, 1 + i, none⟩ r _ (fun e => by have := h.lo; simp at e; omega)).trans h.res, h.tx.set i v,
    (heap_setCell_other w ⟨F, 1 + i, none⟩ O _ (fun e => by have := h.lo; simp at e; omega)).trans h.od,
    grown_new h.gr (set_grown w F (1 + i) _) (fun b hb => by injection hb; have := h.lo; omega), h.lo⟩
theorem Tt.ordc (h : Tt w0 w g n c A l r F O mx raw) {k : Nat} (hk : k < 6) : w.cell? ⟨O, k, none⟩ = some (.int .i64 ((ord k : Nat) : Int)) := by
  rw [cell_of_row w O k _ _ _ h.od]
  rcases (show k = 0 ∨ k = 1 ∨ k = 2 ∨ k = 3 ∨ k = 4 ∨ k = 5 by omega) with rfl | rfl | rfl | rfl | rfl | rfl <;> rfl
end
theorem one_th (mx r0 r1 r2 r3 r4 r5 : UInt8) : (#[.int .u8 (mx.toNat : Int), .int .u8 (r0.toNat : Int), .int .u8 (r1.toNat : Int), .int .u8 (r2.toNat : Int), .int .u8 (r3.toNat : Int), .int .u8 (r4.toNat : Int), .int .u8 (r5.toNat : Int)] : Array Value).all (·.oneCell') = true := by
  rw [← Array.all_toList]
  rfl
theorem six (l : List UInt8) (h : l.length = 6) : ∃ a b c d e f, l = [a, b, c, d, e, f] := by
  match l, h with
  | [a, b, c, d, e, f], _ => exact ⟨a, b, c, d, e, f, rfl⟩
theorem thr_any {w : World} {g n c : Nat} {A : Option Addr} {l : List Int} (sg : Bool) (h : Dz w g A n c l) :
    Calls Try.prog 34 #[.pointer (some ⟨g, 0, none⟩), .bool sg] w (Thd sg w g n c A l) := by
  have hlt := h.lt
  have hal0 := World.grownBy_alloc w (.cells #[.int .u8 0, .int .u8 0, .int .u8 0, .int .u8 0, .int .u8 0, .int .u8 0, .int .u8 0] 29) (some g)
  have hd0 := h.grown (World.grownBy_alloc w (.cells #[.int .u8 0, .int .u8 0, .int .u8 0, .int .u8 0, .int .u8 0, .int .u8 0, .int .u8 0] 29) none) (by simp) (fun k hk => by cases hk)
  have hst0 : (w.alloc (.cells #[.int .u8 0, .int .u8 0, .int .u8 0, .int .u8 0, .int .u8 0, .int .u8 0, .int .u8 0] 29)).heap[w.heap.size]? = some (.cells #[.int .u8 0, .int .u8 0, .int .u8 0, .int .u8 0, .int .u8 0, .int .u8 0, .int .u8 0] 29 (0, 0)) := heap_alloc_new w _
  clear h
  go_enter Try.func34, Try.ntmps34
  go_wp2_with fail
  refine (hd0.next 64 (by omega) (by omega)).mono ?_
  rintro e w2 ⟨q, hq, rfl, hd2, hg2⟩
  have hst2 := (hg2.block w.heap.size (lt_of_some hst0) (fun e => by injection e; omega)).trans hst0
  have hgw2 := grown_trans hal0 hg2
  obtain ⟨mx, hmx⟩ := u8_int q (by omega)
  have hm63 : mx.toNat ≤ 63 := by omega
  clear hd0 hal0 hst0 hg2
  have HMX := Lib.hid hmx
  clear hmx
  go_wp2_with fail
  have htx : Tx (w2.alloc (.cells #[.int .u8 (q : Int), .int .u8 0, .int .u8 0, .int .u8 0, .int .u8 0, .int .u8 0, .int .u8 0] 29)) w2.heap.size mx [0, 0, 0, 0, 0, 0] := by
    unfold Tx
    rw [heap_alloc_new, HMX.out]
    rfl
  have hd3 := hd2.grown (World.grownBy_alloc w2 (.cells #[.int .u8 (q : Int), .int .u8 0, .int .u8 0, .int .u8 0, .int .u8 0, .int .u8 0, .int .u8 0] 29) none) (by simp) (fun k hk => by cases hk)
  have hst3 := (heap_alloc_old w2 (.cells #[.int .u8 (q : Int), .int .u8 0, .int .u8 0, .int .u8 0, .int .u8 0, .int .u8 0, .int .u8 0] 29) (lt_of_some hst2)).trans hst2
  have hgw3 := grown_trans hgw2 (World.grownBy_alloc w2 (.cells #[.int .u8 (q : Int), .int .u8 0, .int .u8 0, .int .u8 0, .int .u8 0, .int .u8 0, .int .u8 0] 29) (some g))
  have hF := lt_of_some hst2
  refine (C4v.least_r sg _).mono ?_
  rintro e w' ⟨rfl, rfl⟩
  have hL1 := C4p.num_in sg 0
  have hL2 : -128 ≤ C4p.least sg ∧ C4p.least sg ≤ 0 := by unfold C4p.least; split <;> omega
  generalize w2.alloc (.cells #[.int .u8 (q : Int), .int .u8 0, .int .u8 0, .int .u8 0, .int .u8 0, .int .u8 0, .int .u8 0] 29) = w3 at *
  generalize w2.heap.size = F at *
  clear hd2 hst2 hgw2 hL1
  go_wp2_with fail
  refine (hd3.next 40 (by omega) (by omega)).mono ?_
  rintro e w4 ⟨q2, hq2, rfl, hd4, hg4⟩
  have hst4 := (hg4.block w.heap.size (lt_of_some hst3) (fun e => by injection e; omega)).trans hst3
  have htx4 := htx.kept hg4 (fun e => by injection e; omega)
  have hgw4 := grown_trans hgw3 hg4
  have hO := lt_of_some htx4
  clear hd3 hst3 htx hg4 hgw3
  have hT : Tt w (w4.alloc (.cells #[.int .i64 2, .int .i64 1, .int .i64 0, .int .i64 3, .int .i64 4, .int .i64 5] 61)) g n c A l w.heap.size F w4.heap.size mx [0, 0, 0, 0, 0, 0] :=
    ⟨hd4.grown (World.grownBy_alloc w4 _ none) (by simp) (fun k hk => by cases hk), (heap_alloc_old w4 _ (lt_of_some hst4)).trans hst4, (heap_alloc_old w4 _ hO).trans htx4, heap_alloc_new w4 _, grown_trans hgw4 (World.grownBy_alloc w4 _ (some g)), Nat.le_refl _, hF, hO, hlt⟩
  have hI : Inv sg mx.toNat 0 (C4p.least sg + (q2 : Int)) [0, 0, 0, 0, 0, 0] := Inv.start (by omega) (by omega)
  clear hd4 hst4 htx4 hgw4
  go_wp2_with fail
  generalize w4.alloc (.cells #[.int .i64 2, .int .i64 1, .int .i64 0, .int .i64 3, .int .i64 4, .int .i64 5] 61) = w5 at *
  generalize w4.heap.size = O at *
  generalize hx0 : C4p.least sg + (q2 : Int) = x0 at *
  clear hx0 hO hq hq2 HMX
  go_loopw [6, 8] (fun vx vk wr => ∃ (k : Nat) (x : Int) (raw : List UInt8), k ≤ 6 ∧ vk = .int .i64 (k : Int) ∧ vx = .int .i64 x ∧ Tt w wr g n c A l w.heap.size F O mx raw ∧ Inv sg mx.toNat k x raw) (fun _ vk _ => 6 - (intOf vk).toNat)
  case atStart => exact ⟨0, x0, _, by omega, rfl, rfl, hT, hI⟩
  case round =>
    clear hT hI
    obtain ⟨k, x, raw, hk, rfl, rfl, hT, hI⟩ := hrel
    have hlo := hI.lo
    have hhi : x ≤ C4p.least sg + 39 + 35 * (k : Int) + 1 := by
      have h1 := hI.hi
      have h2 : (if 3 < k then (1 : Int) else 0) ≤ 1 := by split <;> omega
      omega
    by_cases hk6 : k < 6
    · have hmiss := hI.miss hk6
      have hhit := hI.hit hk6
      have hlen := hI.len
      have hol := ord_lt hk6
      have hco := hT.ordc hk6
      have hcx : (if k = 3 then x + 1 else x) = now k x := rfl
      have hnx : x ≤ now k x ∧ now k x ≤ x + 1 := by unfold now; split <;> omega
      have HT := hT.drew
      obtain ⟨bh, hbh⟩ : ∃ bh, bh = has mx.toNat (ord k) := ⟨_, rfl⟩
      have HH := Lib.hid fun (u : World) => by have := has_r mx.toNat (ord k) (by omega) (by omega) u; rw [← hbh] at this; exact this
      rw [← hbh] at hmiss hhit
      have HM := Lib.hid hmiss
      have HI := Lib.hid hhit
      have HL := Lib.hid hlen
      clear hbh hmiss hhit hlen hI hcx
      generalize hod : ord k = o at *
      have HOD := Lib.hid hod
      clear hod
      by_cases h3 : k = 3
      · as_aux_lemma =>
        have hnow : now k x = x + 1 := by unfold now; rw [if_pos h3]
        rw [hnow] at HI HM hnx
        subst h3
        clear hnow
        have hm0 := hT.tx.c0
        have kk6 : (3 : Int) < 6 := by omega
        go_wp2_with fail
        go_quiet ((go_at_call 60; exact quiet_same (HH.out _)))
        all_goals
          cases bh
          · go_wp2_with fail
            exact ⟨⟨3 + 1, x + 1, raw, by omega, by first | rfl | go_num, rfl, hT.drewN _, HM.out rfl⟩, by simp [intOf]; try omega⟩
          · go_wp2_with fail
            have HT1 := (hT.drewN nq).drew
            obtain ⟨uu, hcF⟩ := HT1.tx.there (i := o) (by rw [HL.out]; exact hol)
            have hfF := HT1.tx.fz (1 + o)
            have hcF2 : (wr.drewN (nq + 1)).cell? ⟨F, 1 + o, none⟩ = some uu := hcF
            have hfF2 : (wr.drewN (nq + 1)).frozen? ⟨F, 1 + o, none⟩ = false := hfF
            have KEEP1 := Lib.hid (by have := HT1.ordc (k := 3) (by omega); rw [HOD.out] at this; exact this)
            have KEEP2 := Lib.hid (by have := (HT1.set o (C4p.rawOf (x + 1))).ordc (k := 3) (by omega); rw [HOD.out] at this; exact this)
            have hio : (o : Int) < 6 := by omega
            have hio0 : (0 : Int) ≤ (o : Int) := by omega
            have kk6 : (3 : Int) < 6 := by omega
            have HR := Lib.hid fun (u : World) => C4v.raw_r (x + 1) u (by omega) (by omega)
            go_region_held3 (fun V => V.cell? ⟨O, 3, none⟩ = some (.int .i64 ((o : Nat) : Int))) (first | exact KEEP1.out | exact KEEP2.out)
              (first
                | (go_at_call 58; (with_reducible refine (HR.out _).mono ?_); rintro e w2 ⟨rfl, rfl⟩))
            have HT2 := (hT.drewN (nq + 1)).set o (C4p.rawOf (x + 1))
            have HN := Lib.hid (HT2.dz.next 36 (by omega) (by omega))
            clear hcF hfF hcF2 hfF2 HT1 hT hio hio0
            go_wp2_with fail
            refine HN.out.mono ?_
            rintro e w7 ⟨q7, hq7, rfl, hd7, hg7⟩
            have HT3 := HT2.step hd7 hg7
            go_wp2_with fail
            exact ⟨⟨3 + 1, x + 1 + (q7 : Int), raw.set o (C4p.rawOf (x + 1)), by omega, by first | rfl | go_num, vi (by omega), HT3, HI.out (by first | rfl | trivial) q7 hq7⟩, by simp [intOf]; try omega⟩
      · as_aux_lemma =>
        have hnow : now k x = x := by unfold now; rw [if_neg h3]
        rw [hnow] at HI HM hnx
        have h3' : ((k : Int) == 3) = false := by rw [beq_eq_false_iff_ne]; omega
        clear hnow h3
        have hm0 := hT.tx.c0
        have kk6 : (k : Int) < 6 := by omega
        go_wp2_with fail
        go_quiet ((go_at_call 60; exact quiet_same (HH.out _)))
        all_goals
          cases bh
          · go_wp2_with fail
            exact ⟨⟨k + 1, x, raw, by omega, by first | rfl | go_num, rfl, hT.drewN _, HM.out rfl⟩, by simp [intOf]; try omega⟩
          · go_wp2_with fail
            have HT1 := (hT.drewN nq).drew
            obtain ⟨uu, hcF⟩ := HT1.tx.there (i := o) (by rw [HL.out]; exact hol)
            have hfF := HT1.tx.fz (1 + o)
            have hcF2 : (wr.drewN (nq + 1)).cell? ⟨F, 1 + o, none⟩ = some uu := hcF
            have hfF2 : (wr.drewN (nq + 1)).frozen? ⟨F, 1 + o, none⟩ = false := hfF
            have KEEP1 := Lib.hid (by have := HT1.ordc (k := k) (by omega); rw [HOD.out] at this; exact this)
            have KEEP2 := Lib.hid (by have := (HT1.set o (C4p.rawOf (x))).ordc (k := k) (by omega); rw [HOD.out] at this; exact this)
            have hio : (o : Int) < 6 := by omega
            have hio0 : (0 : Int) ≤ (o : Int) := by omega
            have kk6 : (k : Int) < 6 := by omega
            have HR := Lib.hid fun (u : World) => C4v.raw_r (x) u (by omega) (by omega)
            go_region_held3 (fun V => V.cell? ⟨O, k, none⟩ = some (.int .i64 ((o : Nat) : Int))) (first | exact KEEP1.out | exact KEEP2.out)
              (first
                | (go_at_call 58; (with_reducible refine (HR.out _).mono ?_); rintro e w2 ⟨rfl, rfl⟩))
            have HT2 := (hT.drewN (nq + 1)).set o (C4p.rawOf (x))
            have HN := Lib.hid (HT2.dz.next 36 (by omega) (by omega))
            clear hcF hfF hcF2 hfF2 HT1 hT hio hio0
            go_wp2_with fail
            refine HN.out.mono ?_
            rintro e w7 ⟨q7, hq7, rfl, hd7, hg7⟩
            have HT3 := HT2.step hd7 hg7
            go_wp2_with fail
            exact ⟨⟨k + 1, x + (q7 : Int), raw.set o (C4p.rawOf (x)), by omega, by first | rfl | go_num, vi (by omega), HT3, HI.out (by first | rfl | trivial) q7 hq7⟩, by simp [intOf]; try omega⟩
    · obtain rfl : k = 6 := by omega
      have hfin := hI.fin hm63
      have hlen := hI.len
      obtain ⟨r0, r1, r2, r3, r4, r5, rfl⟩ := six raw hlen
      have hth : Th wr F mx r0 r1 r2 r3 r4 r5 := hT.tx
      obtain ⟨c0, c1, c2, c3, c4, c5, c6⟩ := hth.cells
      have hres := hT.res
      clear hlen hI
      go_wp2_with (refine wpList_store_row rfl _ (.tmp 4) (.tmp 45) rfl w.heap.size #[.int .u8 (mx.toNat : Int), .int .u8 (r0.toNat : Int), .int .u8 (r1.toNat : Int), .int .u8 (r2.toNat : Int), .int .u8 (r3.toNat : Int), .int .u8 (r4.toNat : Int), .int .u8 (r5.toNat : Int)] rfl rfl _ _ hres (by kernel_rfl) rfl (one_th mx r0 r1 r2 r3 r4 r5) ?_; refine Hid.out ?_)
      refine Lib.hid ?_
      have hrow := setRow_heap wr w.heap.size _ #[.int .u8 (mx.toNat : Int), .int .u8 (r0.toNat : Int), .int .u8 (r1.toNat : Int), .int .u8 (r2.toNat : Int), .int .u8 (r3.toNat : Int), .int .u8 (r4.toNat : Int), .int .u8 (r5.toNat : Int)] _ _ hres
      have hgr : wr.grownBy (wr.setRow w.heap.size #[.int .u8 (mx.toNat : Int), .int .u8 (r0.toNat : Int), .int .u8 (r1.toNat : Int), .int .u8 (r2.toNat : Int), .int .u8 (r3.toNat : Int), .int .u8 (r4.toNat : Int), .int .u8 (r5.toNat : Int)]) (some w.heap.size) := ⟨rfl, rfl, rfl, by simp, fun k _ hk => setRow_other wr w.heap.size k _ (fun he => hk (by rw [he]))⟩
      have hd6 := hT.dz.grown hgr (fun e => by injection e; omega) (fun k hk => by injection hk; omega)
      have hg6 := grown_new hT.gr hgr (fun b hb => by injection hb; omega)
      have P := Lib.hid (And.intro hrow (And.intro hd6 hg6))
      clear hrow hgr hd6 hg6 hT hth hres
      go_wp2_with fail
      exact bodyPost_ret (results_cell_row Try.results34 _ _ w.heap.size _ _ _ _ rfl P.out.1 Try.underlying29 rfl (by kernel_rfl)) rfl ⟨mx, r0, r1, r2, r3, r4, r5, rfl, hfin, P.out.2.1, P.out.2.2⟩
end Go.Proofs.Ytigooekimkkhaaa.Tl
namespace Go.Proofs.Ytigooekimkkhaaa.Tb
open Go.RowKit Go.Proofs.Ytigooekimkkhaaa.Mem Go.Proofs.Ytigooekimkkhaaa.Ta
theorem Bx.kept {w w' : World} {r : Nat} {s : Sn} {V : Value} (h : Bx w r s V) {b : Option Nat} (hg : w.grownBy w' b) (hne : some r ≠ b) : Bx w' r s V := (hg.block r h.lt hne).trans h
theorem Bx.set {w : World} {F : Nat} {s : Sn} {V : Value} (h : Bx w F s V) (i : Nat) (v : Value) (s' : Sn) (V' : Value) (he : (cells s V).setIfInBounds i v = cells s' V') : Bx (w.setCell ⟨F, i, none⟩ v) F s' V' := by
  unfold Bx
  rw [← he]
  exact heap_setCell_same w F i _ _ v h
end Go.Proofs.Ytigooekimkkhaaa.Tb
namespace Go.Proofs.Ytigooekimkkhaaa.Tl
open Go.RowKit Go.Proofs.Ytigooekimkkhaaa.Mem Go.Proofs.Ytigooekimkkhaaa.F2p Go.Proofs.Ytigooekimkkhaaa.Made Go.Proofs.Ytigooekimkkhaaa.C4l Go.Proofs.Ytigooekimkkhaaa.D5 Go.Proofs.Ytigooekimkkhaaa.Ta Go.Proofs.Ytigooekimkkhaaa.Tb
set_option maxRecDepth 100000
set_option maxHeartbeats 1000000

/-- Where a walk of the dice's records stands. r: the result's block, F: the record's. -/
structure Ss (w0 w : World) (g n c : Nat) (A : Option Addr) (l : List Int) (r F : Nat) (s : Sn) (V : Value) : Prop where
  dz : Dz w g A n c l
  res : Bx w r noSn (.slice none 0 0)
  cv : Bx w F s V
  gr : w0.grownBy w (some g)
  lo : w0.heap.size ≤ r ∧ r < F ∧ g < w0.heap.size
section
variable {w0 w w' : World} {g n c r F : Nat} {A : Option Addr} {l : List Int} {s : Sn} {V : Value}
theorem Ss.step (h : Ss w0 w g n c A l r F s V) (hd : Dz w' g A n c l) (hg : w.grownBy w' (some g)) : Ss w0 w' g n c A l r F s V :=
  ⟨hd, h.res.kept hg (fun e => by injection e; have := h.lo; omega), h.cv.kept hg (fun e => by injection e; have := h.lo; omega), grown_trans h.gr hg, h.lo⟩
theorem Ss.drew (h : Ss w0 w g n c A l r F s V) : Ss w0 w.drew g n c A l r F s V := ⟨dz_drew h.dz, h.res, h.cv, grown_drew h.gr, h.lo⟩
theorem Ss.set (h : Ss w0 w g n c A l r F s V) (i : Nat) (v : Value) (s' : Sn) (V' : Value) (he : (cells s V).setIfInBounds i v = cells s' V') : Ss w0 (w.setCell ⟨F, i, none⟩ v) g n c A l r F s' V' :=
  ⟨h.dz.grown (set_grown w F i v) (fun e => by injection e; have := h.lo; omega) (fun k hk => by injection hk; have := h.lo; omega),
    h.res.kept (set_grown w F i v) (fun e => by injection e; have := h.lo; omega), Bx.set h.cv i v s' V' he,
    grown_new h.gr (set_grown w F i v) (fun b hb => by injection hb; have := h.lo; omega), h.lo⟩
theorem Ss.next (h : Ss w0 w g n c A l r F s V) (k : Nat) (hk : 1 ≤ k) (hk2 : k ≤ 1000000000) :
    Calls Try.prog 21 #[.pointer (some ⟨g, 0, none⟩), .int .i64 (k : Int)] w fun e w' => ∃ q : Nat, q < k ∧ e = .returned (.int .i64 (q : Int)) ∧ Ss w0 w' g n c A l r F s V ∧ w.grownBy w' (some g) :=
  (h.dz.next k hk hk2).mono fun _ _ ⟨q, hq, he, hd, hg⟩ => ⟨q, hq, he, h.step hd hg, hg⟩
theorem Ss.bool (h : Ss w0 w g n c A l r F s V) (k : Nat) (hk : 1 ≤ k) (hk2 : k ≤ 1000000000) :
    Calls Try.prog 22 #[.pointer (some ⟨g, 0, none⟩), .int .i64 (k : Int)] w fun e w' => ∃ b : Bool, e = .returned (.bool b) ∧ Ss w0 w' g n c A l r F s V ∧ w.grownBy w' (some g) :=
  (h.dz.bool k hk hk2).mono fun _ _ ⟨b, he, hd, hg⟩ => ⟨b, he, h.step hd hg, hg⟩
theorem Ss.byte (h : Ss w0 w g n c A l r F s V) :
    Calls Try.prog 17 #[.pointer (some ⟨g, 0, none⟩)] w fun e w' => ∃ b : UInt8, e = .returned (.int .u8 (b.toNat : Int)) ∧ Ss w0 w' g n c A l r F s V ∧ w.grownBy w' (some g) :=
  (h.dz.byte).mono fun _ _ ⟨b, he, hd, hg⟩ => ⟨b, he, h.step hd hg, hg⟩
end
/-- What the dice's Sensor leaves. -/
def Snd (w : World) (g n c : Nat) (A : Option Addr) (l : List Int) (nu : UInt8) (e : Ending) (w' : World) : Prop :=
  ∃ (s : Sn) (V : Value), e = .returned (.agg (cells s V)) ∧ vs s = true ∧ s.Fit ∧ s.nu = nu ∧ POwn w.heap.size w' V s.c.p ∧ Dz w' g A n c l ∧ w.grownBy w' (some g)
/-- The end: the record stands in the result's block. -/
theorem send {w0 w : World} {g n c r : Nat} {A : Option Addr} {l : List Int} {s : Sn} {V : Value} {a : Act} {nu : UInt8} {p : Tmp} {fn : Func}
    (hf : fn.results = #[.cell p 32]) (hd0 : Dz w g A n c l) (hr : Bx w r s V) (hg0 : w0.grownBy w (some g)) (hv : vs s = true) (hfit : s.Fit) (hnu : s.nu = nu) (ho : POwn w0.heap.size w V s.c.p) (ht : a.tmps.getD p undef = .pointer (some ⟨r, 0, none⟩)) (hd : a.defers = []) :
    bodyPost Try.prog fn (Snd w0 g n c A l nu) .ret a w :=
  bodyPost_ret (results_cell_row hf _ _ r _ _ _ _ ht hr Try.underlying32 rfl (by kernel_rfl)) hd ⟨s, V, rfl, hv, hfit, hnu, ho, hd0, hg0⟩
theorem one_own {w : World} {base : Nat} {V : Value} {p : List Pt} (h : POwn base w V p) : V.oneCell' = true := by
  rcases h.2 with ⟨rfl, _⟩ | ⟨g, cap, cur, rfl, _⟩ <;> rfl
theorem pown_ne {w : World} {base : Nat} {V : Value} {p : List Pt} {r : Nat} {s : Sn} {U : Value} (h : POwn base w V p) (hb : Bx w r s U) : V.ownBlock ≠ some r := by
  intro e
  rcases h.2 with ⟨rfl, _⟩ | ⟨g, cap, cur, rfl, _, hh, _⟩
  · cases e
  · simp only [Value.ownBlock, Option.some.injEq] at e
    subst e
    unfold Bx at hb
    rw [hb] at hh
    injection hh with hh
    injection hh with _ ht
    revert ht
    decide
theorem pown_far {w w' : World} {base r : Nat} {V : Value} {p : List Pt} {s : Sn} {U : Value} (h : POwn base w V p) (hb : Bx w r s U) (hg : w.grownBy w' (some r)) : POwn base w' V p :=
  World.ownsRow.kept h hg (.inr (pown_ne h hb))
theorem txt_chr {t : ByteArray} (h : ∀ x ∈ bl t, x ∈ bl ⟨#[67, 80, 85, 32, 84, 101, 109, 112, 46, 48, 49, 57]⟩) (h1 : 1 ≤ t.size) (h2 : t.size ≤ 16) : okn (bl t) = true := by
  unfold okn
  rw [bl_len, decide_eq_true ⟨h1, h2⟩, Bool.true_and, List.all_eq_true]
  intro x hx
  have := h x hx
  have e : ∀ y ∈ bl ⟨#[67, 80, 85, 32, 84, 101, 109, 112, 46, 48, 49, 57]⟩, chr y = true := by decide +kernel
  exact e x this
theorem bv_clear (P A : BitVec 16) : (A &&& ~~~P) &&& ~~~A = 0#16 := by
  ext i hi
  simp
  intro h1 _
  exact h1
theorem inm_andn (a x : Nat) : inm (andn a x) a = true := by
  unfold inm
  rw [decide_eq_true_eq]
  unfold andn
  have e : BitVec.ofNat 16 (BitVec.ofNat 16 a &&& ~~~BitVec.ofNat 16 x).toNat = BitVec.ofNat 16 a &&& ~~~BitVec.ofNat 16 x := by
    apply BitVec.eq_of_toNat_eq
    rw [BitVec.toNat_ofNat]
    exact Nat.mod_eq_of_lt (BitVec.isLt _)
  rw [e, bv_clear]
  rfl
theorem inm_self (a : Nat) : inm a a = true := by
  unfold inm andn
  simp
/-- A discrete record is valid. -/
theorem vs_dig {nu ty un ei en : UInt8} {nm : ByteArray} {st av dv : Nat} {on : Bool} (h1 : okn (bl nm) = true) (h2 : st ≤ 32767) (h3 : inm av st = true) (h4 : inm dv st = true) :
    vs ⟨nu, ty, un, nm, ei, en, true, C4p.noCv, 0, 0, 0, 0, 0, 0, 0, 0, 0, st, av, dv, on, 1⟩ = true := by
  unfold vs dsc
  rw [h1]
  dsimp only
  rw [h3, h4, decide_eq_true h2]
  rfl
end Go.Proofs.Ytigooekimkkhaaa.Tl
