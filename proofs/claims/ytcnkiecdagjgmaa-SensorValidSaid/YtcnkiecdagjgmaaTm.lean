/- Plain mathematics of the dice's thresholds. Walks: the dice's thresholds. Walks: the dice's sensor records: where a walk stands; what discrete ones are. Walks: the dice's sensor records: the beginning; discrete ones. Walks: the dice's discrete record. Walks: the dice's analog record. -/
import Derived.Test.YtcnkiecdagjgmaaTa
import Derived.Test.YtcnkiecdagjgmaaTl
import Derived.Deep.RegionHeld3
namespace Go.Proofs.Ytcnkiecdagjgmaa.Tm
open Go.Proofs.Ytcnkiecdagjgmaa.Ta Go.Proofs.Ytcnkiecdagjgmaa.C4p
set_option maxRecDepth 100000

def ord (k : Nat) : Nat := [2, 1, 0, 3, 4, 5].getD k 0
theorem ord_lt {k : Nat} (h : k < 6) : ord k < 6 := by
  rcases (show k = 0 ∨ k = 1 ∨ k = 2 ∨ k = 3 ∨ k = 4 ∨ k = 5 by omega) with rfl | rfl | rfl | rfl | rfl | rfl <;> decide
theorem ord_inj {a b : Nat} (ha : a < 6) (hb : b < 6) (h : ord a = ord b) : a = b := by
  have : ∀ a, a < 6 → ∀ b, b < 6 → ord a = ord b → a = b := by decide
  exact this a ha b hb h
structure Inv (sg : Bool) (mx k : Nat) (x : Int) (raw : List UInt8) : Prop where
  len : raw.length = 6
  lo : least sg ≤ x
  hi : x ≤ least sg + 39 + 35 * (k : Int) + (if 3 < k then 1 else 0)
  top : ∀ a, a < k → has mx (ord a) = true → num sg (raw.getD (ord a) 0) + (if a < 3 ∧ 3 < k then 1 else 0) ≤ x
  prs : ∀ a b, a < b → b < k → has mx (ord a) = true → has mx (ord b) = true → num sg (raw.getD (ord a) 0) + (if a < 3 ∧ 3 ≤ b then 1 else 0) ≤ num sg (raw.getD (ord b) 0)
  zer : ∀ a, a < 6 → (k ≤ a ∨ has mx (ord a) = false) → raw.getD (ord a) 0 = 0
theorem getD_set (l : List UInt8) (i j : Nat) (v : UInt8) (hi : i < l.length) : (l.set i v).getD j 0 = if i = j then v else l.getD j 0 := by
  rw [List.getD_eq_getElem?_getD, List.getElem?_set, List.getD_eq_getElem?_getD]
  split
  · subst_vars; first | (rw [if_pos hi]; rfl) | rfl
  · rfl
theorem Inv.start {sg : Bool} {mx : Nat} {x : Int} (h1 : least sg ≤ x) (h2 : x ≤ least sg + 39) : Inv sg mx 0 x [0, 0, 0, 0, 0, 0] := by
  refine ⟨rfl, h1, by simp; omega, fun a h => absurd h (Nat.not_lt_zero _), fun a b _ h => absurd h (Nat.not_lt_zero _), fun a ha _ => ?_⟩
  have := ord_lt ha
  rcases (show ord a = 0 ∨ ord a = 1 ∨ ord a = 2 ∨ ord a = 3 ∨ ord a = 4 ∨ ord a = 5 by omega) with e | e | e | e | e | e <;> rw [e] <;> rfl
/-- The number at hand in round k. -/
def now (k : Nat) (x : Int) : Int := if k = 3 then x + 1 else x
theorem Inv.miss {sg : Bool} {mx k : Nat} {x : Int} {raw : List UInt8} (h : Inv sg mx k x raw) (hk : k < 6) (hb : has mx (ord k) = false) : Inv sg mx (k + 1) (now k x) raw := by
  obtain ⟨h0, h1, h2, h3, h4, h5⟩ := h
  unfold now
  refine ⟨h0, by split <;> omega, ?_, fun a ha hh => ?_, fun a b hab hbk ha hh => ?_, fun a ha hh => ?_⟩
  · by_cases e : k = 3
    · subst e; simp at h2 ⊢; omega
    · rw [if_neg e]
      by_cases e2 : 3 < k
      · rw [if_pos e2] at h2; rw [if_pos (by omega)]; push_cast; omega
      · rw [if_neg e2] at h2; rw [if_neg (by omega)]; push_cast; omega
  · rcases Nat.lt_or_ge a k with g | g
    · have := h3 a g hh
      by_cases e : k = 3
      · subst e
        rw [if_neg (by omega)] at this
        rw [if_pos rfl]
        split <;> omega
      · rw [if_neg e]
        by_cases e2 : a < 3 ∧ 3 < k
        · rw [if_pos e2] at this; rw [if_pos (by omega)]; omega
        · rw [if_neg e2] at this; rw [if_neg (by omega)]; omega
    · obtain rfl : a = k := by omega
      rw [hb] at hh; cases hh
  · rcases Nat.lt_or_ge b k with g | g
    · exact h4 a b hab g ha hh
    · obtain rfl : b = k := by omega
      rw [hb] at hh; cases hh
  · refine h5 a ha ?_
    rcases hh with hh | hh
    · exact .inl (by omega)
    · exact .inr hh
theorem Inv.hit {sg : Bool} {mx k : Nat} {x : Int} {raw : List UInt8} (h : Inv sg mx k x raw) (hk : k < 6) (hb : has mx (ord k) = true) (q : Nat) (hq : q < 36) : Inv sg mx (k + 1) (now k x + (q : Int)) (raw.set (ord k) (rawOf (now k x))) := by
  obtain ⟨h0, h1, h2, h3, h4, h5⟩ := h
  have hlt := ord_lt hk
  have hnl : least sg ≤ now k x ∧ now k x < least sg + 256 ∧ x ≤ now k x := by
    unfold now
    have : (if 3 < k then (1 : Int) else 0) ≤ 1 := by split <;> omega
    split <;> omega
  have hnum : num sg (rawOf (now k x)) = now k x := num_raw hnl.1 hnl.2.1
  have hsame : ∀ a, a < 6 → a ≠ k → (raw.set (ord k) (rawOf (now k x))).getD (ord a) 0 = raw.getD (ord a) 0 := fun a ha hne => by
    rw [getD_set _ _ _ _ (by omega), if_neg (fun e => hne (ord_inj hk ha e).symm)]
  have hown : (raw.set (ord k) (rawOf (now k x))).getD (ord k) 0 = rawOf (now k x) := by
    rw [getD_set _ _ _ _ (by omega), if_pos rfl]
  have hstep : ∀ a, a < k → has mx (ord a) = true → num sg (raw.getD (ord a) 0) + (if a < 3 ∧ 3 ≤ k then 1 else 0) ≤ now k x := fun a ha hh => by
    have := h3 a ha hh
    unfold now
    by_cases e : k = 3
    · subst e
      rw [if_neg (by omega)] at this
      rw [if_pos rfl]
      split <;> omega
    · rw [if_neg e]
      by_cases e2 : a < 3 ∧ 3 < k
      · rw [if_pos e2] at this; rw [if_pos (by omega)]; omega
      · rw [if_neg e2] at this; rw [if_neg (by omega)]; omega
  refine ⟨by rw [List.length_set]; exact h0, by omega, ?_, fun a ha hh => ?_, fun a b hab hbk ha hh => ?_, fun a ha hh => ?_⟩
  · unfold now
    by_cases e : k = 3
    · subst e; simp at h2 ⊢; omega
    · rw [if_neg e]
      by_cases e2 : 3 < k
      · rw [if_pos e2] at h2; rw [if_pos (by omega)]; push_cast; omega
      · rw [if_neg e2] at h2; rw [if_neg (by omega)]; push_cast; omega
  · rcases Nat.lt_or_ge a k with g | g
    · rw [hsame a (by omega) (by omega)]
      have := hstep a g hh
      by_cases e2 : a < 3 ∧ 3 ≤ k
      · rw [if_pos e2] at this; rw [if_pos (by omega)]; omega
      · rw [if_neg e2] at this; rw [if_neg (by omega)]; omega
    · obtain rfl : a = k := by omega
      rw [hown, hnum, if_neg (by omega)]; omega
  · rcases Nat.lt_or_ge b k with g | g
    · rw [hsame a (by omega) (by omega), hsame b (by omega) (by omega)]
      exact h4 a b hab g ha hh
    · obtain rfl : b = k := by omega
      rw [hsame a (by omega) (by omega), hown, hnum]
      exact hstep a hab ha
  · have hak : a ≠ k := fun e => by
      subst e
      rcases hh with hh | hh
      · omega
      · rw [hb] at hh; cases hh
    rw [hsame a ha hak]
    refine h5 a ha ?_
    rcases hh with hh | hh
    · exact .inl (by omega)
    · exact .inr hh
theorem Inv.fin {sg : Bool} {mx : Nat} {x : Int} {raw : List UInt8} (h : Inv sg mx 6 x raw) (hm : mx ≤ 63) : lims sg mx raw = true := by
  obtain ⟨h0, h1, h2, h3, h4, h5⟩ := h
  unfold lims Ta.zer ordd
  rw [decide_eq_true hm, Bool.true_and, Bool.and_eq_true]
  have pos : ∀ i, i < 6 → ∃ a, a < 6 ∧ ord a = i ∧ (i < 3 → a = 2 - i) ∧ (3 ≤ i → a = i) := by
    intro i hi
    rcases (show i = 0 ∨ i = 1 ∨ i = 2 ∨ i = 3 ∨ i = 4 ∨ i = 5 by omega) with rfl | rfl | rfl | rfl | rfl | rfl
    · exact ⟨2, by omega, rfl, by omega, by omega⟩
    · exact ⟨1, by omega, rfl, by omega, by omega⟩
    · exact ⟨0, by omega, rfl, by omega, by omega⟩
    · exact ⟨3, by omega, rfl, by omega, by omega⟩
    · exact ⟨4, by omega, rfl, by omega, by omega⟩
    · exact ⟨5, by omega, rfl, by omega, by omega⟩
  constructor
  · simp only [List.all_eq_true, List.mem_range, Bool.or_eq_true, decide_eq_true_eq]
    intro i hi
    obtain ⟨a, ha, rfl, -, -⟩ := pos i hi
    cases hh : has mx (ord a) with
    | true => exact .inl rfl
    | false => exact .inr (h5 a ha (.inr hh))
  · simp only [List.all_eq_true, List.mem_range]
    intro j hj i hi
    obtain ⟨b, hb, rfl, pb1, pb2⟩ := pos j hj
    obtain ⟨a, ha, rfl, pa1, pa2⟩ := pos i (by omega)
    unfold pair
    cases hha : has mx (ord a)
    · rfl
    cases hhb : has mx (ord b)
    · rfl
    simp only [Bool.and_self, Bool.true_and, Bool.not_not]
    unfold fol
    by_cases q1 : ord b ≤ 2
    · rw [if_pos q1, decide_eq_true_eq]
      have e1 := pb1 (by omega)
      have e2 := pa1 (by omega)
      have := h4 b a (by omega) ha hhb hha
      rw [if_neg (by omega)] at this
      omega
    · rw [if_neg q1]
      have e1 := pb2 (by omega)
      by_cases q2 : 3 ≤ ord a
      · rw [if_pos q2, decide_eq_true_eq]
        have e2 := pa2 q2
        have := h4 a b (by omega) hb hha hhb
        rw [if_neg (by omega)] at this
        omega
      · rw [if_neg q2, decide_eq_true_eq]
        have e2 := pa1 (by omega)
        have := h4 a b (by omega) hb hha hhb
        rw [if_pos (by omega)] at this
        omega
end Go.Proofs.Ytcnkiecdagjgmaa.Tm
namespace Go.Proofs.Ytcnkiecdagjgmaa.Tl
open Go.RowKit Go.Proofs.Ytcnkiecdagjgmaa.Mem Go.Proofs.Ytcnkiecdagjgmaa.F2p Go.Proofs.Ytcnkiecdagjgmaa.Made Go.Proofs.Ytcnkiecdagjgmaa.C4l Go.Proofs.Ytcnkiecdagjgmaa.D5 Go.Proofs.Ytcnkiecdagjgmaa.Ta Go.Proofs.Ytcnkiecdagjgmaa.Tb Go.Proofs.Ytcnkiecdagjgmaa.Tm
set_option maxRecDepth 100000
set_option maxHeartbeats 1000000

/-- Thresholds at a block: the mask, and the raw readings. -/
def Tx (w : World) (r : Nat) (mx : UInt8) (raw : List UInt8) : Prop := w.heap[r]? = some (.cells (bvs (mx :: raw)).toArray 29 (0, 0))
section
variable {w w' : World} {r : Nat} {mx : UInt8} {raw : List UInt8}
theorem Tx.kept (h : Tx w r mx raw) {b : Option Nat} (hg : w.grownBy w' b) (hne : some r ≠ b) : Tx w' r mx raw := (hg.block r (lt_of_some h) hne).trans h
theorem Tx.c0 (h : Tx w r mx raw) : w.cell? ⟨r, 0, none⟩ = some (.int .u8 (mx.toNat : Int)) := cell_of_row w r 0 _ _ _ h
theorem Tx.fz (h : Tx w r mx raw) (i : Nat) : w.frozen? ⟨r, i, none⟩ = false := frozen_of_row w r i _ _ h
theorem Tx.there (h : Tx w r mx raw) {i : Nat} (hi : i < raw.length) : ∃ u, w.cell? ⟨r, 1 + i, none⟩ = some u := by
  rw [cell_of_row w r (1 + i) _ _ _ h]
  refine ⟨bv raw[i], ?_⟩
  rw [List.getElem?_toArray, bvs, List.getElem?_map, Nat.add_comm 1 i, List.getElem?_cons_succ, List.getElem?_eq_getElem hi]
  rfl
theorem Tx.set (h : Tx w r mx raw) (i : Nat) (v : UInt8) : Tx (w.setCell ⟨r, 1 + i, none⟩ (.int .u8 (v.toNat : Int))) r mx (raw.set i v) := by
  have := heap_setCell_same w r (1 + i) _ _ (.int .u8 (v.toNat : Int)) h
  unfold Tx
  rw [this]
  congr 2
  rw [List.setIfInBounds_toArray]
  congr 1
  unfold bvs
  rw [Nat.add_comm 1 i, List.map_cons, List.map_cons, List.set_cons_succ, List.map_set]
  rfl
end
/-- What the dice's thresholds leave. -/
def Thd (sg : Bool) (w : World) (g n c : Nat) (A : Option Addr) (l : List Int) (e : Ending) (w' : World) : Prop := ∃ mx r0 r1 r2 r3 r4 r5 : UInt8, e = .returned (.agg #[.int .u8 (mx.toNat : Int), .int .u8 (r0.toNat : Int), .int .u8 (r1.toNat : Int), .int .u8 (r2.toNat : Int), .int .u8 (r3.toNat : Int), .int .u8 (r4.toNat : Int), .int .u8 (r5.toNat : Int)]) ∧
  lims sg mx.toNat [r0, r1, r2, r3, r4, r5] = true ∧ Dz w' g A n c l ∧ w.grownBy w' (some g)
/-- Where a walk of the thresholds stands. r: the result's block, F: the thresholds' block, O: the order's. -/
structure Tt (w0 w : World) (g n c : Nat) (A : Option Addr) (l : List Int) (r F O : Nat) (mx : UInt8) (raw : List UInt8) : Prop where
  dz : Dz w g A n c l
  res : w.heap[r]? = some (.cells #[.int .u8 0, .int .u8 0, .int .u8 0, .int .u8 0, .int .u8 0, .int .u8 0, .int .u8 0] 29 (0, 0))
  tx : Tx w F mx raw
  od : w.heap[O]? = some (.cells #[.int .i64 2, .int .i64 1, .int .i64 0, .int .i64 3, .int .i64 4, .int .i64 5] 57 (0, 0))
  gr : w0.grownBy w (some g)
  lo : w0.heap.size ≤ r ∧ r < F ∧ F < O ∧ g < w0.heap.size
section
variable {w0 w w' : World} {g n c r F O : Nat} {A : Option Addr} {l : List Int} {mx : UInt8} {raw : List UInt8}
theorem Tt.step (h : Tt w0 w g n c A l r F O mx raw) (hd : Dz w' g A n c l) (hg : w.grownBy w' (some g)) : Tt w0 w' g n c A l r F O mx raw :=
  ⟨hd, (hg.block r (lt_of_some h.res) (fun e => by injection e; have := h.lo; omega)).trans h.res, h.tx.kept hg (fun e => by injection e; have := h.lo; omega), (hg.block O (lt_of_some h.od) (fun e => by injection e; have := h.lo; omega)).trans h.od, grown_trans h.gr hg, h.lo⟩
theorem Tt.drew (h : Tt w0 w g n c A l r F O mx raw) : Tt w0 w.drew g n c A l r F O mx raw := ⟨dz_drew h.dz, h.res, h.tx, h.od, grown_drew h.gr, h.lo⟩
theorem Tt.drewN (h : Tt w0 w g n c A l r F O mx raw) (k : Nat) : Tt w0 (w.drewN k) g n c A l r F O mx raw := by
  obtain ⟨a, ha, hd⟩ := h.dz.at_
  exact ⟨⟨h.dz.len, h.dz.bnd, h.dz.few, Rd.drewN h.dz.row k, a, ha, hd⟩, h.res, h.tx, h.od, grown_drewN h.gr k, h.lo⟩
theorem Tt.set (h : Tt w0 w g n c A l r F O mx raw) (i : Nat) (v : UInt8) : Tt w0 (w.setCell ⟨F, 1 + i, none⟩ (.int .u8 (v.toNat : Int))) g n c A l r F O mx (raw.set i v) :=
  ⟨h.dz.grown (set_grown w F (1 + i) _) (fun e => by injection e; have := h.lo; omega) (fun k hk => by injection hk; have := h.lo; omega),
    (heap_setCell_other w ⟨F, 1 + i, none⟩ r _ (fun e => by have := h.lo; simp at e; omega)).trans h.res, h.tx.set i v,
    (heap_setCell_other w ⟨F, 1 + i, none⟩ O _ (fun e => by have := h.lo; simp at e; omega)).trans h.od,
    grown_new h.gr (set_grown w F (1 + i) _) (fun b hb => by injection hb; have := h.lo; omega), h.lo⟩
theorem Tt.ordc (h : Tt w0 w g n c A l r F O mx raw) {k : Nat} (hk : k < 6) : w.cell? ⟨O, k, none⟩ = some (.int .i64 ((ord k : Nat) : Int)) := by
  rw [cell_of_row w O k _ _ _ h.od]
  rcases (show k = 0 ∨ k = 1 ∨ k = 2 ∨ k = 3 ∨ k = 4 ∨ k = 5 by omega) with rfl | rfl | rfl | rfl | rfl | rfl <;> rfl
end
theorem one_th (mx r0 r1 r2 r3 r4 r5 : UInt8) : (#[.int .u8 (mx.toNat : Int), .int .u8 (r0.toNat : Int), .int .u8 (r1.toNat : Int), .int .u8 (r2.toNat : Int), .int .u8 (r3.toNat : Int), .int .u8 (r4.toNat : Int), .int .u8 (r5.toNat : Int)] : Array Value).all (·.oneCell') = true := by
  rw [← Array.all_toList]
  rfl
theorem six (l : List UInt8) (h : l.length = 6) : ∃ a b c d e f, l = [a, b, c, d, e, f] := by
  match l, h with
  | [a, b, c, d, e, f], _ => exact ⟨a, b, c, d, e, f, rfl⟩
theorem thr_any {w : World} {g n c : Nat} {A : Option Addr} {l : List Int} (sg : Bool) (h : Dz w g A n c l) :
    Calls Try.prog 81 #[.pointer (some ⟨g, 0, none⟩), .bool sg] w (Thd sg w g n c A l) := by
  have hlt := h.lt
  have hal0 := World.grownBy_alloc w (.cells #[.int .u8 0, .int .u8 0, .int .u8 0, .int .u8 0, .int .u8 0, .int .u8 0, .int .u8 0] 29) (some g)
  have hd0 := h.grown (World.grownBy_alloc w (.cells #[.int .u8 0, .int .u8 0, .int .u8 0, .int .u8 0, .int .u8 0, .int .u8 0, .int .u8 0] 29) none) (by simp) (fun k hk => by cases hk)
  have hst0 : (w.alloc (.cells #[.int .u8 0, .int .u8 0, .int .u8 0, .int .u8 0, .int .u8 0, .int .u8 0, .int .u8 0] 29)).heap[w.heap.size]? = some (.cells #[.int .u8 0, .int .u8 0, .int .u8 0, .int .u8 0, .int .u8 0, .int .u8 0, .int .u8 0] 29 (0, 0)) := heap_alloc_new w _
  clear h
  go_enter Try.func81, Try.ntmps81
  go_wp2_with fail
  refine (hd0.next 64 (by omega) (by omega)).mono ?_
  rintro e w2 ⟨q, hq, rfl, hd2, hg2⟩
  have hst2 := (hg2.block w.heap.size (lt_of_some hst0) (fun e => by injection e; omega)).trans hst0
  have hgw2 := grown_trans hal0 hg2
  obtain ⟨mx, hmx⟩ := u8_int q (by omega)
  have hm63 : mx.toNat ≤ 63 := by omega
  clear hd0 hal0 hst0 hg2
  have HMX := Lib.hid hmx
  clear hmx
  go_wp2_with fail
  have htx : Tx (w2.alloc (.cells #[.int .u8 (q : Int), .int .u8 0, .int .u8 0, .int .u8 0, .int .u8 0, .int .u8 0, .int .u8 0] 29)) w2.heap.size mx [0, 0, 0, 0, 0, 0] := by
    unfold Tx
    rw [heap_alloc_new, HMX.out]
    rfl
  have hd3 := hd2.grown (World.grownBy_alloc w2 (.cells #[.int .u8 (q : Int), .int .u8 0, .int .u8 0, .int .u8 0, .int .u8 0, .int .u8 0, .int .u8 0] 29) none) (by simp) (fun k hk => by cases hk)
  have hst3 := (heap_alloc_old w2 (.cells #[.int .u8 (q : Int), .int .u8 0, .int .u8 0, .int .u8 0, .int .u8 0, .int .u8 0, .int .u8 0] 29) (lt_of_some hst2)).trans hst2
  have hgw3 := grown_trans hgw2 (World.grownBy_alloc w2 (.cells #[.int .u8 (q : Int), .int .u8 0, .int .u8 0, .int .u8 0, .int .u8 0, .int .u8 0, .int .u8 0] 29) (some g))
  have hF := lt_of_some hst2
  refine (C4v.least_r sg _).mono ?_
  rintro e w' ⟨rfl, rfl⟩
  have hL1 := C4p.num_in sg 0
  have hL2 : -128 ≤ C4p.least sg ∧ C4p.least sg ≤ 0 := by unfold C4p.least; split <;> omega
  generalize w2.alloc (.cells #[.int .u8 (q : Int), .int .u8 0, .int .u8 0, .int .u8 0, .int .u8 0, .int .u8 0, .int .u8 0] 29) = w3 at *
  generalize w2.heap.size = F at *
  clear hd2 hst2 hgw2 hL1
  go_wp2_with fail
  refine (hd3.next 40 (by omega) (by omega)).mono ?_
  rintro e w4 ⟨q2, hq2, rfl, hd4, hg4⟩
  have hst4 := (hg4.block w.heap.size (lt_of_some hst3) (fun e => by injection e; omega)).trans hst3
  have htx4 := htx.kept hg4 (fun e => by injection e; omega)
  have hgw4 := grown_trans hgw3 hg4
  have hO := lt_of_some htx4
  clear hd3 hst3 htx hg4 hgw3
  have hT : Tt w (w4.alloc (.cells #[.int .i64 2, .int .i64 1, .int .i64 0, .int .i64 3, .int .i64 4, .int .i64 5] 57)) g n c A l w.heap.size F w4.heap.size mx [0, 0, 0, 0, 0, 0] :=
    ⟨hd4.grown (World.grownBy_alloc w4 _ none) (by simp) (fun k hk => by cases hk), (heap_alloc_old w4 _ (lt_of_some hst4)).trans hst4, (heap_alloc_old w4 _ hO).trans htx4, heap_alloc_new w4 _, grown_trans hgw4 (World.grownBy_alloc w4 _ (some g)), Nat.le_refl _, hF, hO, hlt⟩
  have hI : Inv sg mx.toNat 0 (C4p.least sg + (q2 : Int)) [0, 0, 0, 0, 0, 0] := Inv.start (by omega) (by omega)
  clear hd4 hst4 htx4 hgw4
  go_wp2_with fail
  generalize w4.alloc (.cells #[.int .i64 2, .int .i64 1, .int .i64 0, .int .i64 3, .int .i64 4, .int .i64 5] 57) = w5 at *
  generalize w4.heap.size = O at *
  generalize hx0 : C4p.least sg + (q2 : Int) = x0 at *
  clear hx0 hO hq hq2 HMX
  go_loopw [6, 8] (fun vx vk wr => ∃ (k : Nat) (x : Int) (raw : List UInt8), k ≤ 6 ∧ vk = .int .i64 (k : Int) ∧ vx = .int .i64 x ∧ Tt w wr g n c A l w.heap.size F O mx raw ∧ Inv sg mx.toNat k x raw) (fun _ vk _ => 6 - (intOf vk).toNat)
  case atStart => exact ⟨0, x0, _, by omega, rfl, rfl, hT, hI⟩
  case round =>
    clear hT hI
    obtain ⟨k, x, raw, hk, rfl, rfl, hT, hI⟩ := hrel
    have hlo := hI.lo
    have hhi : x ≤ C4p.least sg + 39 + 35 * (k : Int) + 1 := by
      have h1 := hI.hi
      have h2 : (if 3 < k then (1 : Int) else 0) ≤ 1 := by split <;> omega
      omega
    by_cases hk6 : k < 6
    · have hmiss := hI.miss hk6
      have hhit := hI.hit hk6
      have hlen := hI.len
      have hol := ord_lt hk6
      have hco := hT.ordc hk6
      have hcx : (if k = 3 then x + 1 else x) = now k x := rfl
      have hnx : x ≤ now k x ∧ now k x ≤ x + 1 := by unfold now; split <;> omega
      have HT := hT.drew
      obtain ⟨bh, hbh⟩ : ∃ bh, bh = has mx.toNat (ord k) := ⟨_, rfl⟩
      have HH := Lib.hid fun (u : World) => by have := has_r mx.toNat (ord k) (by omega) (by omega) u; rw [← hbh] at this; exact this
      rw [← hbh] at hmiss hhit
      have HM := Lib.hid hmiss
      have HI := Lib.hid hhit
      have HL := Lib.hid hlen
      clear hbh hmiss hhit hlen hI hcx
      generalize hod : ord k = o at *
      have HOD := Lib.hid hod
      clear hod
      by_cases h3 : k = 3
      · as_aux_lemma =>
        have hnow : now k x = x + 1 := by unfold now; rw [if_pos h3]
        rw [hnow] at HI HM hnx
        subst h3
        clear hnow
        have hm0 := hT.tx.c0
        have kk6 : (3 : Int) < 6 := by omega
        go_wp2_with fail
        go_quiet ((go_at_call 76; exact quiet_same (HH.out _)))
        all_goals
          cases bh
          · go_wp2_with fail
            exact ⟨⟨3 + 1, x + 1, raw, by omega, by first | rfl | go_num, rfl, hT.drewN _, HM.out rfl⟩, by simp [intOf]; try omega⟩
          · go_wp2_with fail
            have HT1 := (hT.drewN nq).drew
            obtain ⟨uu, hcF⟩ := HT1.tx.there (i := o) (by rw [HL.out]; exact hol)
            have hfF := HT1.tx.fz (1 + o)
            have hcF2 : (wr.drewN (nq + 1)).cell? ⟨F, 1 + o, none⟩ = some uu := hcF
            have hfF2 : (wr.drewN (nq + 1)).frozen? ⟨F, 1 + o, none⟩ = false := hfF
            have KEEP1 := Lib.hid (by have := HT1.ordc (k := 3) (by omega); rw [HOD.out] at this; exact this)
            have KEEP2 := Lib.hid (by have := (HT1.set o (C4p.rawOf (x + 1))).ordc (k := 3) (by omega); rw [HOD.out] at this; exact this)
            have hio : (o : Int) < 6 := by omega
            have hio0 : (0 : Int) ≤ (o : Int) := by omega
            have kk6 : (3 : Int) < 6 := by omega
            have HR := Lib.hid fun (u : World) => C4v.raw_r (x + 1) u (by omega) (by omega)
            go_region_held3 (fun V => V.cell? ⟨O, 3, none⟩ = some (.int .i64 ((o : Nat) : Int))) (first | exact KEEP1.out | exact KEEP2.out)
              (first
                | (go_at_call 117; (with_reducible refine (HR.out _).mono ?_); rintro e w2 ⟨rfl, rfl⟩))
            have HT2 := (hT.drewN (nq + 1)).set o (C4p.rawOf (x + 1))
            have HN := Lib.hid (HT2.dz.next 36 (by omega) (by omega))
            clear hcF hfF hcF2 hfF2 HT1 hT hio hio0
            go_wp2_with fail
            refine HN.out.mono ?_
            rintro e w7 ⟨q7, hq7, rfl, hd7, hg7⟩
            have HT3 := HT2.step hd7 hg7
            go_wp2_with fail
            exact ⟨⟨3 + 1, x + 1 + (q7 : Int), raw.set o (C4p.rawOf (x + 1)), by omega, by first | rfl | go_num, vi (by omega), HT3, HI.out (by first | rfl | trivial) q7 hq7⟩, by simp [intOf]; try omega⟩
      · as_aux_lemma =>
        have hnow : now k x = x := by unfold now; rw [if_neg h3]
        rw [hnow] at HI HM hnx
        have h3' : ((k : Int) == 3) = false := by rw [beq_eq_false_iff_ne]; omega
        clear hnow h3
        have hm0 := hT.tx.c0
        have kk6 : (k : Int) < 6 := by omega
        go_wp2_with fail
        go_quiet ((go_at_call 76; exact quiet_same (HH.out _)))
        all_goals
          cases bh
          · go_wp2_with fail
            exact ⟨⟨k + 1, x, raw, by omega, by first | rfl | go_num, rfl, hT.drewN _, HM.out rfl⟩, by simp [intOf]; try omega⟩
          · go_wp2_with fail
            have HT1 := (hT.drewN nq).drew
            obtain ⟨uu, hcF⟩ := HT1.tx.there (i := o) (by rw [HL.out]; exact hol)
            have hfF := HT1.tx.fz (1 + o)
            have hcF2 : (wr.drewN (nq + 1)).cell? ⟨F, 1 + o, none⟩ = some uu := hcF
            have hfF2 : (wr.drewN (nq + 1)).frozen? ⟨F, 1 + o, none⟩ = false := hfF
            have KEEP1 := Lib.hid (by have := HT1.ordc (k := k) (by omega); rw [HOD.out] at this; exact this)
            have KEEP2 := Lib.hid (by have := (HT1.set o (C4p.rawOf (x))).ordc (k := k) (by omega); rw [HOD.out] at this; exact this)
            have hio : (o : Int) < 6 := by omega
            have hio0 : (0 : Int) ≤ (o : Int) := by omega
            have kk6 : (k : Int) < 6 := by omega
            have HR := Lib.hid fun (u : World) => C4v.raw_r (x) u (by omega) (by omega)
            go_region_held3 (fun V => V.cell? ⟨O, k, none⟩ = some (.int .i64 ((o : Nat) : Int))) (first | exact KEEP1.out | exact KEEP2.out)
              (first
                | (go_at_call 117; (with_reducible refine (HR.out _).mono ?_); rintro e w2 ⟨rfl, rfl⟩))
            have HT2 := (hT.drewN (nq + 1)).set o (C4p.rawOf (x))
            have HN := Lib.hid (HT2.dz.next 36 (by omega) (by omega))
            clear hcF hfF hcF2 hfF2 HT1 hT hio hio0
            go_wp2_with fail
            refine HN.out.mono ?_
            rintro e w7 ⟨q7, hq7, rfl, hd7, hg7⟩
            have HT3 := HT2.step hd7 hg7
            go_wp2_with fail
            exact ⟨⟨k + 1, x + (q7 : Int), raw.set o (C4p.rawOf (x)), by omega, by first | rfl | go_num, vi (by omega), HT3, HI.out (by first | rfl | trivial) q7 hq7⟩, by simp [intOf]; try omega⟩
    · obtain rfl : k = 6 := by omega
      have hfin := hI.fin hm63
      have hlen := hI.len
      obtain ⟨r0, r1, r2, r3, r4, r5, rfl⟩ := six raw hlen
      have hth : Th wr F mx r0 r1 r2 r3 r4 r5 := hT.tx
      obtain ⟨c0, c1, c2, c3, c4, c5, c6⟩ := hth.cells
      have hres := hT.res
      clear hlen hI
      go_wp2_with (refine wpList_store_row rfl _ (.tmp 4) (.tmp 45) rfl w.heap.size #[.int .u8 (mx.toNat : Int), .int .u8 (r0.toNat : Int), .int .u8 (r1.toNat : Int), .int .u8 (r2.toNat : Int), .int .u8 (r3.toNat : Int), .int .u8 (r4.toNat : Int), .int .u8 (r5.toNat : Int)] rfl rfl _ _ hres (by kernel_rfl) rfl (one_th mx r0 r1 r2 r3 r4 r5) ?_; refine Hid.out ?_)
      refine Lib.hid ?_
      have hrow := setRow_heap wr w.heap.size _ #[.int .u8 (mx.toNat : Int), .int .u8 (r0.toNat : Int), .int .u8 (r1.toNat : Int), .int .u8 (r2.toNat : Int), .int .u8 (r3.toNat : Int), .int .u8 (r4.toNat : Int), .int .u8 (r5.toNat : Int)] _ _ hres
      have hgr : wr.grownBy (wr.setRow w.heap.size #[.int .u8 (mx.toNat : Int), .int .u8 (r0.toNat : Int), .int .u8 (r1.toNat : Int), .int .u8 (r2.toNat : Int), .int .u8 (r3.toNat : Int), .int .u8 (r4.toNat : Int), .int .u8 (r5.toNat : Int)]) (some w.heap.size) := ⟨rfl, rfl, rfl, by simp, fun k _ hk => setRow_other wr w.heap.size k _ (fun he => hk (by rw [he]))⟩
      have hd6 := hT.dz.grown hgr (fun e => by injection e; omega) (fun k hk => by injection hk; omega)
      have hg6 := grown_new hT.gr hgr (fun b hb => by injection hb; omega)
      have P := Lib.hid (And.intro hrow (And.intro hd6 hg6))
      clear hrow hgr hd6 hg6 hT hth hres
      go_wp2_with fail
      exact bodyPost_ret (results_cell_row Try.results81 _ _ w.heap.size _ _ _ _ rfl P.out.1 Try.underlying29 rfl (by kernel_rfl)) rfl ⟨mx, r0, r1, r2, r3, r4, r5, rfl, hfin, P.out.2.1, P.out.2.2⟩
end Go.Proofs.Ytcnkiecdagjgmaa.Tl
namespace Go.Proofs.Ytcnkiecdagjgmaa.Tb
open Go.RowKit Go.Proofs.Ytcnkiecdagjgmaa.Mem Go.Proofs.Ytcnkiecdagjgmaa.Ta
theorem Bx.kept {w w' : World} {r : Nat} {s : Sn} {V : Value} (h : Bx w r s V) {b : Option Nat} (hg : w.grownBy w' b) (hne : some r ≠ b) : Bx w' r s V := (hg.block r h.lt hne).trans h
theorem Bx.set {w : World} {F : Nat} {s : Sn} {V : Value} (h : Bx w F s V) (i : Nat) (v : Value) (s' : Sn) (V' : Value) (he : (cells s V).setIfInBounds i v = cells s' V') : Bx (w.setCell ⟨F, i, none⟩ v) F s' V' := by
  unfold Bx
  rw [← he]
  exact heap_setCell_same w F i _ _ v h
end Go.Proofs.Ytcnkiecdagjgmaa.Tb
namespace Go.Proofs.Ytcnkiecdagjgmaa.Tl
open Go.RowKit Go.Proofs.Ytcnkiecdagjgmaa.Mem Go.Proofs.Ytcnkiecdagjgmaa.F2p Go.Proofs.Ytcnkiecdagjgmaa.Made Go.Proofs.Ytcnkiecdagjgmaa.C4l Go.Proofs.Ytcnkiecdagjgmaa.D5 Go.Proofs.Ytcnkiecdagjgmaa.Ta Go.Proofs.Ytcnkiecdagjgmaa.Tb
set_option maxRecDepth 100000
set_option maxHeartbeats 1000000

/-- Where a walk of the dice's records stands. r: the result's block, F: the record's. -/
structure Ss (w0 w : World) (g n c : Nat) (A : Option Addr) (l : List Int) (r F : Nat) (s : Sn) (V : Value) : Prop where
  dz : Dz w g A n c l
  res : Bx w r noSn (.slice none 0 0)
  cv : Bx w F s V
  gr : w0.grownBy w (some g)
  lo : w0.heap.size ≤ r ∧ r < F ∧ g < w0.heap.size
section
variable {w0 w w' : World} {g n c r F : Nat} {A : Option Addr} {l : List Int} {s : Sn} {V : Value}
theorem Ss.step (h : Ss w0 w g n c A l r F s V) (hd : Dz w' g A n c l) (hg : w.grownBy w' (some g)) : Ss w0 w' g n c A l r F s V :=
  ⟨hd, h.res.kept hg (fun e => by injection e; have := h.lo; omega), h.cv.kept hg (fun e => by injection e; have := h.lo; omega), grown_trans h.gr hg, h.lo⟩
theorem Ss.drew (h : Ss w0 w g n c A l r F s V) : Ss w0 w.drew g n c A l r F s V := ⟨dz_drew h.dz, h.res, h.cv, grown_drew h.gr, h.lo⟩
theorem Ss.set (h : Ss w0 w g n c A l r F s V) (i : Nat) (v : Value) (s' : Sn) (V' : Value) (he : (cells s V).setIfInBounds i v = cells s' V') : Ss w0 (w.setCell ⟨F, i, none⟩ v) g n c A l r F s' V' :=
  ⟨h.dz.grown (set_grown w F i v) (fun e => by injection e; have := h.lo; omega) (fun k hk => by injection hk; have := h.lo; omega),
    h.res.kept (set_grown w F i v) (fun e => by injection e; have := h.lo; omega), Bx.set h.cv i v s' V' he,
    grown_new h.gr (set_grown w F i v) (fun b hb => by injection hb; have := h.lo; omega), h.lo⟩
theorem Ss.next (h : Ss w0 w g n c A l r F s V) (k : Nat) (hk : 1 ≤ k) (hk2 : k ≤ 1000000000) :
    Calls Try.prog 39 #[.pointer (some ⟨g, 0, none⟩), .int .i64 (k : Int)] w fun e w' => ∃ q : Nat, q < k ∧ e = .returned (.int .i64 (q : Int)) ∧ Ss w0 w' g n c A l r F s V ∧ w.grownBy w' (some g) :=
  (h.dz.next k hk hk2).mono fun _ _ ⟨q, hq, he, hd, hg⟩ => ⟨q, hq, he, h.step hd hg, hg⟩
theorem Ss.bool (h : Ss w0 w g n c A l r F s V) (k : Nat) (hk : 1 ≤ k) (hk2 : k ≤ 1000000000) :
    Calls Try.prog 40 #[.pointer (some ⟨g, 0, none⟩), .int .i64 (k : Int)] w fun e w' => ∃ b : Bool, e = .returned (.bool b) ∧ Ss w0 w' g n c A l r F s V ∧ w.grownBy w' (some g) :=
  (h.dz.bool k hk hk2).mono fun _ _ ⟨b, he, hd, hg⟩ => ⟨b, he, h.step hd hg, hg⟩
theorem Ss.byte (h : Ss w0 w g n c A l r F s V) :
    Calls Try.prog 35 #[.pointer (some ⟨g, 0, none⟩)] w fun e w' => ∃ b : UInt8, e = .returned (.int .u8 (b.toNat : Int)) ∧ Ss w0 w' g n c A l r F s V ∧ w.grownBy w' (some g) :=
  (h.dz.byte).mono fun _ _ ⟨b, he, hd, hg⟩ => ⟨b, he, h.step hd hg, hg⟩
end
/-- What the dice's Sensor leaves. -/
def Snd (w : World) (g n c : Nat) (A : Option Addr) (l : List Int) (nu : UInt8) (e : Ending) (w' : World) : Prop :=
  ∃ (s : Sn) (V : Value), e = .returned (.agg (cells s V)) ∧ vs s = true ∧ s.Fit ∧ s.nu = nu ∧ POwn w.heap.size w' V s.c.p ∧ Dz w' g A n c l ∧ w.grownBy w' (some g)
/-- The end: the record stands in the result's block. -/
theorem send {w0 w : World} {g n c r : Nat} {A : Option Addr} {l : List Int} {s : Sn} {V : Value} {a : Act} {nu : UInt8} {p : Tmp} {fn : Func}
    (hf : fn.results = #[.cell p 32]) (hd0 : Dz w g A n c l) (hr : Bx w r s V) (hg0 : w0.grownBy w (some g)) (hv : vs s = true) (hfit : s.Fit) (hnu : s.nu = nu) (ho : POwn w0.heap.size w V s.c.p) (ht : a.tmps.getD p undef = .pointer (some ⟨r, 0, none⟩)) (hd : a.defers = []) :
    bodyPost Try.prog fn (Snd w0 g n c A l nu) .ret a w :=
  bodyPost_ret (results_cell_row hf _ _ r _ _ _ _ ht hr Try.underlying32 rfl (by kernel_rfl)) hd ⟨s, V, rfl, hv, hfit, hnu, ho, hd0, hg0⟩
theorem one_own {w : World} {base : Nat} {V : Value} {p : List Pt} (h : POwn base w V p) : V.oneCell' = true := by
  rcases h.2 with ⟨rfl, _⟩ | ⟨g, cap, cur, rfl, _⟩ <;> rfl
theorem pown_ne {w : World} {base : Nat} {V : Value} {p : List Pt} {r : Nat} {s : Sn} {U : Value} (h : POwn base w V p) (hb : Bx w r s U) : V.ownBlock ≠ some r := by
  intro e
  rcases h.2 with ⟨rfl, _⟩ | ⟨g, cap, cur, rfl, _, hh, _⟩
  · cases e
  · simp only [Value.ownBlock, Option.some.injEq] at e
    subst e
    unfold Bx at hb
    rw [hb] at hh
    injection hh with hh
    injection hh with _ ht
    revert ht
    decide
theorem pown_far {w w' : World} {base r : Nat} {V : Value} {p : List Pt} {s : Sn} {U : Value} (h : POwn base w V p) (hb : Bx w r s U) (hg : w.grownBy w' (some r)) : POwn base w' V p :=
  World.ownsRow.kept h hg (.inr (pown_ne h hb))
theorem txt_chr {t : ByteArray} (h : ∀ x ∈ bl t, x ∈ bl ⟨#[67, 80, 85, 32, 84, 101, 109, 112, 46, 48, 49, 57]⟩) (h1 : 1 ≤ t.size) (h2 : t.size ≤ 16) : okn (bl t) = true := by
  unfold okn
  rw [bl_len, decide_eq_true ⟨h1, h2⟩, Bool.true_and, List.all_eq_true]
  intro x hx
  have := h x hx
  have e : ∀ y ∈ bl ⟨#[67, 80, 85, 32, 84, 101, 109, 112, 46, 48, 49, 57]⟩, chr y = true := by decide +kernel
  exact e x this
theorem bv_clear (P A : BitVec 16) : (A &&& ~~~P) &&& ~~~A = 0#16 := by
  ext i hi
  simp
  intro h1 _
  exact h1
theorem inm_andn (a x : Nat) : inm (andn a x) a = true := by
  unfold inm
  rw [decide_eq_true_eq]
  unfold andn
  have e : BitVec.ofNat 16 (BitVec.ofNat 16 a &&& ~~~BitVec.ofNat 16 x).toNat = BitVec.ofNat 16 a &&& ~~~BitVec.ofNat 16 x := by
    apply BitVec.eq_of_toNat_eq
    rw [BitVec.toNat_ofNat]
    exact Nat.mod_eq_of_lt (BitVec.isLt _)
  rw [e, bv_clear]
  rfl
theorem inm_self (a : Nat) : inm a a = true := by
  unfold inm andn
  simp
/-- A discrete record is valid. -/
theorem vs_dig {nu ty un ei en : UInt8} {nm : ByteArray} {st av dv : Nat} {on : Bool} (h1 : okn (bl nm) = true) (h2 : st ≤ 32767) (h3 : inm av st = true) (h4 : inm dv st = true) :
    vs ⟨nu, ty, un, nm, ei, en, true, C4p.noCv, 0, 0, 0, 0, 0, 0, 0, 0, 0, st, av, dv, on, 1⟩ = true := by
  unfold vs dsc
  rw [h1]
  dsimp only
  rw [h3, h4, decide_eq_true h2]
  rfl
end Go.Proofs.Ytcnkiecdagjgmaa.Tl
namespace Go.Proofs.Ytcnkiecdagjgmaa.Tl
open Go.RowKit Go.Proofs.Ytcnkiecdagjgmaa.Mem Go.Proofs.Ytcnkiecdagjgmaa.F2p Go.Proofs.Ytcnkiecdagjgmaa.Made Go.Proofs.Ytcnkiecdagjgmaa.C4l Go.Proofs.Ytcnkiecdagjgmaa.D5 Go.Proofs.Ytcnkiecdagjgmaa.Ta Go.Proofs.Ytcnkiecdagjgmaa.Tb
set_option maxRecDepth 100000
set_option maxHeartbeats 6000000

theorem lims_le {sg : Bool} {mx : Nat} {raw : List UInt8} (h : Ta.lims sg mx raw = true) : mx ≤ 63 := by
  unfold Ta.lims at h
  rw [Bool.and_eq_true, decide_eq_true_eq] at h
  exact h.1
/-- An analog record is valid. -/
theorem vs_ana {nu ty un ei en : UInt8} {nm : ByteArray} {c : C4p.Cv} {mx r0 r1 r2 r3 r4 r5 hl hu : UInt8} {av dv : Nat} {on : Bool} {sm : Int} (h1 : okn (bl nm) = true) (h2 : wid sm = true) (h3 : C4p.vld c = true) (h4 : lims c.s mx.toNat [r0, r1, r2, r3, r4, r5] = true) (h5 : inm av mx.toNat = true) (h6 : inm dv mx.toNat = true) :
    vs ⟨nu, ty, un, nm, ei, en, false, c, mx, r0, r1, r2, r3, r4, r5, hl, hu, 0, av, dv, on, sm⟩ = true := by
  unfold vs ana Sn.raw
  rw [h1, h2, if_neg (by simp)]
  dsimp only
  rw [h3, h4, h5, h6]
  rfl
theorem sensor_any {w : World} {g n c : Nat} {A : Option Addr} {l : List Int} (nu : UInt8) (h : Dz w g A n c l) :
    Calls Try.prog 32 #[.pointer (some ⟨g, 0, none⟩), .int .u8 (nu.toNat : Int)] w (Snd w g n c A l nu) := by
  have hlt := h.lt
  have hal0 := World.grownBy_alloc w (.cells #[.int .u8 0, .int .u8 0, .int .u8 0, .string ⟨#[]⟩, .int .u8 0, .int .u8 0, .bool false, .int .i64 0, .bool false, .int .i64 0, .int .i64 0, .int .i64 0, .int .i64 0, .slice none 0 0, .int .u8 0, .int .u8 0, .int .u8 0, .int .u8 0, .int .u8 0, .int .u8 0, .int .u8 0, .int .u8 0, .int .u8 0, .int .u16 0, .int .u16 0, .int .u16 0, .bool false, .int .i64 0] 32) (some g)
  have hd0 := h.grown (World.grownBy_alloc w (.cells #[.int .u8 0, .int .u8 0, .int .u8 0, .string ⟨#[]⟩, .int .u8 0, .int .u8 0, .bool false, .int .i64 0, .bool false, .int .i64 0, .int .i64 0, .int .i64 0, .int .i64 0, .slice none 0 0, .int .u8 0, .int .u8 0, .int .u8 0, .int .u8 0, .int .u8 0, .int .u8 0, .int .u8 0, .int .u8 0, .int .u8 0, .int .u16 0, .int .u16 0, .int .u16 0, .bool false, .int .i64 0] 32) none) (by simp) (fun k hk => by cases hk)
  have hst0 := Bx.zero w
  clear h
  go_enter Try.func32, Try.ntmps32
  go_wp2_with fail
  generalize w.alloc (.cells #[.int .u8 0, .int .u8 0, .int .u8 0, .string ⟨#[]⟩, .int .u8 0, .int .u8 0, .bool false, .int .i64 0, .bool false, .int .i64 0, .int .i64 0, .int .i64 0, .int .i64 0, .slice none 0 0, .int .u8 0, .int .u8 0, .int .u8 0, .int .u8 0, .int .u8 0, .int .u8 0, .int .u8 0, .int .u8 0, .int .u8 0, .int .u16 0, .int .u16 0, .int .u16 0, .bool false, .int .i64 0] 32) = w1 at *
  refine (hd0.next 4 (by omega) (by omega)).mono ?_
  rintro e w2 ⟨q1, hq1, rfl, hd2, hg2⟩
  have hst2 := hst0.kept hg2 (fun e => by injection e; omega)
  have hgw2 := grown_trans hal0 hg2
  clear hd0 hal0 hst0 hg2
  go_wp2_with fail
  refine (hd2.byte).mono ?_
  rintro e w3 ⟨un, rfl, hd3, hg3⟩
  have hst3 := hst2.kept hg3 (fun e => by injection e; omega)
  have hgw3 := grown_trans hgw2 hg3
  clear hd2 hgw2 hst2 hg3
  go_wp2_with fail
  refine (hd3.next 16 (by omega) (by omega)).mono ?_
  rintro e w4 ⟨q3, hq3, rfl, hd4, hg4⟩
  have hst4 := hst3.kept hg4 (fun e => by injection e; omega)
  have hgw4 := grown_trans hgw3 hg4
  have HT := hd4.text ⟨#[67, 80, 85, 32, 84, 101, 109, 112, 46, 48, 49, 57]⟩ (1 + q3) (by decide) (by decide) (by omega)
  rw [show ((1 + q3 : Nat) : Int) = 1 + (q3 : Int) by omega] at HT
  replace HT := Lib.hid HT
  clear hd3 hgw3 hst3 hg4 hd4
  go_wp2_with fail
  refine HT.out.mono ?_
  rintro e w5 ⟨nm, rfl, hsz, hch, hd5, hg5⟩
  have hst5 := hst4.kept hg5 (fun e => by injection e; omega)
  have hgw5 := grown_trans hgw4 hg5
  have HOK := Lib.hid (txt_chr hch (by omega) (by omega))
  clear hgw4 hst4 hg5 HT hch hsz hq3
  go_wp2_with fail
  refine (entity_any hd5).mono ?_
  rintro e w6 ⟨ei, en, rfl, hd6, hg6⟩
  have hst6 := hst5.kept hg6 (fun e => by injection e; omega)
  have hgw6 := grown_trans hgw5 hg6
  clear hgw5 hst5 hg6 hd5
  go_wp2_with fail
  refine (hd6.bool 4 (by omega) (by omega)).mono ?_
  rintro e w7 ⟨on, rfl, hd7, hg7⟩
  have hst7 := hst6.kept hg7 (fun e => by injection e; omega)
  have hgw7 := grown_trans hgw6 hg7
  clear hgw6 hst6 hg7 hd6
  obtain ⟨ty, hty⟩ := u8_int (1 + q1) (by omega)
  have hty2 : (1 + (q1 : Int)) = (ty.toNat : Int) := by rw [← hty]; push_cast; rfl
  have HTY := Lib.hid hty2
  have hz7 := Bx.zero w7
  have hd8 := hd7.grown (World.grownBy_alloc w7 (.cells #[.int .u8 0, .int .u8 0, .int .u8 0, .string ⟨#[]⟩, .int .u8 0, .int .u8 0, .bool false, .int .i64 0, .bool false, .int .i64 0, .int .i64 0, .int .i64 0, .int .i64 0, .slice none 0 0, .int .u8 0, .int .u8 0, .int .u8 0, .int .u8 0, .int .u8 0, .int .u8 0, .int .u8 0, .int .u8 0, .int .u8 0, .int .u16 0, .int .u16 0, .int .u16 0, .bool false, .int .i64 0] 32) none) (by simp) (fun k hk => by cases hk)
  have hr8 := hst7.alloc (.cells #[.int .u8 0, .int .u8 0, .int .u8 0, .string ⟨#[]⟩, .int .u8 0, .int .u8 0, .bool false, .int .i64 0, .bool false, .int .i64 0, .int .i64 0, .int .i64 0, .int .i64 0, .slice none 0 0, .int .u8 0, .int .u8 0, .int .u8 0, .int .u8 0, .int .u8 0, .int .u8 0, .int .u8 0, .int .u8 0, .int .u8 0, .int .u16 0, .int .u16 0, .int .u16 0, .bool false, .int .i64 0] 32)
  have hg8 := grown_trans hgw7 (World.grownBy_alloc w7 (.cells #[.int .u8 0, .int .u8 0, .int .u8 0, .string ⟨#[]⟩, .int .u8 0, .int .u8 0, .bool false, .int .i64 0, .bool false, .int .i64 0, .int .i64 0, .int .i64 0, .int .i64 0, .slice none 0 0, .int .u8 0, .int .u8 0, .int .u8 0, .int .u8 0, .int .u8 0, .int .u8 0, .int .u8 0, .int .u8 0, .int .u8 0, .int .u16 0, .int .u16 0, .int .u16 0, .bool false, .int .i64 0] 32) (some g))
  have hF := hst7.lt
  clear hty hty2 hd7 hst7 hgw7 hq1
  go_wp2_with (refine wpList_store_bx rfl (.tmp 5) (.tmp 23) rfl w7.heap.size ⟨nu, ty, un, nm, ei, en, false, C4p.noCv, 0, 0, 0, 0, 0, 0, 0, 0, 0, 0, 0, 0, on, 1⟩ noSn (.slice none 0 0) (.slice none 0 0) rfl (by show Value.agg #[.int .u8 (nu.toNat : Int), .int .u8 (1 + (q1 : Int)), .int .u8 (un.toNat : Int), .string nm, .int .u8 (ei.toNat : Int), .int .u8 (en.toNat : Int), .bool false, .int .i64 0, .bool false, .int .i64 0, .int .i64 0, .int .i64 0, .int .i64 0, .slice none 0 0, .int .u8 0, .int .u8 0, .int .u8 0, .int .u8 0, .int .u8 0, .int .u8 0, .int .u8 0, .int .u8 0, .int .u8 0, .int .u16 0, .int .u16 0, .int .u16 0, .bool on, .int .i64 1] = _; rw [HTY.out]; rfl) rfl hz7 ?_; intro w8 hx8 hgr8; refine Hid.out ?_)
  refine Lib.hid ?_
  have hS : Ss w w8 g n c A l w.heap.size w7.heap.size ⟨nu, ty, un, nm, ei, en, false, C4p.noCv, 0, 0, 0, 0, 0, 0, 0, 0, 0, 0, 0, 0, on, 1⟩ (.slice none 0 0) :=
    ⟨hd8.grown hgr8 (fun e => by injection e; omega) (fun k hk => by injection hk; omega), hr8.kept hgr8 (fun e => by injection e; omega), hx8, grown_new hg8 hgr8 (fun b hb => by injection hb; omega), Nat.le_refl _, hF, hlt⟩
  clear hz7 hd8 hr8 hg8 hx8 hgr8 hF
  generalize w7.heap.size = F at *
  go_wp2_with fail
  refine (hS.bool 3 (by omega) (by omega)).mono ?_
  rintro e w9 ⟨b3, rfl, hS9, -⟩
  clear hS
  cases b3
  · skip
    have k27 : w9.cell? ⟨F, 27, none⟩ = some (.int .i64 1) := hS9.cv.c 27
    have f27 := hS9.cv.fz 27
    go_wp2_with fail
    refine (hS9.next 3 (by omega) (by omega)).mono ?_
    rintro e w10 ⟨x, hx, rfl, hS10, -⟩
    clear k27 f27 hS9
    have k27 : w10.cell? ⟨F, 27, none⟩ = some (.int .i64 1) := hS10.cv.c 27
    have f27 := hS10.cv.fz 27
    have hS11 := hS10.set 27 (.int .i64 (1 + 2 * (x : Int))) ⟨nu, ty, un, nm, ei, en, false, C4p.noCv, 0, 0, 0, 0, 0, 0, 0, 0, 0, 0, 0, 0, on, (1 + 2 * (x : Int))⟩ (.slice none 0 0) rfl
    clear hS10
    go_wp2_with fail
    generalize w10.setCell ⟨F, 27, none⟩ (.int .i64 (1 + 2 * (x : Int))) = w11 at *
    clear k27 f27
    refine (conv_any hS11.dz).mono ?_
    rintro e w12 ⟨f, m, b, k1, k2, sc, V, p, rfl, hvl, hpo, hd12, hg12⟩
    obtain ⟨VA, vn, vc, rfl, -⟩ := hpo.sl
    have hbs : F < w11.heap.size ∧ w.heap.size ≤ w11.heap.size := ⟨hS11.cv.lt, hS11.gr.size⟩
    generalize w11.heap.size = B at *
    have hS12 := hS11.step hd12 hg12
    clear hS11 hd12 hg12
    have k7 : w12.cell? ⟨F, 7, none⟩ = some (.int .i64 0) := hS12.cv.c 7
    have f7 := hS12.cv.fz 7
    have k8 : w12.cell? ⟨F, 8, none⟩ = some (.bool false) := hS12.cv.c 8
    have f8 := hS12.cv.fz 8
    have k9 : w12.cell? ⟨F, 9, none⟩ = some (.int .i64 0) := hS12.cv.c 9
    have f9 := hS12.cv.fz 9
    have k10 : w12.cell? ⟨F, 10, none⟩ = some (.int .i64 0) := hS12.cv.c 10
    have f10 := hS12.cv.fz 10
    have k11 : w12.cell? ⟨F, 11, none⟩ = some (.int .i64 0) := hS12.cv.c 11
    have f11 := hS12.cv.fz 11
    have k12 : w12.cell? ⟨F, 12, none⟩ = some (.int .i64 0) := hS12.cv.c 12
    have f12 := hS12.cv.fz 12
    have k13 : w12.cell? ⟨F, 13, none⟩ = some (.slice none 0 0) := hS12.cv.c 13
    have f13 := hS12.cv.fz 13
    have hS13 := (((((((hS12.set 7 (.int .i64 f) ⟨nu, ty, un, nm, ei, en, false, ⟨f, false, 0, 0, 0, 0, []⟩, 0, 0, 0, 0, 0, 0, 0, 0, 0, 0, 0, 0, on, (1 + 2 * (x : Int))⟩ (.slice none 0 0) rfl).set 8 (.bool sc) ⟨nu, ty, un, nm, ei, en, false, ⟨f, sc, 0, 0, 0, 0, []⟩, 0, 0, 0, 0, 0, 0, 0, 0, 0, 0, 0, 0, on, (1 + 2 * (x : Int))⟩ (.slice none 0 0) rfl).set 9 (.int .i64 m) ⟨nu, ty, un, nm, ei, en, false, ⟨f, sc, m, 0, 0, 0, []⟩, 0, 0, 0, 0, 0, 0, 0, 0, 0, 0, 0, 0, on, (1 + 2 * (x : Int))⟩ (.slice none 0 0) rfl).set 10 (.int .i64 b) ⟨nu, ty, un, nm, ei, en, false, ⟨f, sc, m, b, 0, 0, []⟩, 0, 0, 0, 0, 0, 0, 0, 0, 0, 0, 0, 0, on, (1 + 2 * (x : Int))⟩ (.slice none 0 0) rfl).set 11 (.int .i64 k1) ⟨nu, ty, un, nm, ei, en, false, ⟨f, sc, m, b, k1, 0, []⟩, 0, 0, 0, 0, 0, 0, 0, 0, 0, 0, 0, 0, on, (1 + 2 * (x : Int))⟩ (.slice none 0 0) rfl).set 12 (.int .i64 k2) ⟨nu, ty, un, nm, ei, en, false, ⟨f, sc, m, b, k1, k2, []⟩, 0, 0, 0, 0, 0, 0, 0, 0, 0, 0, 0, 0, on, (1 + 2 * (x : Int))⟩ (.slice none 0 0) rfl).set 13 (.slice VA vn vc) ⟨nu, ty, un, nm, ei, en, false, ⟨f, sc, m, b, k1, k2, p⟩, 0, 0, 0, 0, 0, 0, 0, 0, 0, 0, 0, 0, on, (1 + 2 * (x : Int))⟩ (.slice VA vn vc) rfl)
    have hp13 : POwn B (((((((w12.setCell ⟨F, 7, none⟩ (.int .i64 f)).setCell ⟨F, 8, none⟩ (.bool sc)).setCell ⟨F, 9, none⟩ (.int .i64 m)).setCell ⟨F, 10, none⟩ (.int .i64 b)).setCell ⟨F, 11, none⟩ (.int .i64 k1)).setCell ⟨F, 12, none⟩ (.int .i64 k2)).setCell ⟨F, 13, none⟩ (.slice VA vn vc)) (.slice VA vn vc) p := by
      have e7 : ∀ (u : World) (i : Nat) (z : Value), POwn B u (.slice VA vn vc) p → POwn B (u.setCell ⟨F, i, none⟩ z) (.slice VA vn vc) p := fun u i z hu => pown_kept hu (set_grown u F i z) hbs.1
      exact (e7 _ _ _ (e7 _ _ _ (e7 _ _ _ (e7 _ _ _ (e7 _ _ _ (e7 _ _ _ (e7 _ _ _ hpo)))))))
    clear hS12 hpo
    go_wp2_with fail
    generalize (((((((w12.setCell ⟨F, 7, none⟩ (.int .i64 f)).setCell ⟨F, 8, none⟩ (.bool sc)).setCell ⟨F, 9, none⟩ (.int .i64 m)).setCell ⟨F, 10, none⟩ (.int .i64 b)).setCell ⟨F, 11, none⟩ (.int .i64 k1)).setCell ⟨F, 12, none⟩ (.int .i64 k2)).setCell ⟨F, 13, none⟩ (.slice VA vn vc)) = w13 at *
    clear k7 f7 k8 f8 k9 f9 k10 f10 k11 f11 k12 f12 k13 f13
    have k8 : w13.cell? ⟨F, 8, none⟩ = some (.bool sc) := hS13.cv.c 8
    go_wp2_with fail
    refine (thr_any sc hS13.dz).mono ?_
    rintro e w14 ⟨mx, r0, r1, r2, r3, r4, r5, rfl, hli, hd14, hg14⟩
    have hp14 := pown_kept hp13 hg14 (show g < B by have := hS13.lo; omega)
    have hS14 := hS13.step hd14 hg14
    clear hS13 hp13 hd14 hg14 k8
    have k14 : w14.cell? ⟨F, 14, none⟩ = some (.int .u8 0) := hS14.cv.c 14
    have f14 := hS14.cv.fz 14
    have k15 : w14.cell? ⟨F, 15, none⟩ = some (.int .u8 0) := hS14.cv.c 15
    have f15 := hS14.cv.fz 15
    have k16 : w14.cell? ⟨F, 16, none⟩ = some (.int .u8 0) := hS14.cv.c 16
    have f16 := hS14.cv.fz 16
    have k17 : w14.cell? ⟨F, 17, none⟩ = some (.int .u8 0) := hS14.cv.c 17
    have f17 := hS14.cv.fz 17
    have k18 : w14.cell? ⟨F, 18, none⟩ = some (.int .u8 0) := hS14.cv.c 18
    have f18 := hS14.cv.fz 18
    have k19 : w14.cell? ⟨F, 19, none⟩ = some (.int .u8 0) := hS14.cv.c 19
    have f19 := hS14.cv.fz 19
    have k20 : w14.cell? ⟨F, 20, none⟩ = some (.int .u8 0) := hS14.cv.c 20
    have f20 := hS14.cv.fz 20
    have hS15 := (((((((hS14.set 14 (.int .u8 (mx.toNat : Int)) ⟨nu, ty, un, nm, ei, en, false, ⟨f, sc, m, b, k1, k2, p⟩, mx, 0, 0, 0, 0, 0, 0, 0, 0, 0, 0, 0, on, (1 + 2 * (x : Int))⟩ (.slice VA vn vc) rfl).set 15 (.int .u8 (r0.toNat : Int)) ⟨nu, ty, un, nm, ei, en, false, ⟨f, sc, m, b, k1, k2, p⟩, mx, r0, 0, 0, 0, 0, 0, 0, 0, 0, 0, 0, on, (1 + 2 * (x : Int))⟩ (.slice VA vn vc) rfl).set 16 (.int .u8 (r1.toNat : Int)) ⟨nu, ty, un, nm, ei, en, false, ⟨f, sc, m, b, k1, k2, p⟩, mx, r0, r1, 0, 0, 0, 0, 0, 0, 0, 0, 0, on, (1 + 2 * (x : Int))⟩ (.slice VA vn vc) rfl).set 17 (.int .u8 (r2.toNat : Int)) ⟨nu, ty, un, nm, ei, en, false, ⟨f, sc, m, b, k1, k2, p⟩, mx, r0, r1, r2, 0, 0, 0, 0, 0, 0, 0, 0, on, (1 + 2 * (x : Int))⟩ (.slice VA vn vc) rfl).set 18 (.int .u8 (r3.toNat : Int)) ⟨nu, ty, un, nm, ei, en, false, ⟨f, sc, m, b, k1, k2, p⟩, mx, r0, r1, r2, r3, 0, 0, 0, 0, 0, 0, 0, on, (1 + 2 * (x : Int))⟩ (.slice VA vn vc) rfl).set 19 (.int .u8 (r4.toNat : Int)) ⟨nu, ty, un, nm, ei, en, false, ⟨f, sc, m, b, k1, k2, p⟩, mx, r0, r1, r2, r3, r4, 0, 0, 0, 0, 0, 0, on, (1 + 2 * (x : Int))⟩ (.slice VA vn vc) rfl).set 20 (.int .u8 (r5.toNat : Int)) ⟨nu, ty, un, nm, ei, en, false, ⟨f, sc, m, b, k1, k2, p⟩, mx, r0, r1, r2, r3, r4, r5, 0, 0, 0, 0, 0, on, (1 + 2 * (x : Int))⟩ (.slice VA vn vc) rfl)
    have hp15 : POwn B (((((((w14.setCell ⟨F, 14, none⟩ (.int .u8 (mx.toNat : Int))).setCell ⟨F, 15, none⟩ (.int .u8 (r0.toNat : Int))).setCell ⟨F, 16, none⟩ (.int .u8 (r1.toNat : Int))).setCell ⟨F, 17, none⟩ (.int .u8 (r2.toNat : Int))).setCell ⟨F, 18, none⟩ (.int .u8 (r3.toNat : Int))).setCell ⟨F, 19, none⟩ (.int .u8 (r4.toNat : Int))).setCell ⟨F, 20, none⟩ (.int .u8 (r5.toNat : Int))) (.slice VA vn vc) p := by
      have e7 : ∀ (u : World) (i : Nat) (z : Value), POwn B u (.slice VA vn vc) p → POwn B (u.setCell ⟨F, i, none⟩ z) (.slice VA vn vc) p := fun u i z hu => pown_kept hu (set_grown u F i z) hbs.1
      exact (e7 _ _ _ (e7 _ _ _ (e7 _ _ _ (e7 _ _ _ (e7 _ _ _ (e7 _ _ _ (e7 _ _ _ hp14)))))))
    clear hS14 hp14
    go_wp2_with fail
    generalize (((((((w14.setCell ⟨F, 14, none⟩ (.int .u8 (mx.toNat : Int))).setCell ⟨F, 15, none⟩ (.int .u8 (r0.toNat : Int))).setCell ⟨F, 16, none⟩ (.int .u8 (r1.toNat : Int))).setCell ⟨F, 17, none⟩ (.int .u8 (r2.toNat : Int))).setCell ⟨F, 18, none⟩ (.int .u8 (r3.toNat : Int))).setCell ⟨F, 19, none⟩ (.int .u8 (r4.toNat : Int))).setCell ⟨F, 20, none⟩ (.int .u8 (r5.toNat : Int))) = w15 at *
    clear k14 f14 k15 f15 k16 f16 k17 f17 k18 f18 k19 f19 k20 f20
    refine (hS15.next 5 (by omega) (by omega)).mono ?_
    rintro e w16 ⟨q5, hq5, rfl, hS16, hg16⟩
    have hp16 := pown_kept hp15 hg16 (show g < B by have := hS15.lo; omega)
    obtain ⟨hl, hhl⟩ := u8_int q5 (by omega)
    have k21 : w16.cell? ⟨F, 21, none⟩ = some (.int .u8 0) := hS16.cv.c 21
    have f21 := hS16.cv.fz 21
    have hS17 := hS16.set 21 (.int .u8 (q5 : Int)) ⟨nu, ty, un, nm, ei, en, false, ⟨f, sc, m, b, k1, k2, p⟩, mx, r0, r1, r2, r3, r4, r5, hl, 0, 0, 0, 0, on, (1 + 2 * (x : Int))⟩ (.slice VA vn vc) (by rw [hhl]; rfl)
    have hp17 := pown_kept hp16 (set_grown w16 F 21 (.int .u8 (q5 : Int))) hbs.1
    clear hS15 hp15 hS16 hp16 hg16 hhl
    go_wp2_with fail
    generalize w16.setCell ⟨F, 21, none⟩ (.int .u8 (q5 : Int)) = w17 at *
    clear k21 f21
    refine (hS17.next 5 (by omega) (by omega)).mono ?_
    rintro e w18 ⟨q6, hq6, rfl, hS18, hg18⟩
    have hp18 := pown_kept hp17 hg18 (show g < B by have := hS17.lo; omega)
    obtain ⟨hu, hhu⟩ := u8_int q6 (by omega)
    have k22 : w18.cell? ⟨F, 22, none⟩ = some (.int .u8 0) := hS18.cv.c 22
    have f22 := hS18.cv.fz 22
    have hS19 := hS18.set 22 (.int .u8 (q6 : Int)) ⟨nu, ty, un, nm, ei, en, false, ⟨f, sc, m, b, k1, k2, p⟩, mx, r0, r1, r2, r3, r4, r5, hl, hu, 0, 0, 0, on, (1 + 2 * (x : Int))⟩ (.slice VA vn vc) (by rw [hhu]; rfl)
    have hp19 := pown_kept hp18 (set_grown w18 F 22 (.int .u8 (q6 : Int))) hbs.1
    clear hS17 hp17 hS18 hp18 hg18 hhu
    go_wp2_with fail
    generalize w18.setCell ⟨F, 22, none⟩ (.int .u8 (q6 : Int)) = w19 at *
    clear k22 f22
    refine (hS19.bool 12 (by omega) (by omega)).mono ?_
    rintro e w20 ⟨b12, rfl, hS20, hg20⟩
    have hp20 := pown_kept hp19 hg20 (show g < B by have := hS19.lo; omega)
    clear hS19 hp19 hg20
    have hmlt := mx.toNat_lt
    have hml : mx.toNat ≤ 63 := lims_le hli
    have HVA : Hid (∀ (hu : UInt8) (av dv : Nat), inm av mx.toNat = true → inm dv mx.toNat = true → vs ⟨nu, ty, un, nm, ei, en, false, ⟨f, sc, m, b, k1, k2, p⟩, mx, r0, r1, r2, r3, r4, r5, hl, hu, 0, av, dv, on, (1 + 2 * (x : Int))⟩ = true) := Lib.hid fun hu av dv ha hd => vs_ana (hu := hu) HOK.out (by unfold wid; rw [decide_eq_true_eq]; omega) hvl hli ha hd
    clear hvl hli
    cases b12
    · as_aux_lemma =>
      have k14 : w20.cell? ⟨F, 14, none⟩ = some (.int .u8 (mx.toNat : Int)) := hS20.cv.c 14
      have k24 : w20.cell? ⟨F, 24, none⟩ = some (.int .u16 0) := hS20.cv.c 24
      have f24 := hS20.cv.fz 24
      have hS30 := hS20.set 24 (.int .u16 (mx.toNat : Int)) ⟨nu, ty, un, nm, ei, en, false, ⟨f, sc, m, b, k1, k2, p⟩, mx, r0, r1, r2, r3, r4, r5, hl, hu, 0, mx.toNat, 0, on, (1 + 2 * (x : Int))⟩ (.slice VA vn vc) rfl
      have hp30 := pown_kept hp20 (set_grown w20 F 24 (.int .u16 (mx.toNat : Int))) hbs.1
      have k25 : (w20.setCell ⟨F, 24, none⟩ (.int .u16 (mx.toNat : Int))).cell? ⟨F, 25, none⟩ = some (.int .u16 0) := hS30.cv.c 25
      have f25 := hS30.cv.fz 25
      have hS31 := hS30.set 25 (.int .u16 (mx.toNat : Int)) ⟨nu, ty, un, nm, ei, en, false, ⟨f, sc, m, b, k1, k2, p⟩, mx, r0, r1, r2, r3, r4, r5, hl, hu, 0, mx.toNat, mx.toNat, on, (1 + 2 * (x : Int))⟩ (.slice VA vn vc) rfl
      have hp31 := pown_kept hp30 (set_grown (w20.setCell ⟨F, 24, none⟩ (.int .u16 (mx.toNat : Int))) F 25 (.int .u16 (mx.toNat : Int))) hbs.1
      clear hS20 hp20 hS30 hp30
      go_wp2_with fail
      generalize (w20.setCell ⟨F, 24, none⟩ (.int .u16 (mx.toNat : Int))).setCell ⟨F, 25, none⟩ (.int .u16 (mx.toNat : Int)) = w31 at *
      clear k14 k24 f24 k25 f25
      refine (hS31.bool 3 (by omega) (by omega)).mono ?_
      rintro e w32 ⟨b33, rfl, hS32, hg32⟩
      have hp32 := pown_kept hp31 hg32 (show g < B by have := hS31.lo; omega)
      clear hS31 hp31 hg32
      cases b33
      · as_aux_lemma =>
        go_wp2_with (first
          | (refine wpList_load_bx rfl (.tmp 5) rfl _ _ _ rfl hS32.cv ?_)
          | (refine wpList_store_bx rfl (.tmp 4) (.tmp 98) rfl w.heap.size ⟨nu, ty, un, nm, ei, en, false, ⟨f, sc, m, b, k1, k2, p⟩, mx, r0, r1, r2, r3, r4, r5, hl, hu, 0, mx.toNat, mx.toNat, on, (1 + 2 * (x : Int))⟩ noSn (.slice VA vn vc) (.slice none 0 0) rfl rfl (one_own hp32) hS32.res ?_; intro w50 hx50 hg50; refine Hid.out ?_))
        refine Lib.hid ?_
        have hd50 := hS32.dz.grown hg50 (fun e => by injection e; omega) (fun k hk => by injection hk; omega)
        have hgr50 := grown_new hS32.gr hg50 (fun b hb => by injection hb; omega)
        have hp50 := pown_base (pown_far hp32 hS32.res hg50) hbs.2
        clear hS32 hg50 hp32
        go_wp2_with fail
        exact send Try.results32 hd50 hx50 hgr50 (HVA.out _ _ _ (inm_self _) (inm_self _)) ⟨by show (0 : Nat) < 65536; omega, by show (mx.toNat : Nat) < 65536; have := andn_lt mx.toNat 0; first | omega | exact andn_lt _ _, by show (mx.toNat : Nat) < 65536; first | omega | exact andn_lt _ _⟩ rfl hp50 rfl rfl
      · as_aux_lemma =>
        go_wp2_with fail
        refine (hS32.next 64 (by omega) (by omega)).mono ?_
        rintro e w33 ⟨y1, hy1, rfl, hS33, hg33⟩
        have hp33 := pown_kept hp32 hg33 (show g < B by have := hS32.lo; omega)
        have k24 : w33.cell? ⟨F, 24, none⟩ = some (.int .u16 (mx.toNat : Int)) := hS33.cv.c 24
        have f24 := hS33.cv.fz 24
        have hb1 := bits_andn mx.toNat y1
        have hS34 := hS33.set 24 (.int .u16 ((andn mx.toNat y1 : Nat) : Int)) ⟨nu, ty, un, nm, ei, en, false, ⟨f, sc, m, b, k1, k2, p⟩, mx, r0, r1, r2, r3, r4, r5, hl, hu, 0, andn mx.toNat y1, mx.toNat, on, (1 + 2 * (x : Int))⟩ (.slice VA vn vc) rfl
        have hp34 := pown_kept hp33 (set_grown w33 F 24 (.int .u16 ((andn mx.toNat y1 : Nat) : Int))) hbs.1
        clear hS32 hp32 hS33 hp33 hg33
        go_wp2_with fail
        generalize w33.setCell ⟨F, 24, none⟩ (.int .u16 ((andn mx.toNat y1 : Nat) : Int)) = w34 at *
        clear k24 f24 hb1
        refine (hS34.next 64 (by omega) (by omega)).mono ?_
        rintro e w35 ⟨y2, hy2, rfl, hS35, hg35⟩
        have hp35 := pown_kept hp34 hg35 (show g < B by have := hS34.lo; omega)
        have k25 : w35.cell? ⟨F, 25, none⟩ = some (.int .u16 (mx.toNat : Int)) := hS35.cv.c 25
        have f25 := hS35.cv.fz 25
        have hb2 := bits_andn mx.toNat y2
        have hS36 := hS35.set 25 (.int .u16 ((andn mx.toNat y2 : Nat) : Int)) ⟨nu, ty, un, nm, ei, en, false, ⟨f, sc, m, b, k1, k2, p⟩, mx, r0, r1, r2, r3, r4, r5, hl, hu, 0, andn mx.toNat y1, andn mx.toNat y2, on, (1 + 2 * (x : Int))⟩ (.slice VA vn vc) rfl
        have hp36 := pown_kept hp35 (set_grown w35 F 25 (.int .u16 ((andn mx.toNat y2 : Nat) : Int))) hbs.1
        clear hS34 hp34 hS35 hp35 hg35
        go_wp2_with (first
          | (refine wpList_load_bx rfl (.tmp 5) rfl _ _ _ rfl hS36.cv ?_)
          | (refine wpList_store_bx rfl (.tmp 4) (.tmp 98) rfl w.heap.size ⟨nu, ty, un, nm, ei, en, false, ⟨f, sc, m, b, k1, k2, p⟩, mx, r0, r1, r2, r3, r4, r5, hl, hu, 0, andn mx.toNat y1, andn mx.toNat y2, on, (1 + 2 * (x : Int))⟩ noSn (.slice VA vn vc) (.slice none 0 0) rfl rfl (one_own hp36) hS36.res ?_; intro w50 hx50 hg50; refine Hid.out ?_))
        refine Lib.hid ?_
        have hd50 := hS36.dz.grown hg50 (fun e => by injection e; omega) (fun k hk => by injection hk; omega)
        have hgr50 := grown_new hS36.gr hg50 (fun b hb => by injection hb; omega)
        have hp50 := pown_base (pown_far hp36 hS36.res hg50) hbs.2
        clear hS36 hg50 hp36
        go_wp2_with fail
        exact send Try.results32 hd50 hx50 hgr50 (HVA.out _ _ _ (inm_andn _ _) (inm_andn _ _)) ⟨by show (0 : Nat) < 65536; omega, by show (andn mx.toNat y1 : Nat) < 65536; have := andn_lt mx.toNat 0; first | omega | exact andn_lt _ _, by show (andn mx.toNat y2 : Nat) < 65536; first | omega | exact andn_lt _ _⟩ rfl hp50 rfl rfl
    · as_aux_lemma =>
      go_wp2_with fail
      refine (hS20.byte).mono ?_
      rintro e w21 ⟨hu2, rfl, hS21, hg21⟩
      have hp21 := pown_kept hp20 hg21 (show g < B by have := hS20.lo; omega)
      have k22 : w21.cell? ⟨F, 22, none⟩ = some (.int .u8 (hu.toNat : Int)) := hS21.cv.c 22
      have f22 := hS21.cv.fz 22
      have hS22 := hS21.set 22 (.int .u8 (hu2.toNat : Int)) ⟨nu, ty, un, nm, ei, en, false, ⟨f, sc, m, b, k1, k2, p⟩, mx, r0, r1, r2, r3, r4, r5, hl, hu2, 0, 0, 0, on, (1 + 2 * (x : Int))⟩ (.slice VA vn vc) rfl
      have hp22 := pown_kept hp21 (set_grown w21 F 22 (.int .u8 (hu2.toNat : Int))) hbs.1
      clear hS20 hp20 hS21 hp21 hg21
      have k14 : (w21.setCell ⟨F, 22, none⟩ (.int .u8 (hu2.toNat : Int))).cell? ⟨F, 14, none⟩ = some (.int .u8 (mx.toNat : Int)) := hS22.cv.c 14
      have k24 : (w21.setCell ⟨F, 22, none⟩ (.int .u8 (hu2.toNat : Int))).cell? ⟨F, 24, none⟩ = some (.int .u16 0) := hS22.cv.c 24
      have f24 := hS22.cv.fz 24
      have hS30 := hS22.set 24 (.int .u16 (mx.toNat : Int)) ⟨nu, ty, un, nm, ei, en, false, ⟨f, sc, m, b, k1, k2, p⟩, mx, r0, r1, r2, r3, r4, r5, hl, hu2, 0, mx.toNat, 0, on, (1 + 2 * (x : Int))⟩ (.slice VA vn vc) rfl
      have hp30 := pown_kept hp22 (set_grown (w21.setCell ⟨F, 22, none⟩ (.int .u8 (hu2.toNat : Int))) F 24 (.int .u16 (mx.toNat : Int))) hbs.1
      have k25 : ((w21.setCell ⟨F, 22, none⟩ (.int .u8 (hu2.toNat : Int))).setCell ⟨F, 24, none⟩ (.int .u16 (mx.toNat : Int))).cell? ⟨F, 25, none⟩ = some (.int .u16 0) := hS30.cv.c 25
      have f25 := hS30.cv.fz 25
      have hS31 := hS30.set 25 (.int .u16 (mx.toNat : Int)) ⟨nu, ty, un, nm, ei, en, false, ⟨f, sc, m, b, k1, k2, p⟩, mx, r0, r1, r2, r3, r4, r5, hl, hu2, 0, mx.toNat, mx.toNat, on, (1 + 2 * (x : Int))⟩ (.slice VA vn vc) rfl
      have hp31 := pown_kept hp30 (set_grown ((w21.setCell ⟨F, 22, none⟩ (.int .u8 (hu2.toNat : Int))).setCell ⟨F, 24, none⟩ (.int .u16 (mx.toNat : Int))) F 25 (.int .u16 (mx.toNat : Int))) hbs.1
      clear hS22 hp22 hS30 hp30
      go_wp2_with fail
      generalize ((w21.setCell ⟨F, 22, none⟩ (.int .u8 (hu2.toNat : Int))).setCell ⟨F, 24, none⟩ (.int .u16 (mx.toNat : Int))).setCell ⟨F, 25, none⟩ (.int .u16 (mx.toNat : Int)) = w31 at *
      clear k14 k24 f24 k25 f25
      refine (hS31.bool 3 (by omega) (by omega)).mono ?_
      rintro e w32 ⟨b33, rfl, hS32, hg32⟩
      have hp32 := pown_kept hp31 hg32 (show g < B by have := hS31.lo; omega)
      clear hS31 hp31 hg32
      cases b33
      · as_aux_lemma =>
        go_wp2_with (first
          | (refine wpList_load_bx rfl (.tmp 5) rfl _ _ _ rfl hS32.cv ?_)
          | (refine wpList_store_bx rfl (.tmp 4) (.tmp 98) rfl w.heap.size ⟨nu, ty, un, nm, ei, en, false, ⟨f, sc, m, b, k1, k2, p⟩, mx, r0, r1, r2, r3, r4, r5, hl, hu2, 0, mx.toNat, mx.toNat, on, (1 + 2 * (x : Int))⟩ noSn (.slice VA vn vc) (.slice none 0 0) rfl rfl (one_own hp32) hS32.res ?_; intro w50 hx50 hg50; refine Hid.out ?_))
        refine Lib.hid ?_
        have hd50 := hS32.dz.grown hg50 (fun e => by injection e; omega) (fun k hk => by injection hk; omega)
        have hgr50 := grown_new hS32.gr hg50 (fun b hb => by injection hb; omega)
        have hp50 := pown_base (pown_far hp32 hS32.res hg50) hbs.2
        clear hS32 hg50 hp32
        go_wp2_with fail
        exact send Try.results32 hd50 hx50 hgr50 (HVA.out _ _ _ (inm_self _) (inm_self _)) ⟨by show (0 : Nat) < 65536; omega, by show (mx.toNat : Nat) < 65536; have := andn_lt mx.toNat 0; first | omega | exact andn_lt _ _, by show (mx.toNat : Nat) < 65536; first | omega | exact andn_lt _ _⟩ rfl hp50 rfl rfl
      · as_aux_lemma =>
        go_wp2_with fail
        refine (hS32.next 64 (by omega) (by omega)).mono ?_
        rintro e w33 ⟨y1, hy1, rfl, hS33, hg33⟩
        have hp33 := pown_kept hp32 hg33 (show g < B by have := hS32.lo; omega)
        have k24 : w33.cell? ⟨F, 24, none⟩ = some (.int .u16 (mx.toNat : Int)) := hS33.cv.c 24
        have f24 := hS33.cv.fz 24
        have hb1 := bits_andn mx.toNat y1
        have hS34 := hS33.set 24 (.int .u16 ((andn mx.toNat y1 : Nat) : Int)) ⟨nu, ty, un, nm, ei, en, false, ⟨f, sc, m, b, k1, k2, p⟩, mx, r0, r1, r2, r3, r4, r5, hl, hu2, 0, andn mx.toNat y1, mx.toNat, on, (1 + 2 * (x : Int))⟩ (.slice VA vn vc) rfl
        have hp34 := pown_kept hp33 (set_grown w33 F 24 (.int .u16 ((andn mx.toNat y1 : Nat) : Int))) hbs.1
        clear hS32 hp32 hS33 hp33 hg33
        go_wp2_with fail
        generalize w33.setCell ⟨F, 24, none⟩ (.int .u16 ((andn mx.toNat y1 : Nat) : Int)) = w34 at *
        clear k24 f24 hb1
        refine (hS34.next 64 (by omega) (by omega)).mono ?_
        rintro e w35 ⟨y2, hy2, rfl, hS35, hg35⟩
        have hp35 := pown_kept hp34 hg35 (show g < B by have := hS34.lo; omega)
        have k25 : w35.cell? ⟨F, 25, none⟩ = some (.int .u16 (mx.toNat : Int)) := hS35.cv.c 25
        have f25 := hS35.cv.fz 25
        have hb2 := bits_andn mx.toNat y2
        have hS36 := hS35.set 25 (.int .u16 ((andn mx.toNat y2 : Nat) : Int)) ⟨nu, ty, un, nm, ei, en, false, ⟨f, sc, m, b, k1, k2, p⟩, mx, r0, r1, r2, r3, r4, r5, hl, hu2, 0, andn mx.toNat y1, andn mx.toNat y2, on, (1 + 2 * (x : Int))⟩ (.slice VA vn vc) rfl
        have hp36 := pown_kept hp35 (set_grown w35 F 25 (.int .u16 ((andn mx.toNat y2 : Nat) : Int))) hbs.1
        clear hS34 hp34 hS35 hp35 hg35
        go_wp2_with (first
          | (refine wpList_load_bx rfl (.tmp 5) rfl _ _ _ rfl hS36.cv ?_)
          | (refine wpList_store_bx rfl (.tmp 4) (.tmp 98) rfl w.heap.size ⟨nu, ty, un, nm, ei, en, false, ⟨f, sc, m, b, k1, k2, p⟩, mx, r0, r1, r2, r3, r4, r5, hl, hu2, 0, andn mx.toNat y1, andn mx.toNat y2, on, (1 + 2 * (x : Int))⟩ noSn (.slice VA vn vc) (.slice none 0 0) rfl rfl (one_own hp36) hS36.res ?_; intro w50 hx50 hg50; refine Hid.out ?_))
        refine Lib.hid ?_
        have hd50 := hS36.dz.grown hg50 (fun e => by injection e; omega) (fun k hk => by injection hk; omega)
        have hgr50 := grown_new hS36.gr hg50 (fun b hb => by injection hb; omega)
        have hp50 := pown_base (pown_far hp36 hS36.res hg50) hbs.2
        clear hS36 hg50 hp36
        go_wp2_with fail
        exact send Try.results32 hd50 hx50 hgr50 (HVA.out _ _ _ (inm_andn _ _) (inm_andn _ _)) ⟨by show (0 : Nat) < 65536; omega, by show (andn mx.toNat y1 : Nat) < 65536; have := andn_lt mx.toNat 0; first | omega | exact andn_lt _ _, by show (andn mx.toNat y2 : Nat) < 65536; first | omega | exact andn_lt _ _⟩ rfl hp50 rfl rfl
  · as_aux_lemma =>
    have k6 : w9.cell? ⟨F, 6, none⟩ = some (.bool false) := hS9.cv.c 6
    have f6 := hS9.cv.fz 6
    have hS10 := hS9.set 6 (.bool true) ⟨nu, ty, un, nm, ei, en, true, C4p.noCv, 0, 0, 0, 0, 0, 0, 0, 0, 0, 0, 0, 0, on, 1⟩ (.slice none 0 0) rfl
    go_wp2_with fail
    generalize w9.setCell ⟨F, 6, none⟩ (.bool true) = w10 at *
    refine (hS10.next 32768 (by omega) (by omega)).mono ?_
    rintro e w11 ⟨st, hst, rfl, hS11, -⟩
    have k23 : w11.cell? ⟨F, 23, none⟩ = some (.int .u16 0) := hS11.cv.c 23
    have f23 := hS11.cv.fz 23
    have hS12 := hS11.set 23 (.int .u16 (st : Int)) ⟨nu, ty, un, nm, ei, en, true, C4p.noCv, 0, 0, 0, 0, 0, 0, 0, 0, 0, st, 0, 0, on, 1⟩ (.slice none 0 0) rfl
    clear k6 f6 hS9 hS10 hS11
    go_wp2_with fail
    generalize w11.setCell ⟨F, 23, none⟩ (.int .u16 (st : Int)) = w12 at *
    clear k23 f23
    have HV := hS12.drew
    have HN4 : Hid (∀ V, Ss w V g n c A l w.heap.size F ⟨nu, ty, un, nm, ei, en, true, C4p.noCv, 0, 0, 0, 0, 0, 0, 0, 0, 0, st, 0, 0, on, 1⟩ (.slice none 0 0) → Calls Try.prog 39 #[.pointer (some ⟨g, 0, none⟩), .int .i64 4] V fun e w' => ∃ q : Nat, q < 4 ∧ e = .returned (.int .i64 (q : Int)) ∧ Ss w w' g n c A l w.heap.size F ⟨nu, ty, un, nm, ei, en, true, C4p.noCv, 0, 0, 0, 0, 0, 0, 0, 0, 0, st, 0, 0, on, 1⟩ (.slice none 0 0) ∧ V.grownBy w' (some g)) := Lib.hid fun V hV => hV.next 4 (by omega) (by omega)
    go_region_held3 (fun V => V.cell? ⟨F, 23, none⟩ = some (.int .u16 (st : Int))) (first | exact HV.cv.c 23 | exact HK.out _)
      (first
        | (go_at_call 39; (with_reducible refine (HN4.out _ HV).mono ?_); rintro e w13 ⟨x, hx, rfl, HV, -⟩; have k24 : w13.cell? ⟨F, 24, none⟩ = some (.int .u16 0) := HV.cv.c 24; have f24 := HV.cv.fz 24; have HK : Hid (∀ v, (w13.setCell ⟨F, 24, none⟩ v).cell? ⟨F, 23, none⟩ = some (.int .u16 (st : Int))) := Lib.hid fun v => (World.cell?_setCell_other w13 _ _ v (by simp)).trans (HV.cv.c 23)))
    have hav : bits .andNot .u16 (st : Int) (IntKind.u16.wrap (x : Int)) = ((andn st x : Nat) : Int) := by rw [IntWalk.u16_in _ ⟨by omega, by omega⟩, bits_andn]
    have hS14 := HV.set 24 (.int .u16 ((andn st x : Nat) : Int)) ⟨nu, ty, un, nm, ei, en, true, C4p.noCv, 0, 0, 0, 0, 0, 0, 0, 0, 0, st, andn st x, 0, on, 1⟩ (.slice none 0 0) rfl
    have hva := Lib.hid (inm_andn st x)
    have hal := Lib.hid (andn_lt st x)
    rw [← hav] at hS14
    generalize hW14 : w13.setCell ⟨F, 24, none⟩ (.int .u16 (bits .andNot .u16 (st : Int) (IntKind.u16.wrap (x : Int)))) = w14 at *
    generalize andn st x = av at *
    clear hav HV HN4 HK k24 f24 hS12 hW14
    refine Hid.out ?_
    refine Lib.hid ?_
    go_wp2_with fail
    have HV := hS14.drew
    have HN4 : Hid (∀ V, Ss w V g n c A l w.heap.size F ⟨nu, ty, un, nm, ei, en, true, C4p.noCv, 0, 0, 0, 0, 0, 0, 0, 0, 0, st, av, 0, on, 1⟩ (.slice none 0 0) → Calls Try.prog 39 #[.pointer (some ⟨g, 0, none⟩), .int .i64 4] V fun e w' => ∃ q : Nat, q < 4 ∧ e = .returned (.int .i64 (q : Int)) ∧ Ss w w' g n c A l w.heap.size F ⟨nu, ty, un, nm, ei, en, true, C4p.noCv, 0, 0, 0, 0, 0, 0, 0, 0, 0, st, av, 0, on, 1⟩ (.slice none 0 0) ∧ V.grownBy w' (some g)) := Lib.hid fun V hV => hV.next 4 (by omega) (by omega)
    have HN3 : Hid (∀ V, Ss w V g n c A l w.heap.size F ⟨nu, ty, un, nm, ei, en, true, C4p.noCv, 0, 0, 0, 0, 0, 0, 0, 0, 0, st, av, 0, on, 1⟩ (.slice none 0 0) → Calls Try.prog 39 #[.pointer (some ⟨g, 0, none⟩), .int .i64 300] V fun e w' => ∃ q : Nat, q < 300 ∧ e = .returned (.int .i64 (q : Int)) ∧ Ss w w' g n c A l w.heap.size F ⟨nu, ty, un, nm, ei, en, true, C4p.noCv, 0, 0, 0, 0, 0, 0, 0, 0, 0, st, av, 0, on, 1⟩ (.slice none 0 0) ∧ V.grownBy w' (some g)) := Lib.hid fun V hV => hV.next 300 (by omega) (by omega)
    go_region_held3 (fun V => V.cell? ⟨F, 23, none⟩ = some (.int .u16 (st : Int))) (first | exact HV.cv.c 23 | exact HK.out _)
      (first
        | (go_at_call 39; (with_reducible refine (HN4.out _ HV).mono ?_); rintro e w15 ⟨x1, hx1, rfl, HV, -⟩)
        | (go_at_call 39; (with_reducible refine (HN3.out _ HV).mono ?_); rintro e w16 ⟨x2, hx2, rfl, HV, -⟩; have k25 : w16.cell? ⟨F, 25, none⟩ = some (.int .u16 0) := HV.cv.c 25; have f25 := HV.cv.fz 25; have HK : Hid (∀ v, (w16.setCell ⟨F, 25, none⟩ v).cell? ⟨F, 23, none⟩ = some (.int .u16 (st : Int))) := Lib.hid fun v => (World.cell?_setCell_other w16 _ _ v (by simp)).trans (HV.cv.c 23)))
    obtain ⟨y, hy⟩ : ∃ y, y = x1 * x2 := ⟨_, rfl⟩
    have hy2 : y < 1200 := by
      rw [hy]
      have := Nat.mul_le_mul (show x1 ≤ 3 by omega) (show x2 ≤ 299 by omega)
      omega
    have hdv : bits .andNot .u16 (st : Int) (IntKind.u16.wrap (IntKind.i64.wrap ((x1 : Int) * (x2 : Int)))) = ((andn st y : Nat) : Int) := by
      rw [show (x1 : Int) * (x2 : Int) = (y : Int) by rw [hy]; push_cast; rfl, IntWalk.i64_in _ (by omega), IntWalk.u16_in _ ⟨by omega, by omega⟩, bits_andn]
    have hS17 := HV.set 25 (.int .u16 ((andn st y : Nat) : Int)) ⟨nu, ty, un, nm, ei, en, true, C4p.noCv, 0, 0, 0, 0, 0, 0, 0, 0, 0, st, av, andn st y, on, 1⟩ (.slice none 0 0) rfl
    have hvd := inm_andn st y
    have hdl := andn_lt st y
    rw [← hdv] at hS17
    generalize hW17 : w16.setCell ⟨F, 25, none⟩ (.int .u16 (bits .andNot .u16 (st : Int) (IntKind.u16.wrap (IntKind.i64.wrap ((x1 : Int) * (x2 : Int)))))) = w17 at *
    generalize andn st y = dv at *
    have hvs := vs_dig (nu := nu) (ty := ty) (un := un) (ei := ei) (en := en) (nm := nm) (st := st) (av := av) (dv := dv) (on := on) HOK.out (by omega) hva.out hvd
    have hfit : Sn.Fit ⟨nu, ty, un, nm, ei, en, true, C4p.noCv, 0, 0, 0, 0, 0, 0, 0, 0, 0, st, av, dv, on, 1⟩ := ⟨by show st < 65536; omega, hal.out, hdl⟩
    have HVS := Lib.hid hvs
    have HFIT := Lib.hid hfit
    clear hdv HV HN4 HN3 HK k25 f25 hS14 hW17 hvd hdl hy hy2 hvs hfit
    refine Hid.out ?_
    refine Lib.hid ?_
    go_wp2_with (first
      | (refine wpList_load_bx rfl (.tmp 5) rfl _ _ _ rfl hS17.cv ?_)
      | (refine wpList_store_bx rfl (.tmp 4) (.tmp 48) rfl w.heap.size ⟨nu, ty, un, nm, ei, en, true, C4p.noCv, 0, 0, 0, 0, 0, 0, 0, 0, 0, st, av, dv, on, 1⟩ noSn (.slice none 0 0) (.slice none 0 0) rfl rfl rfl hS17.res ?_; intro w18 hx18 hg18; refine Hid.out ?_))
    refine Lib.hid ?_
    have hd18 := hS17.dz.grown hg18 (fun e => by injection e; omega) (fun k hk => by injection hk; omega)
    have hgr18 := grown_new hS17.gr hg18 (fun b hb => by injection hb; omega)
    clear hS17 hg18
    go_wp2_with fail
    exact send Try.results32 hd18 hx18 hgr18 HVS.out HFIT.out rfl POwn.nil rfl rfl
end Go.Proofs.Ytcnkiecdagjgmaa.Tl
namespace Go.Proofs.Ytcnkiecdagjgmaa.Tl
open Go.RowKit Go.Proofs.Ytcnkiecdagjgmaa.Mem Go.Proofs.Ytcnkiecdagjgmaa.F2p Go.Proofs.Ytcnkiecdagjgmaa.Made Go.Proofs.Ytcnkiecdagjgmaa.C4l Go.Proofs.Ytcnkiecdagjgmaa.D5 Go.Proofs.Ytcnkiecdagjgmaa.Ta Go.Proofs.Ytcnkiecdagjgmaa.Tb
set_option maxRecDepth 100000
set_option maxHeartbeats 1000000

/-- What the dice's Analog and Digital leave. -/
def SndD (d : Bool) (w : World) (g n c : Nat) (A : Option Addr) (l : List Int) (nu : UInt8) (e : Ending) (w' : World) : Prop :=
  ∃ (s : Sn) (V : Value), e = .returned (.agg (cells s V)) ∧ vs s = true ∧ s.Fit ∧ s.nu = nu ∧ s.d = d ∧ POwn w.heap.size w' V s.c.p ∧ Dz w' g A n c l ∧ w.grownBy w' (some g)
theorem sendD {w0 w : World} {g n c r : Nat} {A : Option Addr} {l : List Int} {s : Sn} {V : Value} {a : Act} {nu : UInt8} {d : Bool} {p : Tmp} {fn : Func}
    (hf : fn.results = #[.cell p 32]) (hd0 : Dz w g A n c l) (hr : Bx w r s V) (hg0 : w0.grownBy w (some g)) (hv : vs s = true) (hfit : s.Fit) (hnu : s.nu = nu) (hdd : s.d = d) (ho : POwn w0.heap.size w V s.c.p) (ht : a.tmps.getD p undef = .pointer (some ⟨r, 0, none⟩)) (hd : a.defers = []) :
    bodyPost Try.prog fn (SndD d w0 g n c A l nu) .ret a w :=
  bodyPost_ret (results_cell_row hf _ _ r _ _ _ _ ht hr Try.underlying32 rfl (by kernel_rfl)) hd ⟨s, V, rfl, hv, hfit, hnu, hdd, ho, hd0, hg0⟩
theorem digital_any {w : World} {g n c : Nat} {A : Option Addr} {l : List Int} (nu : UInt8) (h : Dz w g A n c l) :
    Calls Try.prog 46 #[.pointer (some ⟨g, 0, none⟩), .int .u8 (nu.toNat : Int)] w (SndD true w g n c A l nu) := by
  have hlt := h.lt
  have hal0 := World.grownBy_alloc w (.cells #[.int .u8 0, .int .u8 0, .int .u8 0, .string ⟨#[]⟩, .int .u8 0, .int .u8 0, .bool false, .int .i64 0, .bool false, .int .i64 0, .int .i64 0, .int .i64 0, .int .i64 0, .slice none 0 0, .int .u8 0, .int .u8 0, .int .u8 0, .int .u8 0, .int .u8 0, .int .u8 0, .int .u8 0, .int .u8 0, .int .u8 0, .int .u16 0, .int .u16 0, .int .u16 0, .bool false, .int .i64 0] 32) (some g)
  have hd0 := h.grown (World.grownBy_alloc w (.cells #[.int .u8 0, .int .u8 0, .int .u8 0, .string ⟨#[]⟩, .int .u8 0, .int .u8 0, .bool false, .int .i64 0, .bool false, .int .i64 0, .int .i64 0, .int .i64 0, .int .i64 0, .slice none 0 0, .int .u8 0, .int .u8 0, .int .u8 0, .int .u8 0, .int .u8 0, .int .u8 0, .int .u8 0, .int .u8 0, .int .u8 0, .int .u16 0, .int .u16 0, .int .u16 0, .bool false, .int .i64 0] 32) none) (by simp) (fun k hk => by cases hk)
  have hst0 := Bx.zero w
  clear h
  go_enter Try.func46, Try.ntmps46
  go_wp2_with fail
  generalize w.alloc (.cells #[.int .u8 0, .int .u8 0, .int .u8 0, .string ⟨#[]⟩, .int .u8 0, .int .u8 0, .bool false, .int .i64 0, .bool false, .int .i64 0, .int .i64 0, .int .i64 0, .int .i64 0, .slice none 0 0, .int .u8 0, .int .u8 0, .int .u8 0, .int .u8 0, .int .u8 0, .int .u8 0, .int .u8 0, .int .u8 0, .int .u8 0, .int .u16 0, .int .u16 0, .int .u16 0, .bool false, .int .i64 0] 32) = w1 at *
  refine (hd0.next 4 (by omega) (by omega)).mono ?_
  rintro e w2 ⟨q1, hq1, rfl, hd2, hg2⟩
  have hst2 := hst0.kept hg2 (fun e => by injection e; omega)
  have hgw2 := grown_trans hal0 hg2
  clear hd0 hal0 hst0 hg2
  go_wp2_with fail
  refine (entity_any hd2).mono ?_
  rintro e w3 ⟨ei, en, rfl, hd3, hg3⟩
  have hst3 := hst2.kept hg3 (fun e => by injection e; omega)
  have hgw3 := grown_trans hgw2 hg3
  clear hd2 hgw2 hst2 hg3
  go_wp2_with fail
  refine (hd3.next 32768 (by omega) (by omega)).mono ?_
  rintro e w4 ⟨st, hst, rfl, hd4, hg4⟩
  have hst4 := hst3.kept hg4 (fun e => by injection e; omega)
  have hgw4 := grown_trans hgw3 hg4
  clear hd3 hgw3 hst3 hg4
  go_wp2_with fail
  refine (hd4.bool 4 (by omega) (by omega)).mono ?_
  rintro e w7 ⟨on, rfl, hd7, hg7⟩
  have hst7 := hst4.kept hg7 (fun e => by injection e; omega)
  have hgw7 := grown_trans hgw4 hg7
  clear hgw4 hst4 hg7 hd4
  obtain ⟨ty, hty⟩ := u8_int (1 + q1) (by omega)
  have hty2 : (1 + (q1 : Int)) = (ty.toNat : Int) := by rw [← hty]; push_cast; rfl
  have HTY := Lib.hid hty2
  have hz7 := Bx.zero w7
  have hd8 := hd7.grown (World.grownBy_alloc w7 (.cells #[.int .u8 0, .int .u8 0, .int .u8 0, .string ⟨#[]⟩, .int .u8 0, .int .u8 0, .bool false, .int .i64 0, .bool false, .int .i64 0, .int .i64 0, .int .i64 0, .int .i64 0, .slice none 0 0, .int .u8 0, .int .u8 0, .int .u8 0, .int .u8 0, .int .u8 0, .int .u8 0, .int .u8 0, .int .u8 0, .int .u8 0, .int .u16 0, .int .u16 0, .int .u16 0, .bool false, .int .i64 0] 32) none) (by simp) (fun k hk => by cases hk)
  have hr8 := hst7.alloc (.cells #[.int .u8 0, .int .u8 0, .int .u8 0, .string ⟨#[]⟩, .int .u8 0, .int .u8 0, .bool false, .int .i64 0, .bool false, .int .i64 0, .int .i64 0, .int .i64 0, .int .i64 0, .slice none 0 0, .int .u8 0, .int .u8 0, .int .u8 0, .int .u8 0, .int .u8 0, .int .u8 0, .int .u8 0, .int .u8 0, .int .u8 0, .int .u16 0, .int .u16 0, .int .u16 0, .bool false, .int .i64 0] 32)
  have hg8 := grown_trans hgw7 (World.grownBy_alloc w7 (.cells #[.int .u8 0, .int .u8 0, .int .u8 0, .string ⟨#[]⟩, .int .u8 0, .int .u8 0, .bool false, .int .i64 0, .bool false, .int .i64 0, .int .i64 0, .int .i64 0, .int .i64 0, .slice none 0 0, .int .u8 0, .int .u8 0, .int .u8 0, .int .u8 0, .int .u8 0, .int .u8 0, .int .u8 0, .int .u8 0, .int .u8 0, .int .u16 0, .int .u16 0, .int .u16 0, .bool false, .int .i64 0] 32) (some g))
  have hF := hst7.lt
  clear hty hty2 hd7 hst7 hgw7
  go_wp2_with (refine wpList_store_bx rfl (.tmp 5) (.tmp 18) rfl w7.heap.size ⟨nu, ty, 0, ⟨#[115, 116, 97, 116, 101]⟩, ei, en, true, C4p.noCv, 0, 0, 0, 0, 0, 0, 0, 0, 0, st, 0, 0, on, 1⟩ noSn (.slice none 0 0) (.slice none 0 0) rfl (by show Value.agg #[.int .u8 (nu.toNat : Int), .int .u8 (1 + (q1 : Int)), .int .u8 0, .string ⟨#[115, 116, 97, 116, 101]⟩, .int .u8 (ei.toNat : Int), .int .u8 (en.toNat : Int), .bool true, .int .i64 0, .bool false, .int .i64 0, .int .i64 0, .int .i64 0, .int .i64 0, .slice none 0 0, .int .u8 0, .int .u8 0, .int .u8 0, .int .u8 0, .int .u8 0, .int .u8 0, .int .u8 0, .int .u8 0, .int .u8 0, .int .u16 (st : Int), .int .u16 0, .int .u16 0, .bool on, .int .i64 1] = _; rw [HTY.out]; rfl) rfl hz7 ?_; intro w8 hx8 hgr8; refine Hid.out ?_)
  refine Lib.hid ?_
  have hS : Ss w w8 g n c A l w.heap.size w7.heap.size ⟨nu, ty, 0, ⟨#[115, 116, 97, 116, 101]⟩, ei, en, true, C4p.noCv, 0, 0, 0, 0, 0, 0, 0, 0, 0, st, 0, 0, on, 1⟩ (.slice none 0 0) :=
    ⟨hd8.grown hgr8 (fun e => by injection e; omega) (fun k hk => by injection hk; omega), hr8.kept hgr8 (fun e => by injection e; omega), hx8, grown_new hg8 hgr8 (fun b hb => by injection hb; omega), Nat.le_refl _, hF, hlt⟩
  clear hz7 hd8 hr8 hg8 hx8 hgr8 hF hq1 HTY
  generalize w7.heap.size = F at *
  have k23 : w8.cell? ⟨F, 23, none⟩ = some (.int .u16 (st : Int)) := hS.cv.c 23
  have k24 : w8.cell? ⟨F, 24, none⟩ = some (.int .u16 0) := hS.cv.c 24
  have f24 := hS.cv.fz 24
  have hS1 := hS.set 24 (.int .u16 (st : Int)) ⟨nu, ty, 0, ⟨#[115, 116, 97, 116, 101]⟩, ei, en, true, C4p.noCv, 0, 0, 0, 0, 0, 0, 0, 0, 0, st, st, 0, on, 1⟩ (.slice none 0 0) rfl
  have m23 : (w8.setCell ⟨F, 24, none⟩ (.int .u16 (st : Int))).cell? ⟨F, 23, none⟩ = some (.int .u16 (st : Int)) := hS1.cv.c 23
  have k25 : (w8.setCell ⟨F, 24, none⟩ (.int .u16 (st : Int))).cell? ⟨F, 25, none⟩ = some (.int .u16 0) := hS1.cv.c 25
  have f25 := hS1.cv.fz 25
  have hS2 := hS1.set 25 (.int .u16 (st : Int)) ⟨nu, ty, 0, ⟨#[115, 116, 97, 116, 101]⟩, ei, en, true, C4p.noCv, 0, 0, 0, 0, 0, 0, 0, 0, 0, st, st, st, on, 1⟩ (.slice none 0 0) rfl
  have HS2 := Lib.hid hS2
  have hvs := vs_dig (nu := nu) (ty := ty) (un := 0) (ei := ei) (en := en) (nm := ⟨#[115, 116, 97, 116, 101]⟩) (st := st) (av := st) (dv := st) (on := on) (by decide +kernel) (by omega) (inm_self st) (inm_self st)
  have HVS := Lib.hid hvs
  have HFIT : Hid (Sn.Fit ⟨nu, ty, 0, ⟨#[115, 116, 97, 116, 101]⟩, ei, en, true, C4p.noCv, 0, 0, 0, 0, 0, 0, 0, 0, 0, st, st, st, on, 1⟩) := Lib.hid ⟨by show st < 65536; omega, by show st < 65536; omega, by show st < 65536; omega⟩
  clear hS hS1 hS2 hvs
  go_wp2_with (refine wpList_load_bx rfl (.tmp 5) rfl F _ _ rfl HS2.out.cv ?_; refine Hid.out ?_)
  refine Lib.hid ?_
  have hS2 := HS2.out
  clear HS2
  generalize (w8.setCell ⟨F, 24, none⟩ (.int .u16 (st : Int))).setCell ⟨F, 25, none⟩ (.int .u16 (st : Int)) = w9 at *
  clear k23 k24 f24 m23 k25 f25
  go_wp2_with (refine wpList_store_bx rfl (.tmp 4) (.tmp 25) rfl w.heap.size ⟨nu, ty, 0, ⟨#[115, 116, 97, 116, 101]⟩, ei, en, true, C4p.noCv, 0, 0, 0, 0, 0, 0, 0, 0, 0, st, st, st, on, 1⟩ noSn (.slice none 0 0) (.slice none 0 0) rfl rfl rfl hS2.res ?_; intro w18 hx18 hg18; refine Hid.out ?_)
  refine Lib.hid ?_
  have hd18 := hS2.dz.grown hg18 (fun e => by injection e; omega) (fun k hk => by injection hk; omega)
  have hgr18 := grown_new hS2.gr hg18 (fun b hb => by injection hb; omega)
  clear hS2 hg18
  go_wp2_with fail
  exact sendD Try.results46 hd18 hx18 hgr18 HVS.out HFIT.out rfl rfl POwn.nil rfl rfl
end Go.Proofs.Ytcnkiecdagjgmaa.Tl
namespace Go.Proofs.Ytcnkiecdagjgmaa.Tl
open Go.RowKit Go.Proofs.Ytcnkiecdagjgmaa.Mem Go.Proofs.Ytcnkiecdagjgmaa.F2p Go.Proofs.Ytcnkiecdagjgmaa.Made Go.Proofs.Ytcnkiecdagjgmaa.C4l Go.Proofs.Ytcnkiecdagjgmaa.D5 Go.Proofs.Ytcnkiecdagjgmaa.Ta Go.Proofs.Ytcnkiecdagjgmaa.Tb
set_option maxRecDepth 100000
set_option maxHeartbeats 1000000

theorem vs_last (nu : UInt8) : vs ⟨nu, 1, 0, ⟨#[120]⟩, 0, 0, false, ⟨1, false, 1, 0, 0, 0, []⟩, 63, 30, 20, 10, 200, 210, 220, 2, 3, 0, 63, 63, false, 1⟩ = true := by
  rw [show vs ⟨nu, 1, 0, ⟨#[120]⟩, 0, 0, false, ⟨1, false, 1, 0, 0, 0, []⟩, 63, 30, 20, 10, 200, 210, 220, 2, 3, 0, 63, 63, false, 1⟩ = vs ⟨0, 1, 0, ⟨#[120]⟩, 0, 0, false, ⟨1, false, 1, 0, 0, 0, []⟩, 63, 30, 20, 10, 200, 210, 220, 2, 3, 0, 63, 63, false, 1⟩ from rfl]
  decide +kernel
theorem analog_any {w : World} {g n c : Nat} {A : Option Addr} {l : List Int} (nu : UInt8) (h : Dz w g A n c l) :
    Calls Try.prog 18 #[.pointer (some ⟨g, 0, none⟩), .int .u8 (nu.toNat : Int)] w (SndD false w g n c A l nu) := by
  have hlt := h.lt
  have hal0 := World.grownBy_alloc w (.cells #[.int .u8 0, .int .u8 0, .int .u8 0, .string ⟨#[]⟩, .int .u8 0, .int .u8 0, .bool false, .int .i64 0, .bool false, .int .i64 0, .int .i64 0, .int .i64 0, .int .i64 0, .slice none 0 0, .int .u8 0, .int .u8 0, .int .u8 0, .int .u8 0, .int .u8 0, .int .u8 0, .int .u8 0, .int .u8 0, .int .u8 0, .int .u16 0, .int .u16 0, .int .u16 0, .bool false, .int .i64 0] 32) (some g)
  have hd0 := h.grown (World.grownBy_alloc w (.cells #[.int .u8 0, .int .u8 0, .int .u8 0, .string ⟨#[]⟩, .int .u8 0, .int .u8 0, .bool false, .int .i64 0, .bool false, .int .i64 0, .int .i64 0, .int .i64 0, .int .i64 0, .slice none 0 0, .int .u8 0, .int .u8 0, .int .u8 0, .int .u8 0, .int .u8 0, .int .u8 0, .int .u8 0, .int .u8 0, .int .u8 0, .int .u16 0, .int .u16 0, .int .u16 0, .bool false, .int .i64 0] 32) none) (by simp) (fun k hk => by cases hk)
  have hst0 := Bx.zero w
  have HSN := Lib.hid fun (u : World) (hu : Dz u g A n c l) => sensor_any nu hu
  have HL := Lib.hid (vs_last nu)
  clear h
  go_enter Try.func18, Try.ntmps18
  go_wp2_with fail
  generalize w.alloc (.cells #[.int .u8 0, .int .u8 0, .int .u8 0, .string ⟨#[]⟩, .int .u8 0, .int .u8 0, .bool false, .int .i64 0, .bool false, .int .i64 0, .int .i64 0, .int .i64 0, .int .i64 0, .slice none 0 0, .int .u8 0, .int .u8 0, .int .u8 0, .int .u8 0, .int .u8 0, .int .u8 0, .int .u8 0, .int .u8 0, .int .u8 0, .int .u16 0, .int .u16 0, .int .u16 0, .bool false, .int .i64 0] 32) = w1 at *
  go_loopw [5, 6] (fun i _ wr => ∃ k : Nat, k ≤ 3 ∧ i = .int .i64 k ∧ Dz wr g A n c l ∧ Bx wr w.heap.size noSn (.slice none 0 0) ∧ w.grownBy wr (some g)) (fun i _ _ => 3 - (intOf i).toNat)
  case atStart => exact ⟨0, Nat.zero_le _, rfl, hd0, hst0, hal0⟩
  case round =>
    obtain ⟨k, hk, rfl, hdk, hbk, hgk⟩ := hrel
    clear hd0 hst0 hal0
    have hsz := hgk.size
    by_cases hlt3 : k < 3
    · go_wp2_with fail
      refine (HSN.out _ hdk).mono ?_
      rintro e w2 ⟨s, V, rfl, hv, hfit, hnu, hown, hd2, hg2⟩
      obtain ⟨VA, vn, vc, rfl, -⟩ := hown.sl
      have hsz2 := hg2.size
      have hb2 := hbk.kept hg2 (fun e => by injection e; omega)
      have hgw2 := grown_trans hgk hg2
      have hz2 := Bx.zero w2
      have hd3 := hd2.grown (World.grownBy_alloc w2 (.cells #[.int .u8 0, .int .u8 0, .int .u8 0, .string ⟨#[]⟩, .int .u8 0, .int .u8 0, .bool false, .int .i64 0, .bool false, .int .i64 0, .int .i64 0, .int .i64 0, .int .i64 0, .slice none 0 0, .int .u8 0, .int .u8 0, .int .u8 0, .int .u8 0, .int .u8 0, .int .u8 0, .int .u8 0, .int .u8 0, .int .u8 0, .int .u16 0, .int .u16 0, .int .u16 0, .bool false, .int .i64 0] 32) none) (by simp) (fun k hk => by cases hk)
      have hb3 := hb2.alloc (.cells #[.int .u8 0, .int .u8 0, .int .u8 0, .string ⟨#[]⟩, .int .u8 0, .int .u8 0, .bool false, .int .i64 0, .bool false, .int .i64 0, .int .i64 0, .int .i64 0, .int .i64 0, .slice none 0 0, .int .u8 0, .int .u8 0, .int .u8 0, .int .u8 0, .int .u8 0, .int .u8 0, .int .u8 0, .int .u8 0, .int .u8 0, .int .u16 0, .int .u16 0, .int .u16 0, .bool false, .int .i64 0] 32)
      have hg3 := grown_trans hgw2 (World.grownBy_alloc w2 (.cells #[.int .u8 0, .int .u8 0, .int .u8 0, .string ⟨#[]⟩, .int .u8 0, .int .u8 0, .bool false, .int .i64 0, .bool false, .int .i64 0, .int .i64 0, .int .i64 0, .int .i64 0, .slice none 0 0, .int .u8 0, .int .u8 0, .int .u8 0, .int .u8 0, .int .u8 0, .int .u8 0, .int .u8 0, .int .u8 0, .int .u8 0, .int .u16 0, .int .u16 0, .int .u16 0, .bool false, .int .i64 0] 32) (some g))
      have hF := hb2.lt
      have hown3 := pown_kept hown (World.grownBy_alloc w2 (.cells #[.int .u8 0, .int .u8 0, .int .u8 0, .string ⟨#[]⟩, .int .u8 0, .int .u8 0, .bool false, .int .i64 0, .bool false, .int .i64 0, .int .i64 0, .int .i64 0, .int .i64 0, .slice none 0 0, .int .u8 0, .int .u8 0, .int .u8 0, .int .u8 0, .int .u8 0, .int .u8 0, .int .u8 0, .int .u8 0, .int .u8 0, .int .u16 0, .int .u16 0, .int .u16 0, .bool false, .int .i64 0] 32) (some g)) (by omega)
      clear hdk hbk hgk hd2 hb2 hgw2 hown hg2
      go_wp2_with (refine wpList_store_bx rfl (.tmp 6) (.tmp 13) rfl w2.heap.size s noSn (.slice VA vn vc) (.slice none 0 0) rfl rfl rfl hz2 ?_; intro w4 hx4 hg4; refine Hid.out ?_)
      refine Lib.hid ?_
      have hd4 := hd3.grown hg4 (fun e => by injection e; omega) (fun k hk => by injection hk; omega)
      have hb4 := hb3.kept hg4 (fun e => by injection e; omega)
      have hgr4 := grown_new hg3 hg4 (fun b hb => by injection hb; omega)
      have hown4 := pown_far hown3 hz2 hg4
      clear hz2 hd3 hb3 hg3 hg4 hown3
      generalize w2.heap.size = F at *
      have k6 : w4.cell? ⟨F, 6, none⟩ = some (.bool s.d) := hx4.c 6
      obtain ⟨d, hd⟩ : ∃ d, d = s.d := ⟨_, rfl⟩
      rw [← hd] at k6
      have HX4 := Lib.hid hx4
      have HB4 := Lib.hid hb4
      have HDD := Lib.hid hd
      clear hx4 hb4 hd
      cases d
      · go_wp2_with (refine wpList_load_bx rfl (.tmp 6) rfl F _ _ rfl HX4.out ?_; refine Hid.out ?_)
        refine Lib.hid ?_
        have hb4 := HB4.out
        go_wp2_with (refine wpList_store_bx rfl (.tmp 4) (.tmp 17) rfl w.heap.size s noSn (.slice VA vn vc) (.slice none 0 0) rfl rfl rfl hb4 ?_; intro w5 hx5 hg5; refine Hid.out ?_)
        refine Lib.hid ?_
        have hd5 := hd4.grown hg5 (fun e => by injection e; omega) (fun k hk => by injection hk; omega)
        have hgr5 := grown_new hgr4 hg5 (fun b hb => by injection hb; omega)
        have hown5 := pown_base (pown_far hown4 hb4 hg5) (by omega)
        clear hd4 hb4 HB4 HX4 k6 hg5 hgr4 hown4
        go_wp2_with fail
        exact sendD Try.results18 hd5 hx5 hgr5 hv hfit hnu HDD.out.symm hown5 rfl rfl
      · go_wp2_with fail
        exact ⟨⟨k + 1, by omega, by go_num, hd4, HB4.out, hgr4⟩, by simp [intOf]; omega⟩
    · go_wp2_with (refine wpList_store_bx rfl (.tmp 4) (.tmp 22) rfl w.heap.size ⟨nu, 1, 0, ⟨#[120]⟩, 0, 0, false, ⟨1, false, 1, 0, 0, 0, []⟩, 63, 30, 20, 10, 200, 210, 220, 2, 3, 0, 63, 63, false, 1⟩ noSn (.slice none 0 0) (.slice none 0 0) rfl rfl rfl hbk ?_; intro w5 hx5 hg5; refine Hid.out ?_)
      refine Lib.hid ?_
      have hd5 := hdk.grown hg5 (fun e => by injection e; omega) (fun k hk => by injection hk; omega)
      have hgr5 := grown_new hgk hg5 (fun b hb => by injection hb; omega)
      clear hdk hbk hg5 hgk
      go_wp2_with fail
      exact sendD Try.results18 hd5 hx5 hgr5 HL.out ⟨by show (0 : Nat) < 65536; omega, by show (63 : Nat) < 65536; omega, by show (63 : Nat) < 65536; omega⟩ rfl rfl POwn.nil rfl rfl
end Go.Proofs.Ytcnkiecdagjgmaa.Tl
