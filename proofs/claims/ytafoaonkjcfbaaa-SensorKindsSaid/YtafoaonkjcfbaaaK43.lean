/- Plain mathematics of thresholds with hysteresis: states as sets of bits, what a reading reaches, changes. -/
import Derived.Test.YtafoaonkjcfbaaaK09
namespace Go.Proofs.Ytafoaonkjcfbaaa.Ya
open Go.Proofs.Ytafoaonkjcfbaaa.Ta
set_option maxRecDepth 100000

theorem has_tb (m i : Nat) : has m i = m.testBit i := by
  unfold has; rw [Nat.testBit_eq_decide_div_mod_eq]
/-- The first j bits of f, as a number. -/
def pk (f : Nat → Bool) : Nat → Nat
  | 0 => 0
  | j + 1 => pk f j + (if f j = true then 2 ^ j else 0)
theorem pk_lt (f : Nat → Bool) (j : Nat) : pk f j < 2 ^ j := by
  induction j with
  | zero => exact Nat.one_pos
  | succ j ih => unfold pk; rw [Nat.pow_succ]; split <;> omega
theorem pk_or (f : Nat → Bool) (j : Nat) : pk f j ||| 2 ^ j = pk f j + 2 ^ j := by
  have := Nat.two_pow_add_eq_or_of_lt (pk_lt f j) 1
  rw [Nat.mul_one] at this
  rw [Nat.or_comm, ← this, Nat.add_comm]
theorem pk_bit (f : Nat → Bool) (j i : Nat) : (pk f j).testBit i = (decide (i < j) && f i) := by
  induction j with
  | zero => simp [pk]
  | succ j ih =>
    unfold pk
    by_cases hf : f j = true
    · rw [if_pos hf, ← pk_or, Nat.testBit_or, ih, Nat.testBit_two_pow]
      by_cases h1 : i = j
      · subst h1; simp [hf]
      · have h2 : decide (j = i) = false := by simp; omega
        rw [h2, Bool.or_false]
        congr 1
        rw [Bool.eq_iff_iff]; simp; omega
    · rw [if_neg hf, Nat.add_zero, ih]
      by_cases h1 : i = j
      · subst h1; simp [hf]
      · congr 1
        rw [Bool.eq_iff_iff]; simp; omega
/-- A number x reaches threshold i, or misses it by at most lo (lower), hi (upper). -/
def rch (s : Sn) (x : Int) (lo hi : Nat) (i : Nat) : Bool := has s.mx.toNat i && (if i ≤ 2 then decide (x ≤ C4p.num s.c.s (s.raw.getD i 0) + (lo : Int)) else decide (C4p.num s.c.s (s.raw.getD i 0) - (hi : Int) ≤ x))
def wth (s : Sn) (x : Int) (lo hi : Nat) : Nat := pk (rch s x lo hi) 6
theorem wth_lt (s : Sn) (x : Int) (lo hi : Nat) : wth s x lo hi < 64 := pk_lt _ 6
theorem wth_bit (s : Sn) (x : Int) (lo hi i : Nat) (h : i < 6) : (wth s x lo hi).testBit i = rch s x lo hi i := by
  unfold wth; rw [pk_bit, decide_eq_true h, Bool.true_and]
theorem wth_out (s : Sn) (x : Int) (lo hi i : Nat) (h : 6 ≤ i) : (wth s x lo hi).testBit i = false := by
  unfold wth; rw [pk_bit, decide_eq_false (by omega), Bool.false_and]
/-- The next state. -/
def nxt (s : Sn) (x : Int) (st : Nat) : Nat := wth s x 0 0 ||| (st &&& wth s x s.hl.toNat s.hu.toNat)
theorem nxt_lt (s : Sn) (x : Int) (st : Nat) : nxt s x st < 64 :=
  Nat.or_lt_two_pow (n := 6) (wth_lt _ _ _ _) (Nat.and_lt_two_pow _ (wth_lt _ _ _ _))
theorem nxt_bit (s : Sn) (x : Int) (st i : Nat) (h : i < 6) : (nxt s x st).testBit i = (rch s x 0 0 i || (st.testBit i && rch s x s.hl.toNat s.hu.toNat i)) := by
  unfold nxt; rw [Nat.testBit_or, Nat.testBit_and, wth_bit _ _ _ _ _ h, wth_bit _ _ _ _ _ h]
theorem nxt_out (s : Sn) (x : Int) (st i : Nat) (h : 6 ≤ i) : (nxt s x st).testBit i = false := by
  unfold nxt; rw [Nat.testBit_or, Nat.testBit_and, wth_out _ _ _ _ _ h, wth_out _ _ _ _ _ h, Bool.and_false, Bool.or_self]
/-- The bits of a that are none of m, 8 bits. -/
def andn8 (a m : Nat) : Nat := (BitVec.ofNat 8 a &&& ~~~BitVec.ofNat 8 m).toNat
theorem andn8_bit (a m i : Nat) : (andn8 a m).testBit i = (decide (i < 8) && (a.testBit i && !m.testBit i)) := by
  unfold andn8
  rw [BitVec.testBit_toNat, BitVec.getLsbD_and, BitVec.getLsbD_not, BitVec.getLsbD_ofNat, BitVec.getLsbD_ofNat]
  cases decide (i < 8) <;> simp
theorem andn8_zero {a m : Nat} (h : ∀ i, i < 8 → a.testBit i = true → m.testBit i = true) : andn8 a m = 0 := by
  apply Nat.eq_of_testBit_eq
  intro i
  rw [andn8_bit, Nat.zero_testBit]
  by_cases hi : i < 8
  · rw [decide_eq_true hi, Bool.true_and]
    cases ha : a.testBit i
    · rfl
    · rw [h i hi ha]; rfl
  · rw [decide_eq_false hi, Bool.false_and]
theorem of_andn8 {a m i : Nat} (h : andn8 a m = 0) (hi : i < 8) (ha : a.testBit i = true) : m.testBit i = true := by
  have h1 := andn8_bit a m i
  rw [h, Nat.zero_testBit, decide_eq_true hi, ha] at h1
  cases hm : m.testBit i
  · rw [hm] at h1; cases h1
  · rfl
/-- A change: index, whether it is asserted. -/
structure Ch where
  (i : Nat) (on : Bool)
def ixs (a b j : Nat) : List Nat := (List.range j).filter fun i => a.testBit i != b.testBit i
def chs (a b j : Nat) : List Ch := (ixs a b j).map fun i => ⟨i, b.testBit i⟩
theorem chs_zero (a b : Nat) : chs a b 0 = [] := rfl
theorem ixs_succ (a b j : Nat) : ixs a b (j + 1) = ixs a b j ++ (if a.testBit j = b.testBit j then [] else [j]) := by
  unfold ixs
  rw [List.range_succ, List.filter_append]
  congr 1
  by_cases h : a.testBit j = b.testBit j
  · rw [if_pos h]; simp [h]
  · rw [if_neg h]; simp [h]
theorem chs_same {a b j : Nat} (h : a.testBit j = b.testBit j) : chs a b (j + 1) = chs a b j := by
  unfold chs; rw [ixs_succ, if_pos h, List.append_nil]
theorem chs_diff {a b j : Nat} (h : a.testBit j ≠ b.testBit j) : chs a b (j + 1) = chs a b j ++ [⟨j, b.testBit j⟩] := by
  unfold chs; rw [ixs_succ, if_neg h, List.map_append]; rfl
theorem ixs_len (a b j : Nat) : (ixs a b j).length ≤ j := by
  unfold ixs; have := List.length_filter_le (fun i => a.testBit i != b.testBit i) (List.range j); rwa [List.length_range] at this
theorem chs_len (a b j : Nat) : (chs a b j).length ≤ j := by
  unfold chs; rw [List.length_map]; exact ixs_len a b j
theorem chs_len2 (a b j : Nat) : (chs a b j).length = (ixs a b j).length := by unfold chs; rw [List.length_map]
theorem mem_ixs {a b j i : Nat} : i ∈ ixs a b j ↔ i < j ∧ a.testBit i ≠ b.testBit i := by
  unfold ixs; rw [List.mem_filter, List.mem_range]; simp
theorem ixs_asc (a b j : Nat) : (ixs a b j).Pairwise (· < ·) := List.Pairwise.filter _ List.pairwise_lt_range
theorem chs_get (a b j k : Nat) (h : k < (chs a b j).length) (h2 : k < (ixs a b j).length) : (chs a b j)[k] = ⟨(ixs a b j)[k], b.testBit (ixs a b j)[k]⟩ :=
  List.getElem_map (l := ixs a b j) (fun i => (⟨i, b.testBit i⟩ : Ch))
theorem ixs_get (a b j k : Nat) (h : k < (ixs a b j).length) : (ixs a b j)[k] < j ∧ a.testBit (ixs a b j)[k] ≠ b.testBit (ixs a b j)[k] := mem_ixs.1 (List.getElem_mem h)
theorem ixs_lt (a b j : Nat) {m k : Nat} (hm : m < k) (h : k < (ixs a b j).length) : (ixs a b j)[m] < (ixs a b j)[k] := (List.pairwise_iff_getElem.1 (ixs_asc a b j)) m k (by omega) h hm
theorem ixs_new (a b j k : Nat) (h : k < (ixs a b j).length) : (ixs a b j)[k] ∉ (ixs a b j).take k := by
  intro hm
  obtain ⟨m, hm1, hm2⟩ := List.getElem_of_mem hm
  rw [List.length_take] at hm1
  rw [List.getElem_take] at hm2
  have := ixs_lt a b j (m := m) (k := k) (by omega) h
  omega
theorem mem_take_succ {l : List Nat} {k : Nat} (h : k < l.length) (i : Nat) : i ∈ l.take (k + 1) ↔ i ∈ l.take k ∨ i = l[k] := by
  rw [List.take_succ_eq_append_getElem h, List.mem_append, List.mem_singleton]
theorem stays (a b n : Nat) (ha : a < 2 ^ n) (hb : b < 2 ^ n) (w : Nat) (h : ∀ i, w.testBit i = if i ∈ (ixs a b n) then b.testBit i else a.testBit i) : w = b := by
  apply Nat.eq_of_testBit_eq
  intro i
  rw [h i]
  split
  · rfl
  · rename_i h1
    by_cases hi : i < n
    · rcases Decidable.em (a.testBit i = b.testBit i) with h2 | h2
      · exact h2
      · exact absurd (mem_ixs.2 ⟨hi, h2⟩) h1
    · have hp : 2 ^ n ≤ 2 ^ i := Nat.pow_le_pow_right (by omega) (by omega)
      rw [Nat.testBit_lt_two_pow (by omega : a < 2 ^ i), Nat.testBit_lt_two_pow (by omega : b < 2 ^ i)]
/-! Thresholds in their order. -/
theorem ord_of {s : Sn} (hv : vs s = true) (hd : s.d = false) {i j : Nat} (hij : i < j) (hj : j < 6) (hi2 : s.mx.toNat.testBit i = true) (hj2 : s.mx.toNat.testBit j = true) :
    fol i j (C4p.num s.c.s (s.raw.getD i 0)) (C4p.num s.c.s (s.raw.getD j 0)) = true := by
  unfold vs at hv
  rw [hd] at hv
  simp only [Bool.and_eq_true, Bool.false_eq_true, if_false] at hv
  obtain ⟨-, -, hv⟩ := hv
  unfold ana lims at hv
  simp only [Bool.and_eq_true] at hv
  obtain ⟨-, ⟨-, -, hv⟩, -⟩ := hv
  unfold ordd at hv
  rw [List.all_eq_true] at hv
  have h1 := hv j (List.mem_range.2 hj)
  rw [List.all_eq_true] at h1
  have h2 := h1 i (List.mem_range.2 hij)
  unfold pair at h2
  rw [has_tb, has_tb, hi2, hj2] at h2
  cases h3 : fol i j (C4p.num s.c.s (s.raw.getD i 0)) (C4p.num s.c.s (s.raw.getD j 0))
  · rw [h3] at h2; cases h2
  · rfl
theorem mask_lt {s : Sn} (hv : vs s = true) (hd : s.d = false) : s.mx.toNat < 64 := by
  unfold vs at hv
  rw [hd] at hv
  simp only [Bool.and_eq_true, Bool.false_eq_true, if_false] at hv
  obtain ⟨-, -, hv⟩ := hv
  unfold ana lims at hv
  simp only [Bool.and_eq_true] at hv
  obtain ⟨-, ⟨hv, -⟩, -⟩ := hv
  have := of_decide_eq_true hv
  omega
theorem rch_iff {s : Sn} {x : Int} {lo hi i : Nat} : rch s x lo hi i = true ↔ s.mx.toNat.testBit i = true ∧ (i ≤ 2 → x ≤ C4p.num s.c.s (s.raw.getD i 0) + (lo : Int)) ∧ (2 < i → C4p.num s.c.s (s.raw.getD i 0) - (hi : Int) ≤ x) := by
  unfold rch
  rw [Bool.and_eq_true, has_tb]
  by_cases h : i ≤ 2
  · rw [if_pos h, decide_eq_true_eq]
    exact and_congr_right fun _ => ⟨fun h1 => ⟨fun _ => h1, fun h2 => by omega⟩, fun h1 => h1.1 h⟩
  · rw [if_neg h, decide_eq_true_eq]
    exact and_congr_right fun _ => ⟨fun h1 => ⟨fun h2 => absurd h2 h, fun _ => h1⟩, fun h1 => h1.2 (by omega)⟩
/-- A less severe threshold is reached before a more severe one. -/
theorem rch_less {s : Sn} (hv : vs s = true) (hd : s.d = false) {x : Int} {lo hi j k : Nat} (hjk : j < k) (hk : k < 6) (hs : k / 3 = j / 3) (hj : s.mx.toNat.testBit j = true) (h : rch s x lo hi k = true) : rch s x lo hi j = true := by
  obtain ⟨h1, h2, h3⟩ := rch_iff.1 h
  have ho := ord_of hv hd hjk hk hj h1
  unfold fol at ho
  refine rch_iff.2 ⟨hj, fun hj2 => ?_, fun hj2 => ?_⟩
  · rw [if_pos (by omega)] at ho
    have := of_decide_eq_true ho
    have := h2 (by omega)
    omega
  · rw [if_neg (by omega), if_pos (by omega)] at ho
    have := of_decide_eq_true ho
    have := h3 (by omega)
    omega
/-- What holds of a state of Steps only: within the mask, nested. -/
def Nest (s : Sn) (st : Nat) : Prop := st < 64 ∧ (∀ i, i < 6 → st.testBit i = true → s.mx.toNat.testBit i = true) ∧ ∀ j k, j < k → k < 6 → k / 3 = j / 3 → s.mx.toNat.testBit j = true → st.testBit k = true → st.testBit j = true
theorem nest_zero (s : Sn) : Nest s 0 := by
  refine ⟨by omega, fun i _ h => ?_, fun j k _ _ _ _ h => ?_⟩ <;> (rw [Nat.zero_testBit] at h; cases h)
theorem nxt_in {s : Sn} {x : Int} {st i : Nat} (hi : i < 6) (h : (nxt s x st).testBit i = true) : s.mx.toNat.testBit i = true := by
  rw [nxt_bit _ _ _ _ hi, Bool.or_eq_true, Bool.and_eq_true] at h
  rcases h with h | h
  · exact (rch_iff.1 h).1
  · exact (rch_iff.1 h.2).1
theorem nest_next {s : Sn} (hv : vs s = true) (hd : s.d = false) (x : Int) {st : Nat} (h : Nest s st) : Nest s (nxt s x st) := by
  refine ⟨nxt_lt _ _ _, fun i hi hb => nxt_in hi hb, fun j k hjk hk hs hj hb => ?_⟩
  rw [nxt_bit _ _ _ _ hk, Bool.or_eq_true, Bool.and_eq_true] at hb
  rw [nxt_bit _ _ _ _ (by omega), Bool.or_eq_true, Bool.and_eq_true]
  rcases hb with hb | hb
  · exact .inl (rch_less hv hd hjk hk hs hj hb)
  · exact .inr ⟨h.2.2 j k hjk hk hs hj hb.1, rch_less hv hd hjk hk hs hj hb.2⟩
/-- A state within the mask is no error. -/
theorem nest_andn {s : Sn} {st : Nat} (h : Nest s st) : andn8 st s.mx.toNat = 0 := andn8_zero fun i hi hb => by
  rcases Nat.lt_or_ge i 6 with h1 | h1
  · exact h.2.1 i h1 hb
  · have hp : 2 ^ 6 ≤ 2 ^ i := Nat.pow_le_pow_right (by omega) h1
    have := h.1
    rw [Nat.testBit_lt_two_pow (by omega : st < 2 ^ i)] at hb; cases hb
theorem rch_wide {s : Sn} {x : Int} {i : Nat} (lo hi : Nat) (h : rch s x 0 0 i = true) : rch s x lo hi i = true := by
  obtain ⟨h1, h2, h3⟩ := rch_iff.1 h
  exact rch_iff.2 ⟨h1, fun h => by have := h2 h; omega, fun h => by have := h3 h; omega⟩
/-- A second step with the same reading changes nothing. -/
theorem nxt_twice (s : Sn) (x : Int) (st : Nat) : nxt s x (nxt s x st) = nxt s x st := by
  apply Nat.eq_of_testBit_eq
  intro i
  rcases Nat.lt_or_ge i 6 with h | h
  · rw [nxt_bit _ _ _ _ h, nxt_bit _ _ _ _ h]
    have h1 := rch_wide (s := s) (x := x) (i := i) s.hl.toNat s.hu.toNat
    cases rch s x 0 0 i <;> cases st.testBit i <;> cases h2 : rch s x s.hl.toNat s.hu.toNat i <;> simp_all
  · rw [nxt_out _ _ _ _ h, nxt_out _ _ _ _ h]
/-- More extreme readings reach no fewer on their side, and no more on the other. -/
theorem rch_low {s : Sn} {x y : Int} (hxy : x ≤ y) {i : Nat} (hi : i ≤ 2) (h : rch s y 0 0 i = true) : rch s x 0 0 i = true := by
  obtain ⟨h1, h2, h3⟩ := rch_iff.1 h
  exact rch_iff.2 ⟨h1, fun h => by have := h2 h; omega, fun h => by omega⟩
theorem rch_up {s : Sn} {x y : Int} (hxy : x ≤ y) {i : Nat} (hi : 2 < i) (h : rch s x 0 0 i = true) : rch s y 0 0 i = true := by
  obtain ⟨h1, h2, h3⟩ := rch_iff.1 h
  exact rch_iff.2 ⟨h1, fun h => by omega, fun h => by have := h3 h; omega⟩
theorem rch_both {s : Sn} (hv : vs s = true) (hd : s.d = false) {x : Int} {i j : Nat} (hi : i ≤ 2) (hj : 2 < j) (hj6 : j < 6) (h1 : rch s x 0 0 i = true) (h2 : rch s x 0 0 j = true) : False := by
  obtain ⟨a1, a2, -⟩ := rch_iff.1 h1
  obtain ⟨b1, -, b3⟩ := rch_iff.1 h2
  have ho := ord_of hv hd (show i < j by omega) hj6 a1 b1
  unfold fol at ho
  rw [if_neg (by omega), if_neg (by omega)] at ho
  have := of_decide_eq_true ho
  have := a2 hi
  have := b3 hj
  omega
/-- The hysteresis of a threshold. -/
def hys (s : Sn) (j : Nat) : Int := if j ≤ 2 then (s.hl.toNat : Int) else (s.hu.toNat : Int)
/-- What the last reading at a change says of a threshold's state now. -/
def Lst (s : Sn) (st : Nat) (j : Nat) (L : Int) : Prop :=
  L = 1000 ∨ (st.testBit j = true → rch s L 0 0 j = true) ∧ (st.testBit j = false → rch s L s.hl.toNat s.hu.toNat j = false)
theorem lst_flap {s : Sn} {st j : Nat} {L x : Int} (hj : j < 6) (h : Lst s st j L) (hL : L ≠ 1000) (hd : st.testBit j ≠ (nxt s x st).testBit j) : hys s j < x - L ∨ hys s j < L - x := by
  rcases h with h | ⟨h1, h2⟩
  · exact absurd h hL
  rw [nxt_bit _ _ _ _ hj] at hd
  unfold hys
  cases hb : st.testBit j
  · have g1 := h2 hb
    rw [hb, Bool.false_and, Bool.or_false] at hd
    have g2 : rch s x 0 0 j = true := by cases hq : rch s x 0 0 j <;> simp_all
    obtain ⟨m1, m2, m3⟩ := rch_iff.1 g2
    by_cases h : j ≤ 2
    · rw [if_pos h]
      have := m2 h
      right
      rcases Int.lt_or_le (s.hl.toNat : Int) (L - x) with g | g
      · exact g
      · have : rch s L s.hl.toNat s.hu.toNat j = true := rch_iff.2 ⟨m1, fun _ => by omega, fun h => by omega⟩
        rw [this] at g1; cases g1
    · rw [if_neg h]
      have := m3 (by omega)
      left
      rcases Int.lt_or_le (s.hu.toNat : Int) (x - L) with g | g
      · exact g
      · have : rch s L s.hl.toNat s.hu.toNat j = true := rch_iff.2 ⟨m1, fun h => by omega, fun _ => by omega⟩
        rw [this] at g1; cases g1
  · have g1 := h1 hb
    rw [hb, Bool.true_and] at hd
    obtain ⟨m1, m2, m3⟩ := rch_iff.1 g1
    have g2 : rch s x s.hl.toNat s.hu.toNat j = false := by cases hq : rch s x s.hl.toNat s.hu.toNat j <;> simp_all
    by_cases h : j ≤ 2
    · rw [if_pos h]
      have := m2 h
      left
      rcases Int.lt_or_le (s.hl.toNat : Int) (x - L) with g | g
      · exact g
      · have : rch s x s.hl.toNat s.hu.toNat j = true := rch_iff.2 ⟨m1, fun _ => by omega, fun h => by omega⟩
        rw [this] at g2; cases g2
    · rw [if_neg h]
      have := m3 (by omega)
      right
      rcases Int.lt_or_le (s.hu.toNat : Int) (L - x) with g | g
      · exact g
      · have : rch s x s.hl.toNat s.hu.toNat j = true := rch_iff.2 ⟨m1, fun h => by omega, fun _ => by omega⟩
        rw [this] at g2; cases g2
theorem lst_new {s : Sn} {st j : Nat} {x : Int} (hj : j < 6) (hd : st.testBit j ≠ (nxt s x st).testBit j) : Lst s (nxt s x st) j x := by
  right
  rw [nxt_bit _ _ _ _ hj] at hd ⊢
  cases hb : st.testBit j
  · rw [hb, Bool.false_and, Bool.or_false] at hd
    rw [Bool.false_and, Bool.or_false]
    refine ⟨id, fun h => ?_⟩
    rw [h] at hd; exact absurd rfl hd
  · rw [hb, Bool.true_and] at hd
    have h1 := rch_wide (s := s) (x := x) (i := j) s.hl.toNat s.hu.toNat
    cases hq : rch s x s.hl.toNat s.hu.toNat j <;> cases hp : rch s x 0 0 j <;> simp_all
theorem lst_old {s : Sn} {st j : Nat} {L x : Int} (h : Lst s st j L) (he : st.testBit j = (nxt s x st).testBit j) : Lst s (nxt s x st) j L := by
  unfold Lst at h ⊢
  rwa [← he]
/-! Without hysteresis. -/
def noHy (s : Sn) : Sn := { s with hl := 0, hu := 0 }
theorem rch_noHy (s : Sn) (x : Int) (lo hi i : Nat) : rch (noHy s) x lo hi i = rch s x lo hi i := rfl
theorem wth_noHy (s : Sn) (x : Int) (lo hi : Nat) : wth (noHy s) x lo hi = wth s x lo hi := rfl
theorem vs_noHy (s : Sn) (hd : s.d = false) : vs (noHy s) = vs s := by
  unfold vs noHy; rw [hd]; rfl
theorem nxt_noHy (s : Sn) (x : Int) (st : Nat) : nxt (noHy s) x st = wth s x 0 0 := by
  apply Nat.eq_of_testBit_eq
  intro i
  rcases Nat.lt_or_ge i 6 with h | h
  · rw [nxt_bit _ _ _ _ h, wth_bit _ _ _ _ _ h, rch_noHy]
    show (rch s x 0 0 i || (st.testBit i && rch s x 0 0 i)) = _
    cases rch s x 0 0 i <;> simp
  · rw [nxt_out _ _ _ _ h, wth_out _ _ _ _ _ h]
/-- Hysteresis only keeps: what is next and neither reached nor asserted before is nothing. -/
theorem nxt_keeps (s : Sn) (x : Int) (st : Nat) : andn8 (nxt s x st) (wth s x 0 0 ||| st) = 0 := andn8_zero fun i _ h => by
  rcases Nat.lt_or_ge i 6 with hi | hi
  · rw [nxt_bit _ _ _ _ hi] at h
    rw [Nat.testBit_or, wth_bit _ _ _ _ _ hi]
    rcases Bool.or_eq_true _ _ |>.mp h with h | h
    · rw [h, Bool.true_or]
    · rw [Bool.and_eq_true] at h; rw [h.1, Bool.or_true]
  · rw [nxt_out _ _ _ _ hi] at h; cases h
theorem wth_in_nxt (s : Sn) (x : Int) (st : Nat) : andn8 (wth s x 0 0) (nxt s x st) = 0 := andn8_zero fun i _ h => by
  rcases Nat.lt_or_ge i 6 with hi | hi
  · rw [wth_bit _ _ _ _ _ hi] at h
    rw [nxt_bit _ _ _ _ hi, h, Bool.true_or]
  · rw [wth_out _ _ _ _ _ hi] at h; cases h
theorem nxt_in_mask (s : Sn) (x : Int) (st : Nat) : andn8 (nxt s x st) s.mx.toNat = 0 := andn8_zero fun i _ h => by
  rcases Nat.lt_or_ge i 6 with hi | hi
  · exact nxt_in hi h
  · rw [nxt_out _ _ _ _ hi] at h; cases h
theorem and_in_mask (st m : Nat) : andn8 (st &&& m) m = 0 := andn8_zero fun i _ h => by
  rw [Nat.testBit_and, Bool.and_eq_true] at h; exact h.2
end Go.Proofs.Ytafoaonkjcfbaaa.Ya
