/- Plain mathematics of thresholds with hysteresis: states as sets of bits, what a reading reaches, changes. Lists of changes in memory: words, loads, appends. Walks: the program's changes of a state. -/
import Derived.Test.YtcnkiecdagjgmaaTa
import Derived.Test.YtcnkiecdagjgmaaOwn
namespace Go.Proofs.Ytcnkiecdagjgmaa.Ya
open Go.Proofs.Ytcnkiecdagjgmaa.Ta
set_option maxRecDepth 100000

theorem has_tb (m i : Nat) : has m i = m.testBit i := by
  unfold has; rw [Nat.testBit_eq_decide_div_mod_eq]
/-- The first j bits of f, as a number. -/
def pk (f : Nat → Bool) : Nat → Nat
  | 0 => 0
  | j + 1 => pk f j + (if f j = true then 2 ^ j else 0)
theorem pk_lt (f : Nat → Bool) (j : Nat) : pk f j < 2 ^ j := by
  induction j with
  | zero => exact Nat.one_pos
  | succ j ih => unfold pk; rw [Nat.pow_succ]; split <;> omega
theorem pk_or (f : Nat → Bool) (j : Nat) : pk f j ||| 2 ^ j = pk f j + 2 ^ j := by
  have := Nat.two_pow_add_eq_or_of_lt (pk_lt f j) 1
  rw [Nat.mul_one] at this
  rw [Nat.or_comm, ← this, Nat.add_comm]
theorem pk_bit (f : Nat → Bool) (j i : Nat) : (pk f j).testBit i = (decide (i < j) && f i) := by
  induction j with
  | zero => simp [pk]
  | succ j ih =>
    unfold pk
    by_cases hf : f j = true
    · rw [if_pos hf, ← pk_or, Nat.testBit_or, ih, Nat.testBit_two_pow]
      by_cases h1 : i = j
      · subst h1; simp [hf]
      · have h2 : decide (j = i) = false := by simp; omega
        rw [h2, Bool.or_false]
        congr 1
        rw [Bool.eq_iff_iff]; simp; omega
    · rw [if_neg hf, Nat.add_zero, ih]
      by_cases h1 : i = j
      · subst h1; simp [hf]
      · congr 1
        rw [Bool.eq_iff_iff]; simp; omega
/-- A number x reaches threshold i, or misses it by at most lo (lower), hi (upper). -/
def rch (s : Sn) (x : Int) (lo hi : Nat) (i : Nat) : Bool := has s.mx.toNat i && (if i ≤ 2 then decide (x ≤ C4p.num s.c.s (s.raw.getD i 0) + (lo : Int)) else decide (C4p.num s.c.s (s.raw.getD i 0) - (hi : Int) ≤ x))
def wth (s : Sn) (x : Int) (lo hi : Nat) : Nat := pk (rch s x lo hi) 6
theorem wth_lt (s : Sn) (x : Int) (lo hi : Nat) : wth s x lo hi < 64 := pk_lt _ 6
theorem wth_bit (s : Sn) (x : Int) (lo hi i : Nat) (h : i < 6) : (wth s x lo hi).testBit i = rch s x lo hi i := by
  unfold wth; rw [pk_bit, decide_eq_true h, Bool.true_and]
theorem wth_out (s : Sn) (x : Int) (lo hi i : Nat) (h : 6 ≤ i) : (wth s x lo hi).testBit i = false := by
  unfold wth; rw [pk_bit, decide_eq_false (by omega), Bool.false_and]
/-- The next state. -/
def nxt (s : Sn) (x : Int) (st : Nat) : Nat := wth s x 0 0 ||| (st &&& wth s x s.hl.toNat s.hu.toNat)
theorem nxt_lt (s : Sn) (x : Int) (st : Nat) : nxt s x st < 64 :=
  Nat.or_lt_two_pow (n := 6) (wth_lt _ _ _ _) (Nat.and_lt_two_pow _ (wth_lt _ _ _ _))
theorem nxt_bit (s : Sn) (x : Int) (st i : Nat) (h : i < 6) : (nxt s x st).testBit i = (rch s x 0 0 i || (st.testBit i && rch s x s.hl.toNat s.hu.toNat i)) := by
  unfold nxt; rw [Nat.testBit_or, Nat.testBit_and, wth_bit _ _ _ _ _ h, wth_bit _ _ _ _ _ h]
theorem nxt_out (s : Sn) (x : Int) (st i : Nat) (h : 6 ≤ i) : (nxt s x st).testBit i = false := by
  unfold nxt; rw [Nat.testBit_or, Nat.testBit_and, wth_out _ _ _ _ _ h, wth_out _ _ _ _ _ h, Bool.and_false, Bool.or_self]
/-- The bits of a that are none of m, 8 bits. -/
def andn8 (a m : Nat) : Nat := (BitVec.ofNat 8 a &&& ~~~BitVec.ofNat 8 m).toNat
theorem andn8_bit (a m i : Nat) : (andn8 a m).testBit i = (decide (i < 8) && (a.testBit i && !m.testBit i)) := by
  unfold andn8
  rw [BitVec.testBit_toNat, BitVec.getLsbD_and, BitVec.getLsbD_not, BitVec.getLsbD_ofNat, BitVec.getLsbD_ofNat]
  cases decide (i < 8) <;> simp
theorem andn8_zero {a m : Nat} (h : ∀ i, i < 8 → a.testBit i = true → m.testBit i = true) : andn8 a m = 0 := by
  apply Nat.eq_of_testBit_eq
  intro i
  rw [andn8_bit, Nat.zero_testBit]
  by_cases hi : i < 8
  · rw [decide_eq_true hi, Bool.true_and]
    cases ha : a.testBit i
    · rfl
    · rw [h i hi ha]; rfl
  · rw [decide_eq_false hi, Bool.false_and]
theorem of_andn8 {a m i : Nat} (h : andn8 a m = 0) (hi : i < 8) (ha : a.testBit i = true) : m.testBit i = true := by
  have h1 := andn8_bit a m i
  rw [h, Nat.zero_testBit, decide_eq_true hi, ha] at h1
  cases hm : m.testBit i
  · rw [hm] at h1; cases h1
  · rfl
/-- A change: index, whether it is asserted. -/
structure Ch where
  (i : Nat) (on : Bool)
def ixs (a b j : Nat) : List Nat := (List.range j).filter fun i => a.testBit i != b.testBit i
def chs (a b j : Nat) : List Ch := (ixs a b j).map fun i => ⟨i, b.testBit i⟩
theorem chs_zero (a b : Nat) : chs a b 0 = [] := rfl
theorem ixs_succ (a b j : Nat) : ixs a b (j + 1) = ixs a b j ++ (if a.testBit j = b.testBit j then [] else [j]) := by
  unfold ixs
  rw [List.range_succ, List.filter_append]
  congr 1
  by_cases h : a.testBit j = b.testBit j
  · rw [if_pos h]; simp [h]
  · rw [if_neg h]; simp [h]
theorem chs_same {a b j : Nat} (h : a.testBit j = b.testBit j) : chs a b (j + 1) = chs a b j := by
  unfold chs; rw [ixs_succ, if_pos h, List.append_nil]
theorem chs_diff {a b j : Nat} (h : a.testBit j ≠ b.testBit j) : chs a b (j + 1) = chs a b j ++ [⟨j, b.testBit j⟩] := by
  unfold chs; rw [ixs_succ, if_neg h, List.map_append]; rfl
theorem ixs_len (a b j : Nat) : (ixs a b j).length ≤ j := by
  unfold ixs; have := List.length_filter_le (fun i => a.testBit i != b.testBit i) (List.range j); rwa [List.length_range] at this
theorem chs_len (a b j : Nat) : (chs a b j).length ≤ j := by
  unfold chs; rw [List.length_map]; exact ixs_len a b j
theorem chs_len2 (a b j : Nat) : (chs a b j).length = (ixs a b j).length := by unfold chs; rw [List.length_map]
theorem mem_ixs {a b j i : Nat} : i ∈ ixs a b j ↔ i < j ∧ a.testBit i ≠ b.testBit i := by
  unfold ixs; rw [List.mem_filter, List.mem_range]; simp
theorem ixs_asc (a b j : Nat) : (ixs a b j).Pairwise (· < ·) := List.Pairwise.filter _ List.pairwise_lt_range
theorem chs_get (a b j k : Nat) (h : k < (chs a b j).length) (h2 : k < (ixs a b j).length) : (chs a b j)[k] = ⟨(ixs a b j)[k], b.testBit (ixs a b j)[k]⟩ :=
  List.getElem_map (l := ixs a b j) (fun i => (⟨i, b.testBit i⟩ : Ch))
theorem ixs_get (a b j k : Nat) (h : k < (ixs a b j).length) : (ixs a b j)[k] < j ∧ a.testBit (ixs a b j)[k] ≠ b.testBit (ixs a b j)[k] := mem_ixs.1 (List.getElem_mem h)
theorem ixs_lt (a b j : Nat) {m k : Nat} (hm : m < k) (h : k < (ixs a b j).length) : (ixs a b j)[m] < (ixs a b j)[k] := (List.pairwise_iff_getElem.1 (ixs_asc a b j)) m k (by omega) h hm
theorem ixs_new (a b j k : Nat) (h : k < (ixs a b j).length) : (ixs a b j)[k] ∉ (ixs a b j).take k := by
  intro hm
  obtain ⟨m, hm1, hm2⟩ := List.getElem_of_mem hm
  rw [List.length_take] at hm1
  rw [List.getElem_take] at hm2
  have := ixs_lt a b j (m := m) (k := k) (by omega) h
  omega
theorem mem_take_succ {l : List Nat} {k : Nat} (h : k < l.length) (i : Nat) : i ∈ l.take (k + 1) ↔ i ∈ l.take k ∨ i = l[k] := by
  rw [List.take_succ_eq_append_getElem h, List.mem_append, List.mem_singleton]
theorem stays (a b n : Nat) (ha : a < 2 ^ n) (hb : b < 2 ^ n) (w : Nat) (h : ∀ i, w.testBit i = if i ∈ (ixs a b n) then b.testBit i else a.testBit i) : w = b := by
  apply Nat.eq_of_testBit_eq
  intro i
  rw [h i]
  split
  · rfl
  · rename_i h1
    by_cases hi : i < n
    · rcases Decidable.em (a.testBit i = b.testBit i) with h2 | h2
      · exact h2
      · exact absurd (mem_ixs.2 ⟨hi, h2⟩) h1
    · have hp : 2 ^ n ≤ 2 ^ i := Nat.pow_le_pow_right (by omega) (by omega)
      rw [Nat.testBit_lt_two_pow (by omega : a < 2 ^ i), Nat.testBit_lt_two_pow (by omega : b < 2 ^ i)]
/-! Thresholds in their order. -/
theorem ord_of {s : Sn} (hv : vs s = true) (hd : s.d = false) {i j : Nat} (hij : i < j) (hj : j < 6) (hi2 : s.mx.toNat.testBit i = true) (hj2 : s.mx.toNat.testBit j = true) :
    fol i j (C4p.num s.c.s (s.raw.getD i 0)) (C4p.num s.c.s (s.raw.getD j 0)) = true := by
  unfold vs at hv
  rw [hd] at hv
  simp only [Bool.and_eq_true, Bool.false_eq_true, if_false] at hv
  obtain ⟨-, -, hv⟩ := hv
  unfold ana lims at hv
  simp only [Bool.and_eq_true] at hv
  obtain ⟨-, ⟨-, -, hv⟩, -⟩ := hv
  unfold ordd at hv
  rw [List.all_eq_true] at hv
  have h1 := hv j (List.mem_range.2 hj)
  rw [List.all_eq_true] at h1
  have h2 := h1 i (List.mem_range.2 hij)
  unfold pair at h2
  rw [has_tb, has_tb, hi2, hj2] at h2
  cases h3 : fol i j (C4p.num s.c.s (s.raw.getD i 0)) (C4p.num s.c.s (s.raw.getD j 0))
  · rw [h3] at h2; cases h2
  · rfl
theorem mask_lt {s : Sn} (hv : vs s = true) (hd : s.d = false) : s.mx.toNat < 64 := by
  unfold vs at hv
  rw [hd] at hv
  simp only [Bool.and_eq_true, Bool.false_eq_true, if_false] at hv
  obtain ⟨-, -, hv⟩ := hv
  unfold ana lims at hv
  simp only [Bool.and_eq_true] at hv
  obtain ⟨-, ⟨hv, -⟩, -⟩ := hv
  have := of_decide_eq_true hv
  omega
theorem rch_iff {s : Sn} {x : Int} {lo hi i : Nat} : rch s x lo hi i = true ↔ s.mx.toNat.testBit i = true ∧ (i ≤ 2 → x ≤ C4p.num s.c.s (s.raw.getD i 0) + (lo : Int)) ∧ (2 < i → C4p.num s.c.s (s.raw.getD i 0) - (hi : Int) ≤ x) := by
  unfold rch
  rw [Bool.and_eq_true, has_tb]
  by_cases h : i ≤ 2
  · rw [if_pos h, decide_eq_true_eq]
    exact and_congr_right fun _ => ⟨fun h1 => ⟨fun _ => h1, fun h2 => by omega⟩, fun h1 => h1.1 h⟩
  · rw [if_neg h, decide_eq_true_eq]
    exact and_congr_right fun _ => ⟨fun h1 => ⟨fun h2 => absurd h2 h, fun _ => h1⟩, fun h1 => h1.2 (by omega)⟩
/-- A less severe threshold is reached before a more severe one. -/
theorem rch_less {s : Sn} (hv : vs s = true) (hd : s.d = false) {x : Int} {lo hi j k : Nat} (hjk : j < k) (hk : k < 6) (hs : k / 3 = j / 3) (hj : s.mx.toNat.testBit j = true) (h : rch s x lo hi k = true) : rch s x lo hi j = true := by
  obtain ⟨h1, h2, h3⟩ := rch_iff.1 h
  have ho := ord_of hv hd hjk hk hj h1
  unfold fol at ho
  refine rch_iff.2 ⟨hj, fun hj2 => ?_, fun hj2 => ?_⟩
  · rw [if_pos (by omega)] at ho
    have := of_decide_eq_true ho
    have := h2 (by omega)
    omega
  · rw [if_neg (by omega), if_pos (by omega)] at ho
    have := of_decide_eq_true ho
    have := h3 (by omega)
    omega
/-- What holds of a state of Steps only: within the mask, nested. -/
def Nest (s : Sn) (st : Nat) : Prop := st < 64 ∧ (∀ i, i < 6 → st.testBit i = true → s.mx.toNat.testBit i = true) ∧ ∀ j k, j < k → k < 6 → k / 3 = j / 3 → s.mx.toNat.testBit j = true → st.testBit k = true → st.testBit j = true
theorem nest_zero (s : Sn) : Nest s 0 := by
  refine ⟨by omega, fun i _ h => ?_, fun j k _ _ _ _ h => ?_⟩ <;> (rw [Nat.zero_testBit] at h; cases h)
theorem nxt_in {s : Sn} {x : Int} {st i : Nat} (hi : i < 6) (h : (nxt s x st).testBit i = true) : s.mx.toNat.testBit i = true := by
  rw [nxt_bit _ _ _ _ hi, Bool.or_eq_true, Bool.and_eq_true] at h
  rcases h with h | h
  · exact (rch_iff.1 h).1
  · exact (rch_iff.1 h.2).1
theorem nest_next {s : Sn} (hv : vs s = true) (hd : s.d = false) (x : Int) {st : Nat} (h : Nest s st) : Nest s (nxt s x st) := by
  refine ⟨nxt_lt _ _ _, fun i hi hb => nxt_in hi hb, fun j k hjk hk hs hj hb => ?_⟩
  rw [nxt_bit _ _ _ _ hk, Bool.or_eq_true, Bool.and_eq_true] at hb
  rw [nxt_bit _ _ _ _ (by omega), Bool.or_eq_true, Bool.and_eq_true]
  rcases hb with hb | hb
  · exact .inl (rch_less hv hd hjk hk hs hj hb)
  · exact .inr ⟨h.2.2 j k hjk hk hs hj hb.1, rch_less hv hd hjk hk hs hj hb.2⟩
/-- A state within the mask is no error. -/
theorem nest_andn {s : Sn} {st : Nat} (h : Nest s st) : andn8 st s.mx.toNat = 0 := andn8_zero fun i hi hb => by
  rcases Nat.lt_or_ge i 6 with h1 | h1
  · exact h.2.1 i h1 hb
  · have hp : 2 ^ 6 ≤ 2 ^ i := Nat.pow_le_pow_right (by omega) h1
    have := h.1
    rw [Nat.testBit_lt_two_pow (by omega : st < 2 ^ i)] at hb; cases hb
theorem rch_wide {s : Sn} {x : Int} {i : Nat} (lo hi : Nat) (h : rch s x 0 0 i = true) : rch s x lo hi i = true := by
  obtain ⟨h1, h2, h3⟩ := rch_iff.1 h
  exact rch_iff.2 ⟨h1, fun h => by have := h2 h; omega, fun h => by have := h3 h; omega⟩
/-- A second step with the same reading changes nothing. -/
theorem nxt_twice (s : Sn) (x : Int) (st : Nat) : nxt s x (nxt s x st) = nxt s x st := by
  apply Nat.eq_of_testBit_eq
  intro i
  rcases Nat.lt_or_ge i 6 with h | h
  · rw [nxt_bit _ _ _ _ h, nxt_bit _ _ _ _ h]
    have h1 := rch_wide (s := s) (x := x) (i := i) s.hl.toNat s.hu.toNat
    cases rch s x 0 0 i <;> cases st.testBit i <;> cases h2 : rch s x s.hl.toNat s.hu.toNat i <;> simp_all
  · rw [nxt_out _ _ _ _ h, nxt_out _ _ _ _ h]
/-- More extreme readings reach no fewer on their side, and no more on the other. -/
theorem rch_low {s : Sn} {x y : Int} (hxy : x ≤ y) {i : Nat} (hi : i ≤ 2) (h : rch s y 0 0 i = true) : rch s x 0 0 i = true := by
  obtain ⟨h1, h2, h3⟩ := rch_iff.1 h
  exact rch_iff.2 ⟨h1, fun h => by have := h2 h; omega, fun h => by omega⟩
theorem rch_up {s : Sn} {x y : Int} (hxy : x ≤ y) {i : Nat} (hi : 2 < i) (h : rch s x 0 0 i = true) : rch s y 0 0 i = true := by
  obtain ⟨h1, h2, h3⟩ := rch_iff.1 h
  exact rch_iff.2 ⟨h1, fun h => by omega, fun h => by have := h3 h; omega⟩
theorem rch_both {s : Sn} (hv : vs s = true) (hd : s.d = false) {x : Int} {i j : Nat} (hi : i ≤ 2) (hj : 2 < j) (hj6 : j < 6) (h1 : rch s x 0 0 i = true) (h2 : rch s x 0 0 j = true) : False := by
  obtain ⟨a1, a2, -⟩ := rch_iff.1 h1
  obtain ⟨b1, -, b3⟩ := rch_iff.1 h2
  have ho := ord_of hv hd (show i < j by omega) hj6 a1 b1
  unfold fol at ho
  rw [if_neg (by omega), if_neg (by omega)] at ho
  have := of_decide_eq_true ho
  have := a2 hi
  have := b3 hj
  omega
/-- The hysteresis of a threshold. -/
def hys (s : Sn) (j : Nat) : Int := if j ≤ 2 then (s.hl.toNat : Int) else (s.hu.toNat : Int)
/-- What the last reading at a change says of a threshold's state now. -/
def Lst (s : Sn) (st : Nat) (j : Nat) (L : Int) : Prop :=
  L = 1000 ∨ (st.testBit j = true → rch s L 0 0 j = true) ∧ (st.testBit j = false → rch s L s.hl.toNat s.hu.toNat j = false)
theorem lst_flap {s : Sn} {st j : Nat} {L x : Int} (hj : j < 6) (h : Lst s st j L) (hL : L ≠ 1000) (hd : st.testBit j ≠ (nxt s x st).testBit j) : hys s j < x - L ∨ hys s j < L - x := by
  rcases h with h | ⟨h1, h2⟩
  · exact absurd h hL
  rw [nxt_bit _ _ _ _ hj] at hd
  unfold hys
  cases hb : st.testBit j
  · have g1 := h2 hb
    rw [hb, Bool.false_and, Bool.or_false] at hd
    have g2 : rch s x 0 0 j = true := by cases hq : rch s x 0 0 j <;> simp_all
    obtain ⟨m1, m2, m3⟩ := rch_iff.1 g2
    by_cases h : j ≤ 2
    · rw [if_pos h]
      have := m2 h
      right
      rcases Int.lt_or_le (s.hl.toNat : Int) (L - x) with g | g
      · exact g
      · have : rch s L s.hl.toNat s.hu.toNat j = true := rch_iff.2 ⟨m1, fun _ => by omega, fun h => by omega⟩
        rw [this] at g1; cases g1
    · rw [if_neg h]
      have := m3 (by omega)
      left
      rcases Int.lt_or_le (s.hu.toNat : Int) (x - L) with g | g
      · exact g
      · have : rch s L s.hl.toNat s.hu.toNat j = true := rch_iff.2 ⟨m1, fun h => by omega, fun _ => by omega⟩
        rw [this] at g1; cases g1
  · have g1 := h1 hb
    rw [hb, Bool.true_and] at hd
    obtain ⟨m1, m2, m3⟩ := rch_iff.1 g1
    have g2 : rch s x s.hl.toNat s.hu.toNat j = false := by cases hq : rch s x s.hl.toNat s.hu.toNat j <;> simp_all
    by_cases h : j ≤ 2
    · rw [if_pos h]
      have := m2 h
      left
      rcases Int.lt_or_le (s.hl.toNat : Int) (x - L) with g | g
      · exact g
      · have : rch s x s.hl.toNat s.hu.toNat j = true := rch_iff.2 ⟨m1, fun _ => by omega, fun h => by omega⟩
        rw [this] at g2; cases g2
    · rw [if_neg h]
      have := m3 (by omega)
      right
      rcases Int.lt_or_le (s.hu.toNat : Int) (L - x) with g | g
      · exact g
      · have : rch s x s.hl.toNat s.hu.toNat j = true := rch_iff.2 ⟨m1, fun h => by omega, fun _ => by omega⟩
        rw [this] at g2; cases g2
theorem lst_new {s : Sn} {st j : Nat} {x : Int} (hj : j < 6) (hd : st.testBit j ≠ (nxt s x st).testBit j) : Lst s (nxt s x st) j x := by
  right
  rw [nxt_bit _ _ _ _ hj] at hd ⊢
  cases hb : st.testBit j
  · rw [hb, Bool.false_and, Bool.or_false] at hd
    rw [Bool.false_and, Bool.or_false]
    refine ⟨id, fun h => ?_⟩
    rw [h] at hd; exact absurd rfl hd
  · rw [hb, Bool.true_and] at hd
    have h1 := rch_wide (s := s) (x := x) (i := j) s.hl.toNat s.hu.toNat
    cases hq : rch s x s.hl.toNat s.hu.toNat j <;> cases hp : rch s x 0 0 j <;> simp_all
theorem lst_old {s : Sn} {st j : Nat} {L x : Int} (h : Lst s st j L) (he : st.testBit j = (nxt s x st).testBit j) : Lst s (nxt s x st) j L := by
  unfold Lst at h ⊢
  rwa [← he]
/-! Without hysteresis. -/
def noHy (s : Sn) : Sn := { s with hl := 0, hu := 0 }
theorem rch_noHy (s : Sn) (x : Int) (lo hi i : Nat) : rch (noHy s) x lo hi i = rch s x lo hi i := rfl
theorem wth_noHy (s : Sn) (x : Int) (lo hi : Nat) : wth (noHy s) x lo hi = wth s x lo hi := rfl
theorem vs_noHy (s : Sn) (hd : s.d = false) : vs (noHy s) = vs s := by
  unfold vs noHy; rw [hd]; rfl
theorem nxt_noHy (s : Sn) (x : Int) (st : Nat) : nxt (noHy s) x st = wth s x 0 0 := by
  apply Nat.eq_of_testBit_eq
  intro i
  rcases Nat.lt_or_ge i 6 with h | h
  · rw [nxt_bit _ _ _ _ h, wth_bit _ _ _ _ _ h, rch_noHy]
    show (rch s x 0 0 i || (st.testBit i && rch s x 0 0 i)) = _
    cases rch s x 0 0 i <;> simp
  · rw [nxt_out _ _ _ _ h, wth_out _ _ _ _ _ h]
/-- Hysteresis only keeps: what is next and neither reached nor asserted before is nothing. -/
theorem nxt_keeps (s : Sn) (x : Int) (st : Nat) : andn8 (nxt s x st) (wth s x 0 0 ||| st) = 0 := andn8_zero fun i _ h => by
  rcases Nat.lt_or_ge i 6 with hi | hi
  · rw [nxt_bit _ _ _ _ hi] at h
    rw [Nat.testBit_or, wth_bit _ _ _ _ _ hi]
    rcases Bool.or_eq_true _ _ |>.mp h with h | h
    · rw [h, Bool.true_or]
    · rw [Bool.and_eq_true] at h; rw [h.1, Bool.or_true]
  · rw [nxt_out _ _ _ _ hi] at h; cases h
theorem wth_in_nxt (s : Sn) (x : Int) (st : Nat) : andn8 (wth s x 0 0) (nxt s x st) = 0 := andn8_zero fun i _ h => by
  rcases Nat.lt_or_ge i 6 with hi | hi
  · rw [wth_bit _ _ _ _ _ hi] at h
    rw [nxt_bit _ _ _ _ hi, h, Bool.true_or]
  · rw [wth_out _ _ _ _ _ hi] at h; cases h
theorem nxt_in_mask (s : Sn) (x : Int) (st : Nat) : andn8 (nxt s x st) s.mx.toNat = 0 := andn8_zero fun i _ h => by
  rcases Nat.lt_or_ge i 6 with hi | hi
  · exact nxt_in hi h
  · rw [nxt_out _ _ _ _ hi] at h; cases h
theorem and_in_mask (st m : Nat) : andn8 (st &&& m) m = 0 := andn8_zero fun i _ h => by
  rw [Nat.testBit_and, Bool.and_eq_true] at h; exact h.2
end Go.Proofs.Ytcnkiecdagjgmaa.Ya
namespace Go.Proofs.Ytcnkiecdagjgmaa.Ya
open Go.RowKit Go.Proofs.Ytcnkiecdagjgmaa.Mem
set_option maxRecDepth 100000
set_option maxHeartbeats 1000000

def Ch.cells (r : Ch) : Array Value := #[.int .i64 (r.i : Int), .bool r.on]
def Ch.v (r : Ch) : Value := .agg r.cells
def kvs : List Ch → List Value
  | [] => []
  | r :: l => r.cells.toList ++ kvs l
theorem kv_len (e : Ch) : e.cells.toList.length = 2 := rfl
theorem kvs_len (l : List Ch) : (kvs l).length = l.length * 2 := by
  induction l with
  | nil => rfl
  | cons x l ih => simp only [kvs, List.length_append, List.length_cons, ih, kv_len]; omega
theorem kvs_app (a b : List Ch) : kvs (a ++ b) = kvs a ++ kvs b := by
  induction a with
  | nil => rfl
  | cons x a ih => simp only [List.cons_append, kvs, ih, List.append_assoc]
theorem kv_one (e : Ch) : e.cells.all (·.oneCell') = true := by
  simp [Ch.cells, Value.oneCell']
theorem kvs_one (l : List Ch) : ∀ u ∈ kvs l, u.oneCell' = true := by
  induction l with
  | nil => intro u hu; cases hu
  | cons x l ih =>
    intro u hu
    simp only [kvs, List.mem_append] at hu
    rcases hu with hu | hu
    · have := kv_one x
      rw [Array.all_eq_true_iff_forall_mem] at this
      exact this u (by simpa using hu)
    · exact ih u hu
theorem kvs_get : ∀ (l : List Ch) (k : Nat) (h : k < l.length) (j : Nat), j < 2 → (kvs l)[k * 2 + j]? = l[k].cells.toList[j]?
  | x :: l, 0, _, j, hj => by
    simp only [kvs, Nat.zero_mul, Nat.zero_add, List.getElem_cons_zero]
    rw [List.getElem?_append_left (by rw [kv_len]; exact hj)]
  | x :: l, k + 1, h, j, hj => by
    have := kvs_get l k (by simpa using h) j hj
    simp only [kvs, List.getElem_cons_succ]
    rw [List.getElem?_append_right (by rw [kv_len]; omega), kv_len, ← this]
    congr 1; omega
abbrev KRow (B : Nat) (w : World) (A : Option Addr) (l : List Ch) : Prop := Rd B w A (kvs l)
theorem krow_at {B : Nat} {w : World} {A : Option Addr} {l : List Ch} (h : KRow B w A l) {k : Nat} (hk : k < l.length) :
    ∃ a, A = some a ∧ a.block < B ∧ w.cell? (a.add (k * 2)) = some (.int .i64 (l[k].i : Int)) ∧ w.cell? (a.add (k * 2 + 1)) = some (.bool l[k].on) := by
  obtain ⟨a, e, hb, hc⟩ := h (by rw [kvs_len]; omega)
  have g0 := kvs_get l k hk 0 (by omega)
  have g1 := kvs_get l k hk 1 (by omega)
  have h0 := hc (k * 2) (by rw [kvs_len]; omega)
  have h1 := hc (k * 2 + 1) (by rw [kvs_len]; omega)
  refine ⟨a, e, hb, ?_, ?_⟩
  · rw [h0, ← List.getElem?_eq_getElem (by rw [kvs_len]; omega)]; exact g0
  · rw [h1, ← List.getElem?_eq_getElem (by rw [kvs_len]; omega)]; exact g1
/-- A record that lies at an address. -/
def KAt (w : World) (p : Addr) (e : Ch) : Prop := ∀ j v, e.cells.toList[j]? = some v → w.cell? (p.add j) = some v
theorem krow_k {B : Nat} {w : World} {A : Option Addr} {l : List Ch} (h : KRow B w A l) {k : Nat} (hk : k < l.length) :
    ∃ a, A = some a ∧ a.block < B ∧ KAt w (a.add (k * 2)) l[k] := by
  obtain ⟨a, e, hb, hc⟩ := h (by rw [kvs_len]; omega)
  refine ⟨a, e, hb, fun j v hv => ?_⟩
  have hj : j < 2 := by have := (List.getElem?_eq_some_iff.1 hv).1; rw [kv_len] at this; exact this
  have h0 := hc (k * 2 + j) (by rw [kvs_len]; omega)
  rw [add_add, h0, ← hv, ← kvs_get l k hk j hj, List.getElem?_eq_getElem (by rw [kvs_len]; omega)]
theorem KAt.ix {w : World} {p : Addr} {r : Ch} (h : KAt w p r) : w.cell? p = some (.int .i64 (r.i : Int)) := by have := h 0 _ rfl; rwa [show p.add 0 = p from rfl] at this
theorem KAt.on {w : World} {p : Addr} {r : Ch} (h : KAt w p r) : w.cell? (p.add 1) = some (.bool r.on) := h 1 _ rfl
theorem KAt.below {w w' : World} {p : Addr} {e : Ch} (h : KAt w p e) {B : Nat} (hb : Below B w w') (hp : p.block < B) : KAt w' p e := fun j v hv => (hb.cell (by rw [add_block]; exact hp)).trans (h j v hv)
/-- A record is read out of a slice. -/
theorem run_loadVar_k (w : World) (p : Addr) (e : Ch) (hc : KAt w p e) : (loadVar 53 p).run Try.prog w = .ok e.v w := by
  have hl : (loadCells p 2).run Try.prog w = .ok e.cells w :=
    run_loadCells_list (P := Try.prog) w p e.cells.toList hc
  have hi : (Try.prog.info? 53).map (·.size) = some 2 := by kernel_rfl
  cases hq : Try.prog.info? 53 with
  | none => simp [hq] at hi
  | some i =>
    have hs : i.size = 2 := by simpa [hq] using hi
    have hagg : (isAgg 53).run Try.prog w = .ok true w := by
      unfold isAgg
      rw [Sem.run_bind, run_underlying Try.underlying53 w]
      rfl
    simp [loadVar, Sem.run_bind, hagg, sizeOf, typeInfo, hq, hs, hl, Ch.v]
theorem wpList_load_k {ops : Array Oper} {rest : List Oper} {op : Oper} {a : Act} {w : World} {Q : Exit → Act → World → Prop} (hgd : op.guard = none) (x : Operand) (ho : op.op = .load 53 x)
    (p : Addr) (e : Ch) (hx : a.eval x = .pointer (some p)) (hc : KAt w p e)
    (h : wpList Try.prog ops Q rest (a.put op.dst e.v) w) : wpList Try.prog ops Q (op :: rest) a w :=
  wpList_plain hgd fun K hK => by
    unfold Oper.wp execOp
    simp only [ho, hx, Instr.loadAt, Instr.sureAddr, Sem.run_bind, Sem.run_pure, Result.andThen_ok, run_loadVar_k w p e hc]
    exact hK _ _ h
/-- A slice of records that is read. -/
structure KSl (w : World) (A : Option Addr) (n c : Nat) (l : List Ch) : Prop where
  len : n = l.length
  row : KRow w.heap.size w A l
  cap : n ≤ c
  max : c ≤ maxLen
  nil : A = none → c = 0
theorem KSl.step {w w' : World} {A : Option Addr} {n c : Nat} {l : List Ch} (h : KSl w A n c l) (hb : Below w.heap.size w w') : KSl w' A n c l := ⟨h.len, (h.row.below hb).more hb.size, h.cap, h.max, h.nil⟩
theorem KSl.none {w : World} : KSl w none 0 0 [] := ⟨rfl, Rd.nil, Nat.le_refl _, by unfold maxLen; omega, fun _ => rfl⟩
/-- A slice of records of the call's own. -/
def KOwn (base : Nat) (w : World) (v : Value) (l : List Ch) : Prop := w.ownsRow base 53 2 v l.length (kvs l)
theorem KOwn.nil {base : Nat} {w : World} : KOwn base w (.slice .none 0 0) [] := ⟨by simp [kvs], .inl ⟨rfl, by simp⟩⟩
theorem KOwn.sl {base : Nat} {w : World} {v : Value} {l : List Ch} (h : KOwn base w v l) : ∃ A n c, v = .slice A n c ∧ KSl w A n c l := by
  rcases h.2 with ⟨rfl, h0⟩ | ⟨g, cap, cur, rfl, hg, hh, h1, h2, _⟩
  · obtain rfl : l = [] := List.length_eq_zero_iff.1 h0
    exact ⟨_, _, _, rfl, KSl.none⟩
  · refine ⟨_, _, _, rfl, rfl, fun hl => ?_, h1, h2, fun e => by cases e⟩
    have hlt : g < w.heap.size := by
      rcases Nat.lt_or_ge g w.heap.size with h3 | h3
      · exact h3
      · rw [Array.getElem?_eq_none h3] at hh; cases hh
    exact ⟨_, rfl, hlt, fun k hk => World.ownsRow.cells h (g := g) rfl k _ (List.getElem?_eq_getElem hk)⟩
theorem KOwn.blk {base : Nat} {w : World} {v : Value} {l : List Ch} (h : KOwn base w v l) {i : Nat} (hi : v.ownBlock = some i) : base ≤ i ∧ ∃ c z, w.heap[i]? = some (.cells c 53 z) := by
  rcases h.2 with ⟨rfl, _⟩ | ⟨g, cap, cur, rfl, hg, hh, _⟩
  · cases hi
  · injection hi with hi
    subst hi
    exact ⟨hg, _, _, hh⟩
theorem KOwn.form {base : Nat} {w : World} {v : Value} {l : List Ch} (h : KOwn base w v l) (hl : 0 < l.length) : ∃ g c, v = .slice (some ⟨g, 0, none⟩) l.length c ∧ base ≤ g ∧ l.length ≤ c ∧ c ≤ maxLen := by
  rcases h.2 with ⟨_, h0⟩ | ⟨g, cap, cur, rfl, hg, _, h1, h2, _⟩
  · omega
  · exact ⟨g, cap, rfl, hg, h1, h2⟩
theorem infoK : (Try.prog.info? 53).map (fun i => (i.zero, i.size, i.bytes)) = some (some (.agg #[.int .i64 0, .bool false]), 2, 16) := by kernel_rfl
/-- Records that lie in a row at an address. -/
def KsAt (w : World) (p : Addr) (l : List Ch) : Prop := ∀ j v, (kvs l)[j]? = some v → w.cell? (p.add j) = some v
theorem KsAt.one {w : World} {p : Addr} {r : Ch} (h0 : w.cell? p = some (.int .i64 (r.i : Int))) (h1 : w.cell? (p.add 1) = some (.bool r.on)) : KsAt w p [r] := fun j v hv => by
  match j with
  | 0 => simp [kvs, Ch.cells] at hv; subst hv; simpa [Addr.add] using h0
  | 1 => simp [kvs, Ch.cells] at hv; subst hv; exact h1
  | j + 2 => simp [kvs, Ch.cells] at hv
theorem run_append_k (w : World) (base : Nat) (ty : TypeId) (v : Value) (l : List Ch) (hown : KOwn base w v l) (m : List Ch) (p : Addr) (n c : Nat) (hn : n = m.length) (hm : KsAt w p m)
    (hl : l.length + m.length ≤ 1000) (hbase : base ≤ w.heap.size) :
    ∃ v' w', (Builtin.append_ #[43, 43] ty #[v, .slice (some p) n c]).run Try.prog w = .ok v' w' ∧ KOwn base w' v' (l ++ m) ∧ w.grownBy w' v.ownBlock ∧ (v'.ownBlock = v.ownBlock ∨ v'.ownBlock = some w.heap.size) := by
  obtain ⟨i, hi, hz0, hz1, hz2⟩ := info_parts infoK
  obtain ⟨v', w', hrun, h2, h3, _, h4⟩ := run_append_own_at (P := Try.prog) w base 43 ty 53 i _ 2 16 Try.underlying43 hi hz0 hz1 hz2 rfl (by omega) v l.length (kvs l) hown p n c (kvs m) (by rw [kvs_len, hn]) hm
    (kvs_one m) (by unfold maxLen; omega) (by omega) hbase
  refine ⟨v', w', hrun, ?_, h3, h4⟩
  unfold KOwn
  rw [kvs_app, List.length_append, ← hn]
  exact h2
theorem wpList_append_k {ops : Array Oper} {rest : List Oper} {o : Oper} {a : Act} {Q : Exit → Act → World → Prop} (w : World) (hgd : o.guard = none) (s x : Operand)
    (ho : o.op = .call { callee := .builtin .append, args := #[s, x], argTypes := #[43, 43] })
    (base : Nat) (v : Value) (l : List Ch) (hs : a.eval s = v) (hown : KOwn base w v l) (m : List Ch) (p : Addr) (n c : Nat) (hx : a.eval x = .slice (some p) n c) (hn : n = m.length) (hm : KsAt w p m)
    (hl : l.length + m.length ≤ 1000) (hbase : base ≤ w.heap.size)
    (h : ∀ v' w', KOwn base w' v' (l ++ m) → w.grownBy w' v.ownBlock → (v'.ownBlock = v.ownBlock ∨ v'.ownBlock = some w.heap.size) → wpList Try.prog ops Q rest (a.put o.dst v') w') : wpList Try.prog ops Q (o :: rest) a w := by
  refine wpList_plain hgd fun K hK => ?_
  obtain ⟨v', w', hrun, h2, h3, h4⟩ := run_append_k w base o.type v l hown m p n c hn hm hl hbase
  unfold Oper.wp execOp
  simp only [ho, resolve, invoke, builtin, Sem.run_bind, Sem.run_pure, Result.andThen_ok, List.map_toArray, List.map_cons, List.map_nil, hs, hx, hrun]
  exact hK _ _ (h v' w' h2 h3 h4)
theorem and_u8 (a b : Nat) (ha : a < 256) (hb : b < 256) : bits .and .u8 (a : Int) (b : Int) = ((a &&& b : Nat) : Int) := by
  show IntKind.u8.wrap ((BitVec.ofInt 8 (a : Int) &&& BitVec.ofInt 8 (b : Int)).toNat : Int) = _
  rw [BitVec.ofInt_natCast, BitVec.ofInt_natCast, BitVec.toNat_and, BitVec.toNat_ofNat, BitVec.toNat_ofNat, Nat.mod_eq_of_lt (show a < 2 ^ 8 by omega), Nat.mod_eq_of_lt (show b < 2 ^ 8 by omega)]
  exact IntWalk.u8_in _ ⟨by omega, by have : a &&& b < 2 ^ 8 := Nat.and_lt_two_pow (n := 8) _ (by omega); omega⟩
theorem or_u8 (a b : Nat) (ha : a < 256) (hb : b < 256) : bits .or .u8 (a : Int) (b : Int) = ((a ||| b : Nat) : Int) := by
  show IntKind.u8.wrap ((BitVec.ofInt 8 (a : Int) ||| BitVec.ofInt 8 (b : Int)).toNat : Int) = _
  rw [BitVec.ofInt_natCast, BitVec.ofInt_natCast, BitVec.toNat_or, BitVec.toNat_ofNat, BitVec.toNat_ofNat, Nat.mod_eq_of_lt (show a < 2 ^ 8 by omega), Nat.mod_eq_of_lt (show b < 2 ^ 8 by omega)]
  exact IntWalk.u8_in _ ⟨by omega, by have : a ||| b < 2 ^ 8 := Nat.or_lt_two_pow (n := 8) (by omega) (by omega); omega⟩
theorem xor_u8 (a b : Nat) (ha : a < 256) (hb : b < 256) : bits .xor .u8 (a : Int) (b : Int) = ((a ^^^ b : Nat) : Int) := by
  show IntKind.u8.wrap ((BitVec.ofInt 8 (a : Int) ^^^ BitVec.ofInt 8 (b : Int)).toNat : Int) = _
  rw [BitVec.ofInt_natCast, BitVec.ofInt_natCast, BitVec.toNat_xor, BitVec.toNat_ofNat, BitVec.toNat_ofNat, Nat.mod_eq_of_lt (show a < 2 ^ 8 by omega), Nat.mod_eq_of_lt (show b < 2 ^ 8 by omega)]
  exact IntWalk.u8_in _ ⟨by omega, by have : a ^^^ b < 2 ^ 8 := Nat.xor_lt_two_pow (n := 8) (by omega) (by omega); omega⟩
theorem andn_u8 (a m : Nat) : bits .andNot .u8 (a : Int) (m : Int) = ((andn8 a m : Nat) : Int) := by
  show IntKind.u8.wrap ((BitVec.ofInt 8 (a : Int) &&& ~~~BitVec.ofInt 8 (m : Int)).toNat : Int) = _
  rw [BitVec.ofInt_natCast, BitVec.ofInt_natCast]
  have hl : andn8 a m < 2 ^ 8 := BitVec.isLt _
  exact IntWalk.u8_in _ ⟨by omega, by unfold andn8 at hl; omega⟩
end Go.Proofs.Ytcnkiecdagjgmaa.Ya
namespace Go.Proofs.Ytcnkiecdagjgmaa.Ya
open Go.RowKit Go.Proofs.Ytcnkiecdagjgmaa.Mem
set_option maxRecDepth 100000
set_option maxHeartbeats 1000000

theorem tb_xor (a b j : Nat) : (a ^^^ b) / 2 ^ j % 2 = if a.testBit j = b.testBit j then 0 else 1 := by
  have h := Nat.testBit_xor a b j
  rw [Nat.testBit_eq_decide_div_mod_eq] at h
  have h2 : (a ^^^ b) / 2 ^ j % 2 < 2 := Nat.mod_lt _ (by omega)
  generalize (a ^^^ b) / 2 ^ j % 2 = q at *
  by_cases he : a.testBit j = b.testBit j
  · rw [if_pos he]
    rw [he] at h
    have : ¬ q = 1 := fun e => by rw [decide_eq_true e] at h; cases hb : b.testBit j <;> rw [hb] at h <;> cases h
    omega
  · rw [if_neg he]
    rcases (show q = 0 ∨ q = 1 by omega) with rfl | rfl
    · exfalso; apply he
      cases ha : a.testBit j <;> cases hb : b.testBit j <;> rw [ha, hb] at h <;> first | rfl | cases h
    · rfl
theorem tb_one (b j : Nat) : b / 2 ^ j % 2 = if b.testBit j = true then 1 else 0 := by
  rw [Nat.testBit_eq_decide_div_mod_eq]
  have h2 : b / 2 ^ j % 2 < 2 := Nat.mod_lt _ (by omega)
  by_cases h : b / 2 ^ j % 2 = 1
  · rw [decide_eq_true h, h]; rfl
  · rw [decide_eq_false h]; simp; omega
theorem and_one8 (x : Nat) (h : x < 256) : bits .and .u8 (x : Int) 1 = ((x % 2 : Nat) : Int) := by
  have := and_u8 x 1 h (by omega)
  rw [Nat.and_one_is_mod] at this
  exact this
theorem shr_n (x i : Nat) : (x : Int) / 2 ^ i = ((x / 2 ^ i : Nat) : Int) := by
  rw [Int.natCast_ediv, Int.natCast_pow]; rfl
theorem changes_q (a b : Nat) (ha : a < 256) (hb : b < 256) (w : World) :
    Calls Try.prog 74 #[.int .u8 (a : Int), .int .u8 (b : Int)] w fun e w' => ∃ v, e = .returned v ∧ KOwn w.heap.size w' v (chs a b 6) ∧ Below w.heap.size w w' := by
  have hx := xor_u8 a b ha hb
  have hxl : a ^^^ b < 256 := Nat.xor_lt_two_pow (n := 8) (by omega) (by omega)
  have h1 := fun j => tb_xor a b j
  have h2 := fun j => tb_one b j
  generalize a ^^^ b = X at *
  have hsh : ∀ j, X / 2 ^ j < 256 := fun j => Nat.lt_of_le_of_lt (Nat.div_le_self _ _) hxl
  have hsb : ∀ j, b / 2 ^ j < 256 := fun j => Nat.lt_of_le_of_lt (Nat.div_le_self _ _) hb
  have H1 := Lib.hid h1; have H2 := Lib.hid h2; have HSX := Lib.hid hsh; have HSB := Lib.hid hsb
  clear h1 h2 hsh hsb
  have hb0 : Below w.heap.size w w := Below.refl _ _
  go_enter Try.func74, Try.ntmps74
  go_wp2_with fail
  go_loopw [5, 6] (fun v i wr => ∃ j : Nat, j ≤ 6 ∧ i = .int .i64 (j : Int) ∧ KOwn w.heap.size wr v (chs a b j) ∧ Below w.heap.size w wr) (fun _ i _ => 6 - (intOf i).toNat)
  case atStart => exact ⟨0, by omega, rfl, KOwn.nil, hb0⟩
  case round =>
    clear hb0
    obtain ⟨j, hj, rfl, hown, hbel⟩ := hrel
    by_cases hj6 : j < 6
    · have k6 : decide ((j : Int) ≤ 5) = true := by simp; omega
      have e1 := and_one8 _ (HSX.out j)
      have e2 := and_one8 _ (HSB.out j)
      rw [H1.out j, ← shr_n] at e1
      rw [H2.out j, ← shr_n] at e2
      by_cases hd : a.testBit j = b.testBit j
      · rw [if_pos hd] at e1
        have HC := Lib.hid (chs_same hd)
        go_wp2_with fail
        refine ⟨⟨j + 1, by omega, by go_num, ?_, hbel⟩, by simp [intOf]; omega⟩
        rw [HC.out]; exact hown
      · rw [if_neg hd] at e1
        have HC := Lib.hid (chs_diff hd)
        have HL := Lib.hid (chs_len a b j)
        clear hd
        generalize b.testBit j = y at *
        cases y
        · rw [if_neg Bool.false_ne_true] at e2
          go_wp2_with (at_builtin; (refine wpList_append_k _ rfl (.tmp 18) (.tmp 26) rfl w.heap.size _ (chs a b j) rfl (World.ownsRow.alloc hown _) [⟨j, false⟩] ⟨wr.heap.size, 0, none⟩ 1 1 rfl rfl (KsAt.one (cell_of_row _ _ 0 _ _ _ (heap_alloc_new wr _)) (cell_of_row _ _ 1 _ _ _ (heap_alloc_new wr _))) (by have := HL.out; simp; omega) (by have := hbel.size; simp; omega) ?_); intro v8 w8 hown8 hg8 hv8)
          refine ⟨⟨j + 1, by omega, by go_num, ?_, ?_⟩, by simp [intOf]; omega⟩
          · rw [HC.out]; exact hown8
          · exact (hbel.alloc hbel.size _).grown hg8 (by have := hbel.size; simp; omega) (fun k hk => (KOwn.blk hown hk).1)
        · rw [if_pos rfl] at e2
          go_wp2_with (at_builtin; (refine wpList_append_k _ rfl (.tmp 18) (.tmp 26) rfl w.heap.size _ (chs a b j) rfl (World.ownsRow.alloc hown _) [⟨j, true⟩] ⟨wr.heap.size, 0, none⟩ 1 1 rfl rfl (KsAt.one (cell_of_row _ _ 0 _ _ _ (heap_alloc_new wr _)) (cell_of_row _ _ 1 _ _ _ (heap_alloc_new wr _))) (by have := HL.out; simp; omega) (by have := hbel.size; simp; omega) ?_); intro v8 w8 hown8 hg8 hv8)
          refine ⟨⟨j + 1, by omega, by go_num, ?_, ?_⟩, by simp [intOf]; omega⟩
          · rw [HC.out]; exact hown8
          · exact (hbel.alloc hbel.size _).grown hg8 (by have := hbel.size; simp; omega) (fun k hk => (KOwn.blk hown hk).1)
    · obtain rfl : j = 6 := by omega
      go_wp2_with fail
      go_ret
      exact ⟨_, rfl, hown, hbel⟩
end Go.Proofs.Ytcnkiecdagjgmaa.Ya
