/- Plain mathematics of conversions: the nearest raw reading, the direction of the values. -/
import Derived.Test.YtekhpcfggbegaaaS03
namespace Go.Proofs.Ytekhpcfggbegaaa.C4p
open Go.Proofs.Ytekhpcfggbegaaa.M3p
set_option maxRecDepth 100000

/-- A table has the value of a point at its number. -/
theorem tab_point {s : Bool} {pv : Option (Int × Int)} {l : List (UInt8 × Int)} {k : Nat} (hk : k < l.length) (h0 : ∀ n u, pv = some (n, u) → okp s (some n) l = true) (h : pv = none → okp s none l = true) : tab s (num s l[k].1) pv l = l[k].2 := by
  induction l generalizing pv k with
  | nil => simp at hk
  | cons a l ih =>
    obtain ⟨r, v⟩ := a
    have hok : okp s (some (num s r)) l = true := by
      rcases pv with _ | ⟨n, u⟩
      · have := h rfl
        rw [okp, Bool.and_eq_true] at this
        exact this.2
      · have := h0 n u rfl
        rw [okp, Bool.and_eq_true] at this
        exact this.2
    rcases k with _ | k
    · simp only [List.getElem_cons_zero]
      rw [tab_cons, if_neg (by omega), if_pos rfl]
    · have hkl : k < l.length := by rw [List.length_cons] at hk; omega
      simp only [List.getElem_cons_succ]
      have hlt : num s r < num s l[k].1 := (okp_tail hok _ (List.getElem_mem hkl)).1
      rw [tab_cons, if_pos hlt]
      exact ih hkl (fun n u e => by injection e with e; injection e with e1 e2; subst e1; exact hok) (fun e => by cases e)
/-- Value and error at the i-th raw reading in the order of the numbers. -/
def ord (c : Cv) (i : Nat) : Int × Int := valv c (least c.s + i)
def rawAt (c : Cv) (i : Nat) : UInt8 := rawOf (least c.s + i)
theorem value_at {c : Cv} (h : vld c = true) {i : Nat} (hi : i < 256) : value c (rawAt c i) = ord c i := by
  unfold value rawAt ord
  rw [if_pos h, num_raw (by omega) (by omega)]
theorem at_value {c : Cv} (h : vld c = true) (r : UInt8) : ∃ i, i < 256 ∧ rawAt c i = r ∧ value c r = ord c i ∧ num c.s r = least c.s + i := by
  obtain ⟨h1, h2⟩ := num_in c.s r
  refine ⟨(num c.s r - least c.s).toNat, by omega, ?_, ?_, by omega⟩
  · unfold rawAt
    rw [show least c.s + ((num c.s r - least c.s).toNat : Int) = num c.s r by omega, raw_num]
  · unfold value ord
    rw [if_pos h, show least c.s + ((num c.s r - least c.s).toNat : Int) = num c.s r by omega]
/-! The nearest one. -/
def dist (w v : Int) : Int := max (v - w) (w - v)
theorem dist_nn (w v : Int) : 0 ≤ dist w v := by unfold dist; omega
def nfold (c : Cv) (w : Int) : Nat → Int × UInt8
  | 0 => (-1, 0)
  | n + 1 => if (ord c n).2 ≠ 0 then nfold c w n else if (nfold c w n).1 < 0 ∨ dist w (ord c n).1 < (nfold c w n).1 then (dist w (ord c n).1, rawAt c n) else nfold c w n
def near (c : Cv) (v : Int) : UInt8 × Int :=
  if vld c = true then (if (nfold c (clp v) 256).1 < 0 then (0, 8) else ((nfold c (clp v) 256).2, 0)) else (0, 1)
/-- What the search has after n raw readings. -/
theorem nfold_is (c : Cv) (w : Int) (n : Nat) :
    ((nfold c w n).1 = -1 ∧ (nfold c w n).2 = 0 ∧ ∀ i, i < n → (ord c i).2 ≠ 0) ∨
    (∃ j, j < n ∧ (ord c j).2 = 0 ∧ nfold c w n = (dist w (ord c j).1, rawAt c j) ∧ (∀ i, i < n → (ord c i).2 = 0 → dist w (ord c j).1 ≤ dist w (ord c i).1) ∧ ∀ i, i < j → (ord c i).2 = 0 → dist w (ord c j).1 < dist w (ord c i).1) := by
  induction n with
  | zero => exact .inl ⟨rfl, rfl, fun i hi => by omega⟩
  | succ n ih =>
    rw [nfold]
    by_cases h0 : (ord c n).2 = 0
    · rw [if_neg (by simpa using h0)]
      have hd := dist_nn w (ord c n).1
      rcases ih with ⟨h1, h2, h3⟩ | ⟨j, hj, hj0, he, hall, hlt⟩
      · rw [if_pos (.inl (by omega))]
        refine .inr ⟨n, by omega, h0, rfl, fun i hi hi0 => ?_, fun i hi hi0 => absurd hi0 (h3 i hi)⟩
        rcases Nat.lt_or_ge i n with h | h
        · exact absurd hi0 (h3 i h)
        · obtain rfl : i = n := by omega
          exact Int.le_refl _
      · have hd2 := dist_nn w (ord c j).1
        rw [he]
        by_cases hc : dist w (ord c n).1 < dist w (ord c j).1
        · rw [if_pos (.inr hc)]
          refine .inr ⟨n, by omega, h0, rfl, fun i hi hi0 => ?_, fun i hi hi0 => ?_⟩
          · rcases Nat.lt_or_ge i n with h | h
            · have := hall i h hi0; omega
            · obtain rfl : i = n := by omega
              exact Int.le_refl _
          · have := hall i hi hi0; omega
        · rw [if_neg (by rintro (h | h) <;> (dsimp only at h; omega))]
          refine .inr ⟨j, by omega, hj0, rfl, fun i hi hi0 => ?_, hlt⟩
          rcases Nat.lt_or_ge i n with h | h
          · exact hall i h hi0
          · obtain rfl : i = n := by omega
            omega
    · rw [if_pos h0]
      rcases ih with ⟨h1, h2, h3⟩ | ⟨j, hj, hj0, he, hall, hlt⟩
      · refine .inl ⟨h1, h2, fun i hi => ?_⟩
        rcases Nat.lt_or_ge i n with h | h
        · exact h3 i h
        · obtain rfl : i = n := by omega
          exact h0
      · refine .inr ⟨j, by omega, hj0, he, fun i hi hi0 => ?_, hlt⟩
        rcases Nat.lt_or_ge i n with h | h
        · exact hall i h hi0
        · obtain rfl : i = n := by omega
          exact absurd hi0 h0
/-- The answer of the search: none has a value, or the first one of the nearest ones. -/
theorem near_is {c : Cv} (h : vld c = true) (v : Int) :
    (near c v = (0, 8) ∧ ∀ r, (value c r).2 ≠ 0) ∨ (∃ r, near c v = (r, 0) ∧ (value c r).2 = 0 ∧ ∀ q, (value c q).2 = 0 → dist (clp v) (value c r).1 ≤ dist (clp v) (value c q).1) := by
  unfold near
  rw [if_pos h]
  rcases nfold_is c (clp v) 256 with ⟨h1, h2, h3⟩ | ⟨j, hj, hj0, he, hall, hlt⟩
  · rw [if_pos (by omega)]
    refine .inl ⟨rfl, fun r => ?_⟩
    obtain ⟨i, hi, -, hv, -⟩ := at_value h r
    rw [hv]
    exact h3 i hi
  · have := dist_nn (clp v) (ord c j).1
    rw [he, if_neg (by dsimp only; omega)]
    refine .inr ⟨rawAt c j, rfl, by rw [value_at h hj]; exact hj0, fun q hq => ?_⟩
    obtain ⟨i, hi, -, hv, -⟩ := at_value h q
    rw [hv] at hq ⊢
    rw [value_at h hj]
    exact hall i hi hq
/-! The direction. -/
structure Ds where
  seen : Bool
  last : Int
  rise : Bool
  fall : Bool
def dfold (c : Cv) : Nat → Ds
  | 0 => ⟨false, 0, false, false⟩
  | n + 1 =>
    let d := dfold c n
    if (ord c n).2 ≠ 0 then d
    else ⟨true, (ord c n).1, d.rise || (d.seen && decide (d.last < (ord c n).1)), d.fall || (d.seen && decide ((ord c n).1 < d.last))⟩
def dir (c : Cv) : Int × Int :=
  if vld c = true then (if (dfold c 256).rise = true ∧ (dfold c 256).fall = true then (0, 0) else if (dfold c 256).fall = true then (-1, 0) else (1, 0)) else (0, 1)
/-- Some later value is below an earlier one; above. -/
def falls (c : Cv) (n : Nat) : Prop := ∃ i j, i < j ∧ j < n ∧ (ord c i).2 = 0 ∧ (ord c j).2 = 0 ∧ (ord c j).1 < (ord c i).1
def rises (c : Cv) (n : Nat) : Prop := ∃ i j, i < j ∧ j < n ∧ (ord c i).2 = 0 ∧ (ord c j).2 = 0 ∧ (ord c i).1 < (ord c j).1
theorem dfold_is (c : Cv) (n : Nat) :
    ((dfold c n).seen = false → ∀ i, i < n → (ord c i).2 ≠ 0) ∧ ((dfold c n).seen = true → ∃ j, j < n ∧ (ord c j).2 = 0 ∧ (dfold c n).last = (ord c j).1 ∧ ∀ i, j < i → i < n → (ord c i).2 ≠ 0) ∧
    ((dfold c n).fall = true ↔ falls c n) ∧ ((dfold c n).rise = true ↔ rises c n) := by
  induction n with
  | zero =>
    refine ⟨fun _ i hi => by omega, fun h => (by cases h), ⟨fun h => (by cases h), ?_⟩, ⟨fun h => (by cases h), ?_⟩⟩
    · rintro ⟨i, j, h1, h2, -⟩; omega
    · rintro ⟨i, j, h1, h2, -⟩; omega
  | succ n ih =>
    obtain ⟨i1, i2, i3, i4⟩ := ih
    by_cases h0 : (ord c n).2 = 0
    · have e : dfold c (n + 1) = ⟨true, (ord c n).1, (dfold c n).rise || ((dfold c n).seen && decide ((dfold c n).last < (ord c n).1)), (dfold c n).fall || ((dfold c n).seen && decide ((ord c n).1 < (dfold c n).last))⟩ := by
        rw [dfold]; exact if_neg (by simpa using h0)
      rw [e]
      refine ⟨fun h => (by cases h), fun _ => ⟨n, by omega, h0, rfl, fun i h1 h2 => by omega⟩, ?_, ?_⟩
      · show ((dfold c n).fall || ((dfold c n).seen && decide ((ord c n).1 < (dfold c n).last))) = true ↔ _
        rw [Bool.or_eq_true, Bool.and_eq_true, decide_eq_true_eq, i3]
        constructor
        · rintro (⟨i, j, h1, h2, h3⟩ | ⟨hs, hl⟩)
          · exact ⟨i, j, h1, by omega, h3⟩
          · obtain ⟨j, hj, hj0, hl2, -⟩ := i2 hs
            exact ⟨j, n, hj, by omega, hj0, h0, by rw [← hl2]; exact hl⟩
        · rintro ⟨i, j, h1, h2, h3, h4, h5⟩
          rcases Nat.lt_or_ge j n with hj | hj
          · exact .inl ⟨i, j, h1, hj, h3, h4, h5⟩
          · obtain rfl : j = n := by omega
            rcases hs : (dfold c j).seen with _ | _
            · exact absurd h3 (i1 hs i h1)
            · obtain ⟨k, hk, hk0, hl, hafter⟩ := i2 hs
              by_cases hlt : (ord c j).1 < (dfold c j).last
              · exact .inr ⟨rfl, hlt⟩
              · refine .inl ⟨i, k, ?_, hk, h3, hk0, by omega⟩
                rcases Nat.lt_trichotomy i k with g | g | g
                · exact g
                · subst g; omega
                · exact absurd h3 (hafter i g h1)
      · show ((dfold c n).rise || ((dfold c n).seen && decide ((dfold c n).last < (ord c n).1))) = true ↔ _
        rw [Bool.or_eq_true, Bool.and_eq_true, decide_eq_true_eq, i4]
        constructor
        · rintro (⟨i, j, h1, h2, h3⟩ | ⟨hs, hl⟩)
          · exact ⟨i, j, h1, by omega, h3⟩
          · obtain ⟨j, hj, hj0, hl2, -⟩ := i2 hs
            exact ⟨j, n, hj, by omega, hj0, h0, by rw [← hl2]; exact hl⟩
        · rintro ⟨i, j, h1, h2, h3, h4, h5⟩
          rcases Nat.lt_or_ge j n with hj | hj
          · exact .inl ⟨i, j, h1, hj, h3, h4, h5⟩
          · obtain rfl : j = n := by omega
            rcases hs : (dfold c j).seen with _ | _
            · exact absurd h3 (i1 hs i h1)
            · obtain ⟨k, hk, hk0, hl, hafter⟩ := i2 hs
              by_cases hlt : (dfold c j).last < (ord c j).1
              · exact .inr ⟨rfl, hlt⟩
              · refine .inl ⟨i, k, ?_, hk, h3, hk0, by omega⟩
                rcases Nat.lt_trichotomy i k with g | g | g
                · exact g
                · subst g; omega
                · exact absurd h3 (hafter i g h1)
    · have e : dfold c (n + 1) = dfold c n := by rw [dfold]; exact if_pos h0
      rw [e]
      refine ⟨fun h i hi => ?_, fun h => ?_, i3.trans ⟨?_, ?_⟩, i4.trans ⟨?_, ?_⟩⟩
      · rcases Nat.lt_or_ge i n with g | g
        · exact i1 h i g
        · obtain rfl : i = n := by omega
          exact h0
      · obtain ⟨j, hj, hj0, hl, hafter⟩ := i2 h
        refine ⟨j, by omega, hj0, hl, fun i h1 h2 => ?_⟩
        rcases Nat.lt_or_ge i n with g | g
        · exact hafter i h1 g
        · obtain rfl : i = n := by omega
          exact h0
      · rintro ⟨i, j, h1, h2, h3⟩; exact ⟨i, j, h1, by omega, h3⟩
      · rintro ⟨i, j, h1, h2, h3, h4, h5⟩
        refine ⟨i, j, h1, ?_, h3, h4, h5⟩
        rcases Nat.lt_or_ge j n with g | g
        · exact g
        · obtain rfl : j = n := by omega
          exact absurd h4 h0
      · rintro ⟨i, j, h1, h2, h3⟩; exact ⟨i, j, h1, by omega, h3⟩
      · rintro ⟨i, j, h1, h2, h3, h4, h5⟩
        refine ⟨i, j, h1, ?_, h3, h4, h5⟩
        rcases Nat.lt_or_ge j n with g | g
        · exact g
        · obtain rfl : j = n := by omega
          exact absurd h4 h0
/-- Linear values rise with M that is not negative, and fall with one that is. -/
theorem ten_pos (n : Int) : 0 < ten n := Int.pow_pos (by decide)
theorem lin_mono {c : Cv} (hm : 0 ≤ c.m) {x y : Int} (h : x ≤ y) : lin c x ≤ lin c y := by
  unfold lin
  refine clp_mono ?_
  have h1 := Int.mul_le_mul_of_nonneg_left h hm
  have h2 := Int.mul_le_mul_of_nonneg_right h1 (Int.le_of_lt (ten_pos (6 + c.k2)))
  omega
theorem lin_anti {c : Cv} (hm : c.m ≤ 0) {x y : Int} (h : x ≤ y) : lin c y ≤ lin c x := by
  unfold lin
  refine clp_mono ?_
  have h1 : c.m * y ≤ c.m * x := by
    have := Int.mul_le_mul_of_nonneg_left h (show 0 ≤ -c.m by omega)
    rw [Int.neg_mul, Int.neg_mul] at this; omega
  have h2 := Int.mul_le_mul_of_nonneg_right h1 (Int.le_of_lt (ten_pos (6 + c.k2)))
  omega
theorem ord_lin {c : Cv} (h1 : c.f = 1) (i : Nat) : ord c i = (lin c (least c.s + i), 0) := by
  unfold ord valv
  rw [if_neg (by omega), if_neg (by omega), if_neg (by omega), if_neg (by omega)]
theorem dir_lin {c : Cv} (h : vld c = true) (h1 : c.f = 1) : (dir c).2 = 0 ∧ (dir c).1 ≠ 0 ∧ (0 ≤ c.m → (dir c).1 = 1) := by
  obtain ⟨-, -, i3, i4⟩ := dfold_is c 256
  have nf : 0 ≤ c.m → ¬ (dfold c 256).fall = true := by
    intro hm hf
    obtain ⟨i, j, hij, -, -, -, hlt⟩ := i3.1 hf
    rw [ord_lin h1, ord_lin h1] at hlt
    have := lin_mono hm (x := least c.s + i) (y := least c.s + j) (by omega)
    dsimp only at hlt; omega
  have nr : c.m ≤ 0 → ¬ (dfold c 256).rise = true := by
    intro hm hf
    obtain ⟨i, j, hij, -, -, -, hlt⟩ := i4.1 hf
    rw [ord_lin h1, ord_lin h1] at hlt
    have := lin_anti hm (x := least c.s + i) (y := least c.s + j) (by omega)
    dsimp only at hlt; omega
  unfold dir
  rw [if_pos h]
  rcases Int.le_total 0 c.m with hm | hm
  · rw [if_neg (fun g => nf hm g.2), if_neg (nf hm)]
    exact ⟨rfl, by decide, fun _ => rfl⟩
  · rw [if_neg (fun g => nr hm g.1)]
    by_cases hf : (dfold c 256).fall = true
    · rw [if_pos hf]
      exact ⟨rfl, by decide, fun h0 => absurd hf (nf h0)⟩
    · rw [if_neg hf]
      exact ⟨rfl, by decide, fun _ => rfl⟩
/-- Values follow the direction. -/
theorem dir_follows {c : Cv} (h : vld c = true) {a b : UInt8} (ha : (value c a).2 = 0) (hb : (value c b).2 = 0) (hab : num c.s a ≤ num c.s b) :
    ((dir c).1 = 1 → (value c a).1 ≤ (value c b).1) ∧ ((dir c).1 = -1 → (value c b).1 ≤ (value c a).1) := by
  obtain ⟨-, -, i3, i4⟩ := dfold_is c 256
  obtain ⟨i, hi, -, hv, hn⟩ := at_value h a
  obtain ⟨j, hj, -, hw, hm⟩ := at_value h b
  rw [hv] at ha ⊢
  rw [hw] at hb ⊢
  have hij : i ≤ j := by omega
  unfold dir
  rw [if_pos h]
  rcases Nat.eq_or_lt_of_le hij with he | hlt
  · subst he
    exact ⟨fun _ => Int.le_refl _, fun _ => Int.le_refl _⟩
  · constructor
    · intro hd
      by_cases hf : (dfold c 256).fall = true
      · exfalso
        by_cases hr : (dfold c 256).rise = true
        · rw [if_pos ⟨hr, hf⟩] at hd; exact absurd hd (by decide)
        · rw [if_neg (fun g => hr g.1), if_pos hf] at hd; exact absurd hd (by decide)
      · rcases Int.lt_or_le (ord c j).1 (ord c i).1 with g | g
        · exact absurd (i3.2 ⟨i, j, hlt, hj, ha, hb, g⟩) hf
        · exact g
    · intro hd
      by_cases hr : (dfold c 256).rise = true
      · exfalso
        by_cases hf : (dfold c 256).fall = true
        · rw [if_pos ⟨hr, hf⟩] at hd; exact absurd hd (by decide)
        · rw [if_neg (fun g => hf g.2), if_neg hf] at hd; exact absurd hd (by decide)
      · rcases Int.lt_or_le (ord c i).1 (ord c j).1 with g | g
        · exact absurd (i4.2 ⟨i, j, hlt, hj, ha, hb, g⟩) hr
        · exact g
end Go.Proofs.Ytekhpcfggbegaaa.C4p
