/- Plain mathematics of conversions: numbers of raw readings, values, tables. -/
import Derived.Test.YtekhpcfggbegaaaS02
namespace Go.Proofs.Ytekhpcfggbegaaa.C4p
open Go.Proofs.Ytekhpcfggbegaaa.M3p
set_option maxRecDepth 100000

/-- A root, rounded down. -/
def rt : Nat → Nat
  | 0 => 0
  | n + 1 => if (rt n + 1) * (rt n + 1) ≤ n + 1 then rt n + 1 else rt n
theorem rt_is (n : Nat) : isRoot n (rt n) := by
  induction n with
  | zero => unfold isRoot rt; omega
  | succ n ih =>
    obtain ⟨h1, h2⟩ := ih
    rw [rt]
    split
    · rename_i h
      refine ⟨h, ?_⟩
      have : (rt n + 1 + 1) * (rt n + 1 + 1) = (rt n + 1) * (rt n + 1) + (rt n + 1) + (rt n + 1) + 1 := by
        rw [Nat.add_mul (rt n + 1) 1, Nat.mul_add (rt n + 1) (rt n + 1) 1, Nat.one_mul, Nat.mul_one]; omega
      omega
    · exact ⟨by omega, by omega⟩
/-! Numbers of raw readings. -/
def num (s : Bool) (r : UInt8) : Int := if s = true ∧ 128 ≤ r.toNat then (r.toNat : Int) - 256 else (r.toNat : Int)
def least (s : Bool) : Int := if s = true then -128 else 0
def rawOf (n : Int) : UInt8 := UInt8.ofNat ((n + 256) % 256).toNat
theorem num_in (s : Bool) (r : UInt8) : least s ≤ num s r ∧ num s r < least s + 256 := by
  have := r.toNat_lt
  unfold least num
  cases s
  · rw [if_neg (by simp), if_neg (by simp)]; omega
  · rw [if_pos rfl]
    by_cases h : 128 ≤ r.toNat
    · rw [if_pos ⟨rfl, h⟩]; omega
    · rw [if_neg (fun g => h g.2)]; omega
theorem raw_nat (n : Int) : (rawOf n).toNat = ((n + 256) % 256).toNat := by
  unfold rawOf
  rw [UInt8.toNat_ofNat']
  exact Nat.mod_eq_of_lt (by omega)
theorem num_raw {s : Bool} {n : Int} (h1 : least s ≤ n) (h2 : n < least s + 256) : num s (rawOf n) = n := by
  have e := raw_nat n
  unfold num least at *
  cases s
  · rw [if_neg (by simp)] at h1 h2
    rw [if_neg (by simp)]; omega
  · rw [if_pos rfl] at h1 h2
    by_cases h : 128 ≤ (rawOf n).toNat
    · rw [if_pos ⟨rfl, h⟩]; omega
    · rw [if_neg (fun g => h g.2)]; omega
theorem raw_num (s : Bool) (r : UInt8) : rawOf (num s r) = r := by
  have hr := r.toNat_lt
  apply UInt8.toNat_inj.1
  rw [raw_nat]
  unfold num
  split <;> omega
/-! Conversions. -/
structure Cv where
  f : Int
  s : Bool
  m : Int
  b : Int
  k1 : Int
  k2 : Int
  p : List (UInt8 × Int)
/-- The points' values are within the limit and their numbers rise; pv: the number before the first one, if there is one. -/
def okp (s : Bool) : Option Int → List (UInt8 × Int) → Bool
  | _, [] => true
  | none, (r, v) :: l => decide (-lim ≤ v ∧ v ≤ lim) && okp s (some (num s r)) l
  | some n, (r, v) :: l => decide (-lim ≤ v ∧ v ≤ lim) && decide (n < num s r) && okp s (some (num s r)) l
def vld (c : Cv) : Bool :=
  if 1 ≤ c.f ∧ c.f ≤ 4 then decide (-512 ≤ c.m ∧ c.m ≤ 511 ∧ -512 ≤ c.b ∧ c.b ≤ 511 ∧ -3 ≤ c.k1 ∧ c.k1 ≤ 3 ∧ -3 ≤ c.k2 ∧ c.k2 ≤ 3) && decide (c.p = [])
  else decide (c.f = 5 ∧ c.m = 0 ∧ c.b = 0 ∧ c.k1 = 0 ∧ c.k2 = 0) && decide (2 ≤ c.p.length ∧ c.p.length ≤ 12) && okp c.s none c.p
def ten (n : Int) : Int := 10 ^ n.toNat
/-- The linear value, clamped. -/
def lin (c : Cv) (x : Int) : Int := clp (c.m * x * ten (6 + c.k2) + c.b * ten (6 + c.k1 + c.k2))
/-- The value of a table at a number; pv: the point before. -/
def tab (s : Bool) (x : Int) : Option (Int × Int) → List (UInt8 × Int) → Int
  | none, [] => 0
  | some (_, u), [] => u
  | pv, (r, v) :: l =>
    if num s r < x then tab s x (some (num s r, v)) l
    else if x = num s r then v
    else match pv with
      | none => v
      | some (n, u) => u + (v - u) * (x - n) / (num s r - n)
/-- The value between two points, or the first point's. -/
def mid (s : Bool) (x : Int) (pv : Option (Int × Int)) (r : UInt8) (v : Int) : Int := match pv with
  | none => v
  | some (n, u) => u + (v - u) * (x - n) / (num s r - n)
theorem tab_cons (s : Bool) (x : Int) (pv : Option (Int × Int)) (r : UInt8) (v : Int) (l : List (UInt8 × Int)) : tab s x pv ((r, v) :: l) = if num s r < x then tab s x (some (num s r, v)) l else if x = num s r then v else mid s x pv r v := by
  cases pv <;> (rw [tab]; rfl)
/-- What Value answers for a valid conversion: value, error. -/
def valv (c : Cv) (x : Int) : Int × Int :=
  if c.f = 5 then (tab c.s x none c.p, 0)
  else if c.f = 2 then (if lin c x = 0 then (0, 12) else (divS 1000000 (lin c x), 0))
  else if c.f = 3 then (mulS (lin c x) (lin c x), 0)
  else if c.f = 4 then (if lin c x < 0 then (0, 2) else ((rt (lin c x * 1000000).toNat : Int), 0))
  else (lin c x, 0)
def value (c : Cv) (r : UInt8) : Int × Int := if vld c = true then valv c (num c.s r) else (0, 1)
/-! What is within what. -/
theorem lin_in (c : Cv) (x : Int) : -lim ≤ lin c x ∧ lin c x ≤ lim := clp_le _
theorem rt_le {n : Nat} (h : n ≤ 1000000000000000000) : rt n ≤ 1000000000 := by
  obtain ⟨h1, h2⟩ := rt_is n
  rcases Nat.lt_or_ge 1000000000 (rt n) with hlt | hge
  · have := Nat.mul_le_mul (show 1000000001 ≤ rt n by omega) (show 1000000001 ≤ rt n by omega)
    omega
  · exact hge
/-- A point between two others lies between their values. -/
theorem between {u v n m x : Int} (h1 : n < x) (h2 : x < m) : min u v ≤ u + (v - u) * (x - n) / (m - n) ∧ u + (v - u) * (x - n) / (m - n) ≤ max u v := by
  obtain ⟨d, hd⟩ : ∃ d, d = m - n := ⟨_, rfl⟩
  obtain ⟨t, ht⟩ : ∃ t, t = x - n := ⟨_, rfl⟩
  rw [← hd, ← ht]
  have hd0 : 0 < d := by omega
  have ht0 : 0 < t := by omega
  have htd : t < d := by omega
  rcases Int.le_total u v with huv | huv
  · have g1 : 0 ≤ (v - u) * t := Int.mul_nonneg (by omega) (by omega)
    have g2 : (v - u) * t ≤ (v - u) * d := Int.mul_le_mul_of_nonneg_left (by omega) (by omega)
    have e1 : 0 ≤ (v - u) * t / d := Int.ediv_nonneg g1 (by omega)
    have e2 : (v - u) * t / d ≤ v - u := Int.le_of_lt_add_one (Int.ediv_lt_of_lt_mul hd0 (by rw [Int.add_mul, Int.one_mul]; omega))
    omega
  · have g1 : (v - u) * t ≤ 0 := by
      have := Int.mul_nonneg (show 0 ≤ u - v by omega) (show 0 ≤ t by omega)
      rw [show v - u = -(u - v) by omega, Int.neg_mul]; omega
    have g2 : (v - u) * d ≤ (v - u) * t := by
      have := Int.mul_le_mul_of_nonneg_left (show t ≤ d by omega) (show 0 ≤ u - v by omega)
      rw [show v - u = -(u - v) by omega, Int.neg_mul, Int.neg_mul]; omega
    have e1 : v - u ≤ (v - u) * t / d := Int.le_ediv_of_mul_le hd0 g2
    have e2 : (v - u) * t / d ≤ 0 := by
      have := Int.ediv_le_ediv hd0 g1
      rwa [Int.zero_ediv] at this
    omega
/-- The numbers of the points from a place on are above n. -/
theorem okp_tail {s : Bool} {n : Int} {l : List (UInt8 × Int)} (h : okp s (some n) l = true) : ∀ q ∈ l, n < num s q.1 ∧ -lim ≤ q.2 ∧ q.2 ≤ lim := by
  induction l generalizing n with
  | nil => intro q hq; cases hq
  | cons a l ih =>
    obtain ⟨r, v⟩ := a
    rw [okp, Bool.and_eq_true, Bool.and_eq_true, decide_eq_true_eq, decide_eq_true_eq] at h
    obtain ⟨⟨h1, h2⟩, h3⟩ := h
    intro q hq
    rcases List.mem_cons.1 hq with rfl | hq
    · exact ⟨h2, h1⟩
    · obtain ⟨g1, g2⟩ := ih h3 q hq
      exact ⟨by omega, g2⟩
theorem okp_none {s : Bool} {l : List (UInt8 × Int)} (h : okp s none l = true) : ∀ q ∈ l, -lim ≤ q.2 ∧ q.2 ≤ lim := by
  rcases l with _ | ⟨⟨r, v⟩, l⟩
  · intro q hq; cases hq
  · rw [okp, Bool.and_eq_true, decide_eq_true_eq] at h
    intro q hq
    rcases List.mem_cons.1 hq with rfl | hq
    · exact h.1
    · exact (okp_tail h.2 q hq).2
theorem tab_in {s : Bool} {x : Int} {pv : Option (Int × Int)} {l : List (UInt8 × Int)} (hp : ∀ n u, pv = some (n, u) → n < x ∧ -lim ≤ u ∧ u ≤ lim) (h : ∀ q ∈ l, -lim ≤ q.2 ∧ q.2 ≤ lim) : -lim ≤ tab s x pv l ∧ tab s x pv l ≤ lim := by
  induction l generalizing pv with
  | nil =>
    rcases pv with _ | ⟨n, u⟩
    · show -lim ≤ 0 ∧ (0 : Int) ≤ lim
      exact ⟨by decide, by decide⟩
    · exact (hp n u rfl).2
  | cons a l ih =>
    obtain ⟨r, v⟩ := a
    have hv := h (r, v) (by simp)
    rw [tab_cons]
    by_cases h1 : num s r < x
    · rw [if_pos h1]
      exact ih (fun n u e => by injection e with e; injection e with e1 e2; subst e1 e2; exact ⟨h1, hv⟩) (fun q hq => h q (by simp [hq]))
    · rw [if_neg h1]
      by_cases h2 : x = num s r
      · rw [if_pos h2]; exact hv
      · rw [if_neg h2]
        rcases pv with _ | ⟨n, u⟩
        · exact hv
        · obtain ⟨g1, g2⟩ := hp n u rfl
          have := between (u := u) (v := v) (n := n) (m := num s r) (x := x) g1 (by omega)
          have hv : -lim ≤ v ∧ v ≤ lim := hv
          unfold mid
          dsimp only
          omega
theorem vld_tab {c : Cv} (h : vld c = true) (h5 : c.f = 5) : (c.m = 0 ∧ c.b = 0 ∧ c.k1 = 0 ∧ c.k2 = 0) ∧ (2 ≤ c.p.length ∧ c.p.length ≤ 12) ∧ okp c.s none c.p = true := by
  unfold vld at h
  rw [if_neg (by omega), Bool.and_eq_true, Bool.and_eq_true, decide_eq_true_eq, decide_eq_true_eq] at h
  exact ⟨h.1.1.2, h.1.2, h.2⟩
theorem vld_lin {c : Cv} (h : vld c = true) (h5 : c.f ≠ 5) : (1 ≤ c.f ∧ c.f ≤ 4) ∧ (-512 ≤ c.m ∧ c.m ≤ 511 ∧ -512 ≤ c.b ∧ c.b ≤ 511 ∧ -3 ≤ c.k1 ∧ c.k1 ≤ 3 ∧ -3 ≤ c.k2 ∧ c.k2 ≤ 3) ∧ c.p = [] := by
  unfold vld at h
  by_cases h4 : 1 ≤ c.f ∧ c.f ≤ 4
  · rw [if_pos h4, Bool.and_eq_true, decide_eq_true_eq, decide_eq_true_eq] at h
    exact ⟨h4, h.1, h.2⟩
  · rw [if_neg h4, Bool.and_eq_true, Bool.and_eq_true, decide_eq_true_eq] at h
    exact absurd h.1.1.1 h5
theorem valv_in {c : Cv} (h : vld c = true) (x : Int) : -lim ≤ (valv c x).1 ∧ (valv c x).1 ≤ lim := by
  have hl := lin_in c x
  unfold valv
  by_cases h5 : c.f = 5
  · rw [if_pos h5]
    exact tab_in (fun n u e => by cases e) (okp_none (vld_tab h h5).2.2)
  · rw [if_neg h5]
    split
    · split
      · exact ⟨by decide, by decide⟩
      · exact clp_le _
    · split
      · exact clp_le _
      · split
        · split
          · exact ⟨by decide, by decide⟩
          · have := rt_le (n := (lin c x * 1000000).toNat) (by unfold lim at hl; omega)
            exact ⟨by unfold lim; dsimp only; omega, by unfold lim; dsimp only; omega⟩
        · exact hl
theorem value_in (c : Cv) (r : UInt8) : -lim ≤ (value c r).1 ∧ (value c r).1 ≤ lim := by
  unfold value
  split
  · rename_i h; exact valv_in h _
  · exact ⟨by decide, by decide⟩
/-- The values of a table lie between those of two points that follow one another. -/
theorem tab_at {s : Bool} {x : Int} {pv : Option (Int × Int)} {l : List (UInt8 × Int)} {k : Nat} (hk : k + 1 < l.length) (h0 : ∀ n u, pv = some (n, u) → okp s (some n) l = true) (h : pv = none → okp s none l = true)
    (h1 : num s l[k].1 ≤ x) (h2 : x ≤ num s l[k + 1].1) : min l[k].2 l[k + 1].2 ≤ tab s x pv l ∧ tab s x pv l ≤ max l[k].2 l[k + 1].2 := by
  induction l generalizing pv k with
  | nil => simp at hk
  | cons a l ih =>
    obtain ⟨r, v⟩ := a
    have hok : okp s (some (num s r)) l = true := by
      rcases pv with _ | ⟨n, u⟩
      · have := h rfl
        rw [okp, Bool.and_eq_true] at this
        exact this.2
      · have := h0 n u rfl
        rw [okp, Bool.and_eq_true] at this
        exact this.2
    rw [tab_cons]
    rcases k with _ | k
    · simp only [List.getElem_cons_zero, List.getElem_cons_succ] at *
      rcases l with _ | ⟨⟨r2, v2⟩, l⟩
      · simp at hk
      · simp only [List.getElem_cons_zero] at *
        by_cases hx : num s r < x
        · rw [if_pos hx, tab_cons, if_neg (by omega)]
          by_cases hx2 : x = num s r2
          · rw [if_pos hx2]; omega
          · rw [if_neg hx2]
            exact between hx (by omega)
        · rw [if_neg hx, if_pos (by omega)]; omega
    · simp only [List.getElem_cons_succ] at *
      have hkl : k < l.length := by rw [List.length_cons] at hk; omega
      have hlt : num s r < num s l[k].1 := (okp_tail hok _ (List.getElem_mem hkl)).1
      rw [if_pos (by omega)]
      exact ih (by simp at hk; omega) (fun n u e => by injection e with e; injection e with e1 e2; subst e1; exact hok) (fun e => by cases e) h1 h2
end Go.Proofs.Ytekhpcfggbegaaa.C4p
