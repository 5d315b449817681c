/- Decimal texts: parsing what was written. -/
import Derived.Test.YtnkhmhcgcmacgaaDoorM3s
namespace Go.Proofs.YtnkhmhcgcmacgaaDoor.M3r
open Go.Proofs.YtnkhmhcgcmacgaaDoor.Mem Go.Proofs.YtnkhmhcgcmacgaaDoor.M3p Go.Proofs.YtnkhmhcgcmacgaaDoor.F2p
set_option maxRecDepth 100000
def fin (neg : Bool) (v : Nat) : Int × Int := if 1000000000000 < v then (0, 2) else (if neg then -(v : Int) else (v : Int), 0)
def psrU (neg : Bool) (r : List UInt8) : Int × Int :=
  if (r.takeWhile isd).length = 0 ∨ 7 < (r.takeWhile isd).length ∨ (1 < (r.takeWhile isd).length ∧ (r.takeWhile isd).head? = some 48) then (0, 6)
  else match r.dropWhile isd with
    | [] => fin neg (val (r.takeWhile isd) * 1000000)
    | c :: f => if c = 46 ∧ 1 ≤ f.length ∧ f.length ≤ 6 ∧ f.all isd = true then fin neg (val (r.takeWhile isd) * 1000000 + val f * 10 ^ (6 - f.length)) else (0, 6)
/-- What Parse answers: number, error. -/
def psr (l : List UInt8) : Int × Int := if l.head? = some 45 then psrU true l.tail else psrU false l
theorem fold_acc (l : List UInt8) (acc : Nat) : l.foldl (fun v x => 10 * v + dv x) acc = acc * 10 ^ l.length + val l := by
  induction l generalizing acc with
  | nil => simp [val]
  | cons x l ih =>
    have h1 := ih (10 * acc + dv x)
    have h2 := ih (dv x)
    rw [List.foldl_cons, h1, List.length_cons, Nat.pow_succ]
    have h3 : val (x :: l) = dv x * 10 ^ l.length + val l := by unfold val; rw [List.foldl_cons, Nat.mul_zero, Nat.zero_add]; exact h2
    rw [h3, Nat.add_mul, Nat.mul_comm 10 acc, Nat.mul_assoc, Nat.mul_comm 10, Nat.add_assoc]
theorem val_cons (x : UInt8) (l : List UInt8) : val (x :: l) = dv x * 10 ^ l.length + val l := by
  have := fold_acc l (dv x)
  unfold val
  rw [List.foldl_cons, Nat.mul_zero, Nat.zero_add]
  exact this
theorem frc_val (f p : Nat) (h : p * 10 ^ f % 1000000 = 0) (hp : p < 1000000) : val (frc f p) * 1000000 = p * 10 ^ (frc f p).length ∧ (frc f p).length ≤ f ∧ (frc f p).all isd = true := by
  induction f generalizing p with
  | zero =>
    obtain rfl : p = 0 := by simp at h; omega
    exact ⟨rfl, Nat.le_refl _, rfl⟩
  | succ f ih =>
    by_cases h0 : p = 0
    · subst h0
      rw [frc_zero]
      exact ⟨by simp [val], Nat.zero_le _, rfl⟩
    · obtain ⟨d, hd⟩ : ∃ d, d = 10 * p / 1000000 := ⟨_, rfl⟩
      obtain ⟨r, hr⟩ : ∃ r, r = 10 * p % 1000000 := ⟨_, rfl⟩
      have hdr : 10 * p = 1000000 * d + r := by omega
      have e : frc (f + 1) p = UInt8.ofNat (48 + d) :: frc f r := by rw [frc, if_neg h0, ← hd, ← hr]
      have hrz : r * 10 ^ f % 1000000 = 0 := by
        rw [Nat.pow_succ, Nat.mul_comm (10 ^ f), ← Nat.mul_assoc, Nat.mul_comm p, hdr, Nat.add_mul, Nat.mul_assoc, Nat.mul_add_mod] at h
        exact h
      obtain ⟨i1, i2, i3⟩ := ih r hrz (by omega)
      obtain ⟨g1, g2⟩ := dig_isd d (by omega)
      rw [e]
      refine ⟨?_, by simp; omega, by rw [List.all_cons, g1, i3]; rfl⟩
      rw [val_cons, g2, List.length_cons, Nat.pow_succ, Nat.add_mul, i1]
      generalize 10 ^ (frc f r).length = K
      have e1 : p * (K * 10) = 10 * p * K := by rw [Nat.mul_comm K, ← Nat.mul_assoc, Nat.mul_comm p]
      rw [e1, hdr, Nat.add_mul, Nat.mul_right_comm d K, Nat.mul_comm d]
theorem frc_whole (p : Nat) (h0 : p ≠ 0) (hp : p < 1000000) : val (frc 6 p) * 10 ^ (6 - (frc 6 p).length) = p ∧ 1 ≤ (frc 6 p).length ∧ (frc 6 p).length ≤ 6 ∧ (frc 6 p).all isd = true := by
  obtain ⟨h1, h2, h3⟩ := frc_val 6 p (by omega) hp
  refine ⟨?_, ?_, h2, h3⟩
  · have hpos : 0 < 10 ^ (frc 6 p).length := Nat.pow_pos (by omega)
    refine Nat.eq_of_mul_eq_mul_right hpos ?_
    rw [Nat.mul_assoc, ← Nat.pow_add, show 6 - (frc 6 p).length + (frc 6 p).length = 6 by omega, ← h1]
  · have e : frc 6 p = UInt8.ofNat (48 + 10 * p / 1000000) :: frc 5 (10 * p % 1000000) := by rw [frc, if_neg h0]
    rw [e]; simp
theorem dgs_head (n : Nat) (h : 1 ≤ n) : (dgs n).head? ≠ some 48 := by
  by_cases h10 : n < 10
  · rw [dgs_small h10]
    intro e
    simp at e
    have := congrArg UInt8.toNat e
    rw [UInt8.toNat_ofNat'] at this
    simp at this
    omega
  · rw [dgs_big h10]
    have ih := dgs_head (n / 10) (by omega)
    obtain ⟨-, -, h1⟩ := val_dgs (n / 10)
    rcases hd : dgs (n / 10) with _ | ⟨x, r⟩
    · rw [hd] at h1; simp at h1
    · rw [hd] at ih
      simpa using ih
termination_by n
decreasing_by omega
theorem while_split (a r : List UInt8) (h : ∀ x ∈ a, isd x = true) (hr : r = [] ∨ ∃ f, r = 46 :: f) : (a ++ r).takeWhile isd = a ∧ (a ++ r).dropWhile isd = r := by
  rw [List.takeWhile_append_of_pos h, List.dropWhile_append_of_pos h]
  rcases hr with rfl | ⟨f, rfl⟩
  · simp
  · have e : isd 46 = false := by decide
    simp [e]
theorem psrU_fmt (neg : Bool) (n : Nat) (hn : n ≤ 1000000000000) : psrU neg (fmtN n) = (if neg then -(n : Int) else (n : Int), 0) := by
  obtain ⟨v1, v2, v3⟩ := val_dgs (n / 1000000)
  have hl := dgs_len (n / 1000000) 7 (by omega) (by omega)
  have hhd : ¬ (1 < (dgs (n / 1000000)).length ∧ (dgs (n / 1000000)).head? = some 48) := by
    rintro ⟨h1, h2⟩
    by_cases h0 : n / 1000000 = 0
    · rw [h0, dgs_small (by omega)] at h1; simp at h1
    · exact dgs_head _ (by omega) h2
  have hno : ¬ ((dgs (n / 1000000)).length = 0 ∨ 7 < (dgs (n / 1000000)).length ∨ (1 < (dgs (n / 1000000)).length ∧ (dgs (n / 1000000)).head? = some 48)) := by
    rintro (h | h | h)
    · omega
    · omega
    · exact hhd h
  have hfin : ∀ m, m = n → fin neg m = (if neg then -(n : Int) else (n : Int), 0) := fun m hm => by
    subst hm
    unfold fin
    rw [if_neg (by omega)]
  unfold psrU fmtN
  by_cases hP : n % 1000000 = 0
  · rw [if_pos hP]
    obtain ⟨s1, s2⟩ := while_split (dgs (n / 1000000)) [] v2 (.inl rfl)
    rw [s1, s2, if_neg hno, v1]
    exact hfin _ (by omega)
  · rw [if_neg hP]
    obtain ⟨s1, s2⟩ := while_split (dgs (n / 1000000)) (46 :: frc 6 (n % 1000000)) v2 (.inr ⟨_, rfl⟩)
    obtain ⟨f1, f2, f3, f4⟩ := frc_whole (n % 1000000) hP (by omega)
    rw [s1, s2, if_neg hno, v1]
    show (if (46 : UInt8) = 46 ∧ _ then _ else _) = _
    rw [if_pos ⟨rfl, f2, f3, f4⟩, f1]
    exact hfin _ (by omega)
theorem psr_fmt (v : Int) (h1 : -1000000000000 ≤ v) (h2 : v ≤ 1000000000000) : psr (fmt v) = (v, 0) := by
  unfold psr fmt
  by_cases hv : v < 0
  · rw [if_pos hv]
    have e := psrU_fmt true v.natAbs (by omega)
    simp only [List.singleton_append, List.head?_cons, List.tail_cons, if_true, e]
    simp; omega
  · rw [if_neg hv, List.nil_append]
    have e := psrU_fmt false v.natAbs (by omega)
    obtain ⟨-, v2, v3⟩ := val_dgs (v.natAbs / 1000000)
    have hh : (fmtN v.natAbs).head? ≠ some 45 := by
      unfold fmtN
      rcases hd : dgs (v.natAbs / 1000000) with _ | ⟨x, r⟩
      · rw [hd] at v3; simp at v3
      · rw [hd] at v2
        have := v2 x (by simp)
        simp only [List.cons_append, List.head?_cons]
        intro hx
        injection hx with hx
        subst hx
        simp [isd] at this
    rw [if_neg hh, e]
    simp; omega
end Go.Proofs.YtnkhmhcgcmacgaaDoor.M3r
