/- Walks: the reference of conversions: which ones are valid. -/
import Derived.Test.YtekhpcfggbegaaaS11
import Derived.Deep.DeepCutAuto
namespace Go.Proofs.Ytekhpcfggbegaaa.C4v
open Go.RowKit Go.Proofs.Ytekhpcfggbegaaa.Mem Go.Proofs.Ytekhpcfggbegaaa.M3p Go.Proofs.Ytekhpcfggbegaaa.C4p Go.Proofs.Ytekhpcfggbegaaa.C4l
set_option maxRecDepth 100000
set_option maxHeartbeats 4000000

theorem okp_some (s : Bool) (n : Int) (l : List Pt) : okp s (some n) l = true ↔ (∀ j (h : j < l.length), -lim ≤ l[j].2 ∧ l[j].2 ≤ lim) ∧ (∀ j (h : j + 1 < l.length), num s l[j].1 < num s l[j + 1].1) ∧ (∀ h : 0 < l.length, n < num s l[0].1) := by
  induction l generalizing n with
  | nil => exact ⟨fun _ => ⟨fun j h => by simp at h, fun j h => by simp at h, fun h => by simp at h⟩, fun _ => rfl⟩
  | cons a l ih =>
    obtain ⟨r, v⟩ := a
    rw [okp, Bool.and_eq_true, Bool.and_eq_true, decide_eq_true_eq, decide_eq_true_eq, ih]
    constructor
    · rintro ⟨⟨h1, h2⟩, h3, h4, h5⟩
      refine ⟨fun j h => ?_, fun j h => ?_, fun _ => h2⟩
      · rcases j with _ | j
        · exact h1
        · exact h3 j (by simpa using h)
      · rcases j with _ | j
        · exact h5 (by simpa using h)
        · exact h4 j (by simpa using h)
    · rintro ⟨h1, h2, h3⟩
      exact ⟨⟨h1 0 (by simp), h3 (by simp)⟩, fun j h => h1 (j + 1) (by simpa using h), fun j h => h2 (j + 1) (by simpa using h), fun h => h2 0 (by simpa using h)⟩
theorem okp_iff (s : Bool) (l : List Pt) : okp s none l = true ↔ (∀ j (h : j < l.length), -lim ≤ l[j].2 ∧ l[j].2 ≤ lim) ∧ (∀ j (h : j + 1 < l.length), num s l[j].1 < num s l[j + 1].1) := by
  rcases l with _ | ⟨⟨r, v⟩, l⟩
  · exact ⟨fun _ => ⟨fun j h => by simp at h, fun j h => by simp at h⟩, fun _ => rfl⟩
  · rw [okp, Bool.and_eq_true, decide_eq_true_eq, okp_some]
    constructor
    · rintro ⟨h1, h3, h4, h5⟩
      refine ⟨fun j h => ?_, fun j h => ?_⟩
      · rcases j with _ | j
        · exact h1
        · exact h3 j (by simpa using h)
      · rcases j with _ | j
        · exact h5 (by simpa using h)
        · exact h4 j (by simpa using h)
    · rintro ⟨h1, h2⟩
      exact ⟨h1 0 (by simp), fun j h => h1 (j + 1) (by simpa using h), fun j h => h2 (j + 1) (by simpa using h), fun h => h2 0 (by simpa using h)⟩
theorem vld_five (s : Bool) (l : List Pt) (h2 : 2 ≤ l.length) (h12 : l.length ≤ 12) : vld ⟨5, s, 0, 0, 0, 0, l⟩ = okp s none l := by
  unfold vld
  rw [if_neg (by show ¬ (1 ≤ (5 : Int) ∧ (5 : Int) ≤ 4); decide), decide_eq_true ⟨rfl, rfl, rfl, rfl, rfl⟩, decide_eq_true ⟨h2, h12⟩]
  rfl
theorem vld_not (f m b k1 k2 : Int) (s : Bool) (l : List Pt) (h : ¬ (1 ≤ f ∧ f ≤ 4)) (h2 : ¬ (f = 5 ∧ m = 0 ∧ b = 0 ∧ k1 = 0 ∧ k2 = 0 ∧ 2 ≤ l.length ∧ l.length ≤ 12)) : vld ⟨f, s, m, b, k1, k2, l⟩ = false := by
  unfold vld
  rw [if_neg h]
  simp only [Bool.and_eq_false_iff, decide_eq_false_iff_not]
  by_cases h3 : f = 5 ∧ m = 0 ∧ b = 0 ∧ k1 = 0 ∧ k2 = 0
  · exact .inl (.inr (fun h4 => h2 ⟨h3.1, h3.2.1, h3.2.2.1, h3.2.2.2.1, h3.2.2.2.2, h4.1, h4.2⟩))
  · exact .inl (.inl h3)
theorem valid_four (f m b k1 k2 : Int) (s : Bool) (A : Option Addr) (n cp : Nat) (l : List Pt) (w : World) (hl : n = l.length) (h : 1 ≤ f ∧ f ≤ 4) :
    Calls Try.prog 97 #[.agg #[.int .i64 f, .bool s, .int .i64 m, .int .i64 b, .int .i64 k1, .int .i64 k2, .slice A n cp]] w fun e w' => e = .returned (.bool (vld ⟨f, s, m, b, k1, k2, l⟩)) ∧ Below w.heap.size w w' := by
  have hbx : Below w.heap.size w (w.alloc (.cells #[.int .i64 f, .bool s, .int .i64 m, .int .i64 b, .int .i64 k1, .int .i64 k2, .slice A n cp] 26)) := (Below.refl _ _).alloc (Nat.le_refl _) _
  have hv : vld ⟨f, s, m, b, k1, k2, l⟩ = (decide (-512 ≤ m ∧ m ≤ 511 ∧ -512 ≤ b ∧ b ≤ 511 ∧ -3 ≤ k1 ∧ k1 ≤ 3 ∧ -3 ≤ k2 ∧ k2 ≤ 3) && decide (n = 0)) := by
    unfold vld
    rw [if_pos h, hl]
    rcases l with _ | ⟨a, l⟩ <;> simp
  obtain ⟨R, hR⟩ : ∃ R, R = vld ⟨f, s, m, b, k1, k2, l⟩ := ⟨_, rfl⟩
  rw [← hR]
  rw [hv] at hR
  have HR := Lib.hid hR
  obtain ⟨h1, h4⟩ := h
  clear hv hR hl
  go_enter Try.func97, Try.ntmps97
  go_wp2_with fail
  all_goals
    go_ret
    refine ⟨ret_bool ?_, hbx⟩
    rw [HR.out]
    first | (symm; simp; omega) | (simp; omega) | (rw [Bool.eq_iff_iff]; simp; omega)
theorem valid_bad (f m b k1 k2 : Int) (s : Bool) (A : Option Addr) (n cp : Nat) (w : World) (h : ¬ (1 ≤ f ∧ f ≤ 4)) (h2 : ¬ (f = 5 ∧ m = 0 ∧ b = 0 ∧ k1 = 0 ∧ k2 = 0 ∧ 2 ≤ n ∧ n ≤ 12)) :
    Calls Try.prog 97 #[.agg #[.int .i64 f, .bool s, .int .i64 m, .int .i64 b, .int .i64 k1, .int .i64 k2, .slice A n cp]] w fun e w' => e = .returned (.bool false) ∧ Below w.heap.size w w' := by
  by_cases c0 : f = 5
  case neg =>
    have hf : (f == 5) = false := by rw [beq_eq_false_iff_ne]; exact c0
    have hf2 : (f != 5) = true := by rw [bne_iff_ne]; exact c0
    rcases (show f < 1 ∨ (1 ≤ f ∧ 4 < f) by omega) with g | ⟨g, g2⟩
    · clear h h2 c0
      go_enter Try.func97, Try.ntmps97
      go_wp2_with fail
      all_goals go_ret
      all_goals exact ⟨rfl, (Below.refl _ _).alloc (Nat.le_refl _) _⟩
    · clear h h2 c0
      go_enter Try.func97, Try.ntmps97
      go_wp2_with fail
      all_goals go_ret
      all_goals exact ⟨rfl, (Below.refl _ _).alloc (Nat.le_refl _) _⟩
  subst c0
  by_cases c1 : m = 0
  case neg =>
    have hk : (m == 0) = false := by rw [beq_eq_false_iff_ne]; exact c1
    have hk2 : (m != 0) = true := by rw [bne_iff_ne]; exact c1
    clear h h2 c1
    go_enter Try.func97, Try.ntmps97
    go_wp2_with fail
    all_goals go_ret
    all_goals exact ⟨rfl, (Below.refl _ _).alloc (Nat.le_refl _) _⟩
  subst c1
  by_cases c2 : b = 0
  case neg =>
    have hk : (b == 0) = false := by rw [beq_eq_false_iff_ne]; exact c2
    have hk2 : (b != 0) = true := by rw [bne_iff_ne]; exact c2
    clear h h2 c2
    go_enter Try.func97, Try.ntmps97
    go_wp2_with fail
    all_goals go_ret
    all_goals exact ⟨rfl, (Below.refl _ _).alloc (Nat.le_refl _) _⟩
  subst c2
  by_cases c3 : k1 = 0
  case neg =>
    have hk : (k1 == 0) = false := by rw [beq_eq_false_iff_ne]; exact c3
    have hk2 : (k1 != 0) = true := by rw [bne_iff_ne]; exact c3
    clear h h2 c3
    go_enter Try.func97, Try.ntmps97
    go_wp2_with fail
    all_goals go_ret
    all_goals exact ⟨rfl, (Below.refl _ _).alloc (Nat.le_refl _) _⟩
  subst c3
  by_cases c4 : k2 = 0
  case neg =>
    have hk : (k2 == 0) = false := by rw [beq_eq_false_iff_ne]; exact c4
    have hk2 : (k2 != 0) = true := by rw [bne_iff_ne]; exact c4
    clear h h2 c4
    go_enter Try.func97, Try.ntmps97
    go_wp2_with fail
    all_goals go_ret
    all_goals exact ⟨rfl, (Below.refl _ _).alloc (Nat.le_refl _) _⟩
  subst c4
  by_cases c5 : 2 ≤ n
  case neg =>
    have hk : n < 2 := by omega
    clear h h2 c5
    go_enter Try.func97, Try.ntmps97
    go_wp2_with fail
    all_goals go_ret
    all_goals exact ⟨rfl, (Below.refl _ _).alloc (Nat.le_refl _) _⟩
  by_cases c6 : n ≤ 12
  case neg =>
    have hk : ¬ n < 2 := by omega
    have hk2 : 12 < n := by omega
    clear h h2 c6
    go_enter Try.func97, Try.ntmps97
    go_wp2_with fail
    all_goals go_ret
    all_goals exact ⟨rfl, (Below.refl _ _).alloc (Nat.le_refl _) _⟩
  exact absurd ⟨rfl, rfl, rfl, rfl, rfl, c5, c6⟩ h2
end Go.Proofs.Ytekhpcfggbegaaa.C4v
