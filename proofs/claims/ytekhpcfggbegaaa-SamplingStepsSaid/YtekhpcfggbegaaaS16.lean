/- Walks: the program's conversions: which ones are valid. -/
import Derived.Test.YtekhpcfggbegaaaS15
namespace Go.Proofs.Ytekhpcfggbegaaa.P4
open Go.RowKit Go.Proofs.Ytekhpcfggbegaaa.Mem Go.Proofs.Ytekhpcfggbegaaa.M3p Go.Proofs.Ytekhpcfggbegaaa.C4p Go.Proofs.Ytekhpcfggbegaaa.C4l Go.Proofs.Ytekhpcfggbegaaa.C4v
set_option maxRecDepth 100000
set_option maxHeartbeats 4000000

theorem valid_p4 (f m b k1 k2 : Int) (s : Bool) (A : Option Addr) (n cp : Nat) (l : List Pt) (w : World) (hl : n = l.length) (h : 1 ≤ f ∧ f ≤ 4) :
    Calls Try.prog 131 #[.agg #[.int .i64 f, .bool s, .int .i64 m, .int .i64 b, .int .i64 k1, .int .i64 k2, .slice A n cp]] w fun e w' => e = .returned (.bool (vld ⟨f, s, m, b, k1, k2, l⟩)) ∧ Below w.heap.size w w' := by
  have hbx : Below w.heap.size w (w.alloc (.cells #[.int .i64 f, .bool s, .int .i64 m, .int .i64 b, .int .i64 k1, .int .i64 k2, .slice A n cp] 26)) := (Below.refl _ _).alloc (Nat.le_refl _) _
  have hv : vld ⟨f, s, m, b, k1, k2, l⟩ = (decide (-512 ≤ m ∧ m ≤ 511) && decide (-512 ≤ b ∧ b ≤ 511) && decide (-3 ≤ k1 ∧ k1 ≤ 3) && decide (-3 ≤ k2 ∧ k2 ≤ 3) && decide (n = 0)) := by
    unfold vld
    rw [if_pos h, hl, Bool.eq_iff_iff]
    rcases l with _ | ⟨a, l⟩ <;> simp
    omega
  obtain ⟨R, hR⟩ : ∃ R, R = vld ⟨f, s, m, b, k1, k2, l⟩ := ⟨_, rfl⟩
  rw [← hR]
  rw [hv] at hR
  obtain ⟨fB, hfB⟩ : ∃ fB : Int → Bool, ∀ v, fB v = decide (-512 ≤ v ∧ v ≤ 511) := ⟨_, fun _ => rfl⟩
  obtain ⟨eB, heB⟩ : ∃ eB : Int → Bool, ∀ v, eB v = decide (-3 ≤ v ∧ v ≤ 3) := ⟨_, fun _ => rfl⟩
  have HF := Lib.hid (fun v u => by have := factor_p v u; rw [← hfB] at this; exact this)
  have HE := Lib.hid (fun v u => by have := expo_p v u; rw [← heB] at this; exact this)
  rw [← hfB, ← hfB, ← heB, ← heB] at hR
  have HR := Lib.hid hR
  obtain ⟨h1, h4⟩ := h
  clear hv hR hl hfB heB
  rcases (show f = 1 ∨ f = 2 ∨ f = 3 ∨ f = 4 by omega) with rfl | rfl | rfl | rfl
  all_goals
    go_enter Try.func131, Try.ntmps131
    go_wp2_with (first
      | (go_at_call 158; refine (HF.out _ _).mono ?_; rintro e w' ⟨rfl, rfl⟩)
      | (go_at_call 159; refine (HE.out _ _).mono ?_; rintro e w' ⟨rfl, rfl⟩))
    all_goals
      go_ret
      refine ⟨ret_bool ?_, hbx⟩
      rw [HR.out]
      simp [*]
      try (rw [Bool.eq_iff_iff]; simp)
theorem valid_p5 (s : Bool) (A : Option Addr) (n cp : Nat) (l : List Pt) (w : World) (hsl : PSl w A n cp l) :
    Calls Try.prog 131 #[.agg #[.int .i64 5, .bool s, .int .i64 0, .int .i64 0, .int .i64 0, .int .i64 0, .slice A n cp]] w fun e w' => e = .returned (.bool (vld ⟨5, s, 0, 0, 0, 0, l⟩)) ∧ Below w.heap.size w w' := by
  have hbx : Below w.heap.size w (w.alloc (.cells #[.int .i64 5, .bool s, .int .i64 0, .int .i64 0, .int .i64 0, .int .i64 0, .slice A n cp] 26)) := (Below.refl _ _).alloc (Nat.le_refl _) _
  have hs1 := hsl.step hbx
  have HT := Lib.hid (istab_p s A n cp l _ hs1)
  have hv : vld ⟨5, s, 0, 0, 0, 0, l⟩ = (decide (2 ≤ n ∧ n ≤ 12) && okp s none l) := by
    unfold vld
    rw [if_neg (by show ¬ (1 ≤ (5 : Int) ∧ (5 : Int) ≤ 4); decide), decide_eq_true ⟨rfl, rfl, rfl, rfl, rfl⟩, hsl.len]
    rfl
  obtain ⟨R, hR⟩ : ∃ R, R = vld ⟨5, s, 0, 0, 0, 0, l⟩ := ⟨_, rfl⟩
  rw [← hR]
  rw [hv] at hR
  rw [← hR] at HT
  clear hv hR hs1 hsl
  go_enter Try.func131, Try.ntmps131
  go_wp2_with (go_at_call 160; refine (HT.out).mono ?_; rintro e w' ⟨rfl, hb2⟩)
  go_ret
  exact ⟨rfl, hbx.trans (hb2.mono hbx.size)⟩
theorem valid_pn (f m b k1 k2 : Int) (s : Bool) (A : Option Addr) (n cp : Nat) (w : World) (h : ¬ (1 ≤ f ∧ f ≤ 4)) (h2 : ¬ (f = 5 ∧ m = 0 ∧ b = 0 ∧ k1 = 0 ∧ k2 = 0)) :
    Calls Try.prog 131 #[.agg #[.int .i64 f, .bool s, .int .i64 m, .int .i64 b, .int .i64 k1, .int .i64 k2, .slice A n cp]] w fun e w' => e = .returned (.bool false) ∧ Below w.heap.size w w' := by
  have hbx : Below w.heap.size w (w.alloc (.cells #[.int .i64 f, .bool s, .int .i64 m, .int .i64 b, .int .i64 k1, .int .i64 k2, .slice A n cp] 26)) := (Below.refl _ _).alloc (Nat.le_refl _) _
  have f1 : (f == 1) = false := by rw [beq_eq_false_iff_ne]; omega
  have f2 : (f == 2) = false := by rw [beq_eq_false_iff_ne]; omega
  have f3 : (f == 3) = false := by rw [beq_eq_false_iff_ne]; omega
  have f4 : (f == 4) = false := by rw [beq_eq_false_iff_ne]; omega
  by_cases c0 : f = 5
  case neg =>
    have f5 : (f == 5) = false := by rw [beq_eq_false_iff_ne]; exact c0
    clear h h2 c0
    go_enter Try.func131, Try.ntmps131
    go_wp2_with fail
    all_goals go_ret
    all_goals exact ⟨rfl, hbx⟩
  subst c0
  by_cases c1 : m = 0
  case neg =>
    have hk : (m == 0) = false := by rw [beq_eq_false_iff_ne]; exact c1
    clear h h2 c1
    go_enter Try.func131, Try.ntmps131
    go_wp2_with fail
    all_goals go_ret
    all_goals exact ⟨rfl, hbx⟩
  subst c1
  by_cases c2 : b = 0
  case neg =>
    have hk : (b == 0) = false := by rw [beq_eq_false_iff_ne]; exact c2
    clear h h2 c2
    go_enter Try.func131, Try.ntmps131
    go_wp2_with fail
    all_goals go_ret
    all_goals exact ⟨rfl, hbx⟩
  subst c2
  by_cases c3 : k1 = 0
  case neg =>
    have hk : (k1 == 0) = false := by rw [beq_eq_false_iff_ne]; exact c3
    clear h h2 c3
    go_enter Try.func131, Try.ntmps131
    go_wp2_with fail
    all_goals go_ret
    all_goals exact ⟨rfl, hbx⟩
  subst c3
  by_cases c4 : k2 = 0
  case neg =>
    have hk : (k2 == 0) = false := by rw [beq_eq_false_iff_ne]; exact c4
    clear h h2 c4
    go_enter Try.func131, Try.ntmps131
    go_wp2_with fail
    all_goals go_ret
    all_goals exact ⟨rfl, hbx⟩
  subst c4
  exact absurd ⟨rfl, rfl, rfl, rfl, rfl⟩ h2
theorem valid_p (f m b k1 k2 : Int) (s : Bool) (A : Option Addr) (n cp : Nat) (l : List Pt) (w : World) (hsl : PSl w A n cp l) :
    Calls Try.prog 131 #[.agg #[.int .i64 f, .bool s, .int .i64 m, .int .i64 b, .int .i64 k1, .int .i64 k2, .slice A n cp]] w fun e w' => e = .returned (.bool (vld ⟨f, s, m, b, k1, k2, l⟩)) ∧ Below w.heap.size w w' := by
  by_cases h : 1 ≤ f ∧ f ≤ 4
  · exact valid_p4 f m b k1 k2 s A n cp l w hsl.len h
  · by_cases h2 : f = 5 ∧ m = 0 ∧ b = 0 ∧ k1 = 0 ∧ k2 = 0
    · obtain ⟨rfl, rfl, rfl, rfl, rfl⟩ := h2
      exact valid_p5 s A n cp l w hsl
    · rw [vld_not f m b k1 k2 s l h (fun h3 => h2 ⟨h3.1, h3.2.1, h3.2.2.1, h3.2.2.2.1, h3.2.2.2.2.1⟩)]
      exact valid_pn f m b k1 k2 s A n cp w h h2
end Go.Proofs.Ytekhpcfggbegaaa.P4
