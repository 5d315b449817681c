/- Walks: the program's package clock: valid clocks, their times, Advance, Stamp, Adjust. -/
import Derived.Test.YtncpbgmbneobiaaV7a
namespace Go.Proofs.Ytncpbgmbneobiaa.V9
open Go.RowKit Go.Proofs.Ytncpbgmbneobiaa.Mem Go.Proofs.Ytncpbgmbneobiaa.F2p Go.Proofs.Ytncpbgmbneobiaa.V7
set_option maxRecDepth 100000
set_option maxHeartbeats 1000000

/-- A clock's three values. -/
structure Ck where
  (t b : Int) (s : Bool)
deriving DecidableEq
def Ck.cells (c : Ck) : Array Value := #[.int .i64 c.t, .int .i64 c.b, .bool c.s]
def Ck.v (c : Ck) : Value := .agg c.cells
def Ck.none : Ck := ⟨0, 0, false⟩
/-- The values are those of their types. -/
structure Ck.Fit (c : Ck) : Prop where
  t : -9223372036854775808 ≤ c.t ∧ c.t ≤ 9223372036854775807
  b : -9223372036854775808 ≤ c.b ∧ c.b ≤ 9223372036854775807
/-- Valid clocks; a clock's time. -/
def Ck.ok (c : Ck) : Bool := decide (0 ≤ c.t) && decide (c.t ≤ 17179869184) && (decide (c.b = 0) || c.s) && decide (0 ≤ c.t / 10 + c.b) && decide (c.t / 10 + c.b ≤ 4294967294)
def Ck.tm (c : Ck) : Int := c.t / 10 + c.b
theorem Ck.ok_b {c : Ck} (h : c.ok = true) : 0 ≤ c.t ∧ c.t ≤ 17179869184 ∧ (c.b = 0 ∨ c.s = true) ∧ 0 ≤ c.tm ∧ c.tm ≤ 4294967294 := by
  simp only [Ck.ok, Bool.and_eq_true, Bool.or_eq_true, decide_eq_true_eq] at h
  obtain ⟨⟨⟨⟨h1, h2⟩, h3⟩, h4⟩, h5⟩ := h
  exact ⟨h1, h2, h3, h4, h5⟩
theorem tdiv_ten {t : Int} (h0 : 0 ≤ t) (h1 : t ≤ 9223372036854775807) : wrap64 (t.tdiv 10) = t / 10 := by
  rw [Int.tdiv_eq_ediv_of_nonneg h0]
  unfold wrap64; omega
theorem seconds_p (c : Ck) (h0 : 0 ≤ c.t) (h1 : c.t ≤ 17179869184) (w : World) : Calls Try.prog 66 #[c.v] w fun x w' => x = .returned (.int .i64 (c.t / 10)) ∧ Below w.heap.size w w' := by
  obtain ⟨t, b, s⟩ := c
  simp only at h0 h1
  have ht := tdiv_ten h0 (by omega)
  unfold Ck.v Ck.cells
  go_enter Try.func66, Try.ntmps66
  go_wp2_with fail
  go_ret
  exact ⟨rfl, (Below.refl _ _).alloc (Nat.le_refl _) _⟩
theorem valid_ck (c : Ck) (hf : c.Fit) (w : World) : Calls Try.prog 63 #[c.v] w fun x w' => x = .returned (.bool c.ok) ∧ Below w.heap.size w w' := by
  obtain ⟨ft, fb⟩ := hf
  obtain ⟨t, b, s⟩ := c
  simp only [Ck.v, Ck.cells] at *
  by_cases h0 : t < 0
  · go_enter Try.func63, Try.ntmps63
    go_wp2_with fail
    go_ret
    exact ⟨ret_bool (by rw [Bool.eq_iff_iff]; simp [Ck.ok]; omega), (Below.refl _ _).alloc (Nat.le_refl _) _⟩
  by_cases h1 : 17179869184 < t
  · go_enter Try.func63, Try.ntmps63
    go_wp2_with fail
    go_ret
    exact ⟨ret_bool (by rw [Bool.eq_iff_iff]; simp [Ck.ok]; omega), (Below.refl _ _).alloc (Nat.le_refl _) _⟩
  by_cases h2 : b ≠ 0 ∧ s = false
  · obtain ⟨h2, rfl⟩ := h2
    have hbb : (b != 0) = true := by simpa using h2
    go_enter Try.func63, Try.ntmps63
    go_wp2_with fail
    go_ret
    exact ⟨ret_bool (by rw [Bool.eq_iff_iff]; simp [Ck.ok]; omega), (Below.refl _ _).alloc (Nat.le_refl _) _⟩
  have h3 : (b != 0 && !s) = false := by
    cases s <;> simp at h2 ⊢
    omega
  have hsec := Lib.hid (fun u => seconds_p ⟨t, b, s⟩ (by show 0 ≤ t; omega) (by show t ≤ _; omega) u)
  have hbs : b = 0 ∨ s = true := by
    cases s <;> simp at h2 ⊢
    omega
  have HBS := Lib.hid hbs
  simp only [Ck.v, Ck.cells] at hsec
  have hw1 : wrap64 (-(t / 10)) = -(t / 10) := by unfold wrap64; omega
  have hw2 : wrap64 (4294967294 - t / 10) = 4294967294 - t / 10 := by unfold wrap64; omega
  clear h2 hbs
  rcases hbv : b != 0 with _ | _
  all_goals
    rw [hbv] at h3
    simp at h3
    try subst h3
    have hbv := Lib.hid hbv
    go_enter Try.func63, Try.ntmps63
    go_wp2_with fail
    refine (hsec.out _).mono ?_
    rintro e w1 ⟨rfl, hb1⟩
    have c1 : w1.cell? ⟨w.heap.size, 1, none⟩ = some (.int .i64 b) := (hb1.cell (by simp)).trans (by rw [World.cell?_alloc_new]; rfl)
    have hs1 : Below w.heap.size w w1 := ((Below.refl _ _).alloc (Nat.le_refl _) _).trans (hb1.mono (by simp))
    clear hb1
    go_wp2_with fail
    all_goals
      go_ret
      exact ⟨ret_bool (by rw [Bool.eq_iff_iff]; have := HBS.out; simp [Ck.ok] at *; omega), by assumption⟩
end Go.Proofs.Ytncpbgmbneobiaa.V9
