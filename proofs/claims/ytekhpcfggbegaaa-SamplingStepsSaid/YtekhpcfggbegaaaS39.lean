/- Walks: a row that is sorted in place: cells, swaps; cmp.Less; insertion sort. Walks: a window of at most twelve samples is sorted by number. -/
import Derived.Test.YtekhpcfggbegaaaS38
import Derived.Test.YtekhpcfggbegaaaS10
import Derived.Test.YtekhpcfggbegaaaS14
import Derived.Laws.Closers25b
import Derived.Laws.Bits64b
namespace Go.Proofs.Ytekhpcfggbegaaa.So
open Go.RowKit Go.Proofs.Ytekhpcfggbegaaa.Mem
set_option maxRecDepth 100000
set_option maxHeartbeats 1000000

/-- Block g holds the bytes l; nothing else that lay in w0 has turned. -/
structure Ar (base g n c : Nat) (w0 w : World) (l : List UInt8) : Prop where
  len : n = l.length
  own : Own base w (.slice (some ⟨g, 0, none⟩) n c) l
  gr : w0.grownBy w (some g)
section
variable {base g n c : Nat} {w0 w w' : World} {l : List UInt8}
theorem Ar.start (hl : n = l.length) (h : Own base w (.slice (some ⟨g, 0, none⟩) n c) l) : Ar base g n c w w l := ⟨hl, h, ⟨rfl, rfl, rfl, Nat.le_refl _, fun _ _ _ => rfl⟩⟩
theorem Ar.drewN (h : Ar base g n c w0 w l) (k : Nat) : Ar base g n c w0 (w.drewN k) l := ⟨h.len, h.own, grown_drewN h.gr k⟩
theorem Ar.drew (h : Ar base g n c w0 w l) : Ar base g n c w0 w.drew l := ⟨h.len, World.ownsRow.drew h.own, grown_drew h.gr⟩
theorem Ar.cell (h : Ar base g n c w0 w l) {i : Nat} (hi : i < n) : w.cell? ⟨g, i, none⟩ = some (.int .u8 (gv l i : Int)) := by
  have hl := h.len
  rw [own_cell h.own hl (by omega), gv_at (by omega)]
theorem Ar.fz (h : Ar base g n c w0 w l) (i : Nat) : w.frozen? ⟨g, i, none⟩ = false := own_frozen h.own h.len i
theorem Ar.set (h : Ar base g n c w0 w l) (i : Nat) (x : UInt8) : Ar base g n c w0 (w.setCell ⟨g, i, none⟩ (bv x)) (l.set i x) :=
  ⟨by rw [List.length_set]; exact h.len, (own_store h.own h.len i x).1, grown_trans h.gr (own_store h.own h.len i x).2⟩
theorem Ar.swap (h : Ar base g n c w0 w l) (i j : Nat) : Ar base g n c w0 ((w.setCell ⟨g, i, none⟩ (.int .u8 (gv l j : Int))).setCell ⟨g, j, none⟩ (.int .u8 (gv l i : Int))) (sw l i j) :=
  (h.set i (l.getD j 0)).set j (l.getD i 0)
theorem Ar.of_call {l' : List UInt8} (h : Ar base g n c w0 w l) (k : Ar base g n c w w' l') : Ar base g n c w0 w' l' := ⟨k.len, k.own, grown_trans h.gr k.gr⟩
end
theorem ins_step {f : Nat → Nat} {a i j : Nat} (hj : a < j) (hji : j ≤ i) (h : ∀ p q, a ≤ p → p < q → q ≤ i → q ≠ j → f p ≤ f q) (hx : f j < f (j - 1)) :
    ∀ p q, a ≤ p → p < q → q ≤ i → q ≠ j - 1 → (if p = j - 1 then f j else if p = j then f (j - 1) else f p) ≤ (if q = j - 1 then f j else if q = j then f (j - 1) else f q) := by
  intro p q hp hpq hq hne
  rw [if_neg hne]
  by_cases e1 : p = j - 1
  · rw [if_pos e1]
    by_cases e2 : q = j
    · rw [if_pos e2]; omega
    · rw [if_neg e2]
      have := h (j - 1) q (by omega) (by omega) hq e2
      omega
  · rw [if_neg e1]
    by_cases e3 : p = j
    · rw [if_pos e3, if_neg (by omega)]
      exact h (j - 1) q (by omega) (by omega) hq (by omega)
    · rw [if_neg e3]
      by_cases e2 : q = j
      · rw [if_pos e2]
        exact h p (j - 1) hp (by omega) (by omega) (by omega)
      · rw [if_neg e2]
        exact h p q hp hpq hq e2
end Go.Proofs.Ytekhpcfggbegaaa.So
namespace Go.Proofs.Ytekhpcfggbegaaa.Jb
open Go.RowKit Go.Proofs.Ytekhpcfggbegaaa.Mem Go.Proofs.Ytekhpcfggbegaaa.So
set_option maxRecDepth 100000
set_option maxHeartbeats 1000000

def c3 (a b : Int) : Int := if a < b then -1 else if b < a then 1 else 0
theorem c3_neg (a b : Int) : decide (c3 a b < 0) = decide (a < b) := by
  unfold c3
  by_cases h : a < b
  · rw [if_pos h]; simp [h]
  · rw [if_neg h]
    split <;> simp [h]
theorem nan_any (z : Int) (u : World) : Calls Try.prog 92 #[.int .i64 z] u fun e w' => e = .returned (.bool false) ∧ u = w' := by
  have hz : (z != z) = false := by simp
  go_enter Try.func92, Try.ntmps92
  go_wp2_with fail
  go_ret
  exact ⟨rfl, rfl⟩
theorem cmp_any (x y : Int) (w : World) : Calls Try.prog 60 #[.int .i64 x, .int .i64 y] w fun e w' => e = .returned (.int .i64 (c3 x y)) ∧ w = w' := by
  have hN := Lib.hid nan_any
  obtain ⟨R, hR⟩ : ∃ R, R = c3 x y := ⟨_, rfl⟩
  rw [← hR]
  unfold c3 at hR
  go_enter Try.func60, Try.ntmps60
  by_cases h1 : x < y
  · rw [if_pos h1] at hR
    subst hR
    have d1 : decide (x < y) = true := decide_eq_true h1
    go_wp2_with fail
    refine (hN.out _ _).mono ?_
    rintro e w' ⟨rfl, rfl⟩
    go_wp2_with fail
    refine (hN.out _ _).mono ?_
    rintro e w' ⟨rfl, rfl⟩
    go_wp2_with fail
    go_ret
    exact ⟨rfl, rfl⟩
  · rw [if_neg h1] at hR
    have d1 : decide (x < y) = false := decide_eq_false h1
    by_cases h2 : y < x
    · rw [if_pos h2] at hR
      subst hR
      have d2 : decide (y < x) = true := decide_eq_true h2
      go_wp2_with fail
      refine (hN.out _ _).mono ?_
      rintro e w' ⟨rfl, rfl⟩
      go_wp2_with fail
      refine (hN.out _ _).mono ?_
      rintro e w' ⟨rfl, rfl⟩
      go_wp2_with fail
      go_ret
      exact ⟨rfl, rfl⟩
    · rw [if_neg h2] at hR
      subst hR
      have d2 : decide (y < x) = false := decide_eq_false h2
      go_wp2_with fail
      refine (hN.out _ _).mono ?_
      rintro e w' ⟨rfl, rfl⟩
      go_wp2_with fail
      refine (hN.out _ _).mono ?_
      rintro e w' ⟨rfl, rfl⟩
      go_wp2_with fail
      go_ret
      exact ⟨rfl, rfl⟩
/-- The comparison that Reading hands over: of the numbers. -/
theorem clo_p (sg : Bool) (r : Nat) (x y : UInt8) (w : World) (h : w.cell? ⟨r, 8, none⟩ = some (.bool sg)) :
    Calls Try.prog 59 #[.int .u8 (x.toNat : Int), .int .u8 (y.toNat : Int), .pointer (some ⟨r, 0, none⟩)] w fun e w' => e = .returned (.int .i64 (c3 (C4p.num sg x) (C4p.num sg y))) ∧ ∃ k, w' = w.drewN k := by
  obtain ⟨F, hF⟩ : ∃ F : UInt8 → Int, F = C4p.num sg := ⟨_, rfl⟩
  have HN := Lib.hid fun (z : UInt8) (u : World) => P4.number_p sg z u
  rw [← hF] at HN ⊢
  clear hF
  have HC := Lib.hid fun (a b : Int) (u : World) => cmp_any a b u
  go_enter Try.func59, Try.ntmps59
  go_wp2_with fail
  go_quiet (first | (go_at_call 61; exact quiet_same (HN.out _ _)) | (go_at_call 60; exact quiet_same (HC.out _ _ _)))
  go_wp2_with fail
  go_ret
  exact ⟨rfl, _, rfl⟩
end Go.Proofs.Ytekhpcfggbegaaa.Jb
