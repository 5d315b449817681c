/- Walks: the reference of clocks: Time, Valid, Advance, Stamp, change. -/
import Derived.Test.YtncpbgmbneobiaaV9c
namespace Go.Proofs.Ytncpbgmbneobiaa.V9
open Go.RowKit Go.Proofs.Ytncpbgmbneobiaa.Mem Go.Proofs.Ytncpbgmbneobiaa.F2p Go.Proofs.Ytncpbgmbneobiaa.V7
set_option maxRecDepth 100000
set_option maxHeartbeats 1000000

theorem time_r (c : Ck) (h0 : 0 ≤ c.t ∧ c.t ≤ 17179869184) (hb : -17179869184 ≤ c.b ∧ c.b ≤ 4294967294) (w : World) : Calls Try.prog 44 #[c.v] w fun x w' => x = .returned (.int .i64 c.tm) ∧ Below w.heap.size w w' := by
  unfold Ck.tm
  obtain ⟨t, b, s⟩ := c
  simp only [Ck.v, Ck.cells] at *
  have ht := tdiv_ten h0.1 (by omega)
  have hw : wrap64 (t / 10 + b) = t / 10 + b := by unfold wrap64; omega
  go_enter Try.func44, Try.ntmps44
  go_wp2_with fail
  go_ret
  exact ⟨rfl, (Below.refl _ _).alloc (Nat.le_refl _) _⟩
theorem valid_rck (c : Ck) (hf : c.Fit) (w : World) : Calls Try.prog 42 #[c.v] w fun x w' => x = .returned (.bool c.ok) ∧ Below w.heap.size w w' := by
  obtain ⟨ft, fb⟩ := hf
  have htr := fun h0 hb u => time_r c h0 hb u
  unfold Ck.tm at htr
  obtain ⟨t, b, s⟩ := c
  simp only [Ck.v, Ck.cells] at *
  by_cases h0 : t < 0
  · clear htr
    go_enter Try.func42, Try.ntmps42
    go_wp2_with fail
    go_ret
    exact ⟨ret_bool (by rw [Bool.eq_iff_iff]; simp [Ck.ok]; omega), (Below.refl _ _).alloc (Nat.le_refl _) _⟩
  by_cases h1 : 17179869184 < t
  · clear htr
    go_enter Try.func42, Try.ntmps42
    go_wp2_with fail
    go_ret
    exact ⟨ret_bool (by rw [Bool.eq_iff_iff]; simp [Ck.ok]; omega), (Below.refl _ _).alloc (Nat.le_refl _) _⟩
  by_cases h2 : b < -17179869184
  · clear htr
    go_enter Try.func42, Try.ntmps42
    go_wp2_with fail
    go_ret
    exact ⟨ret_bool (by rw [Bool.eq_iff_iff]; simp [Ck.ok]; omega), (Below.refl _ _).alloc (Nat.le_refl _) _⟩
  by_cases h3 : 4294967294 < b
  · clear htr
    go_enter Try.func42, Try.ntmps42
    go_wp2_with fail
    go_ret
    exact ⟨ret_bool (by rw [Bool.eq_iff_iff]; simp [Ck.ok]; omega), (Below.refl _ _).alloc (Nat.le_refl _) _⟩
  by_cases h4 : b ≠ 0 ∧ s = false
  · clear htr
    obtain ⟨h4, rfl⟩ := h4
    have hbb : (b != 0) = true := by simpa using h4
    go_enter Try.func42, Try.ntmps42
    go_wp2_with fail
    go_ret
    exact ⟨ret_bool (by rw [Bool.eq_iff_iff]; simp [Ck.ok]; omega), (Below.refl _ _).alloc (Nat.le_refl _) _⟩
  have hbs : b = 0 ∨ s = true := by
    cases s <;> simp at h4 ⊢
    omega
  have h5 : (!s && b != 0) = false := by
    cases s <;> simp at h4 ⊢
    omega
  have HBS := Lib.hid hbs
  have htr := Lib.hid (htr ⟨by omega, by omega⟩ ⟨by omega, by omega⟩)
  clear h4 hbs
  have hB := Lib.hid (fun u : World => CBox.new u ⟨t, b, s⟩)
  simp only [Ck.cells] at hB
  by_cases h6 : 0 ≤ t / 10 + b
  all_goals cases s
  all_goals try (simp at h5; subst h5)
  all_goals try (exfalso; omega)
  all_goals
    go_enter Try.func42, Try.ntmps42
    go_wp2_with fail
    refine (htr.out _).mono ?_
    rintro e w1 ⟨rfl, hb1⟩
    have hB1 := CBox.below (hB.out w) hb1 (by simp)
    have c0 := hB1.c0
    have c1 := hB1.c1
    have c2 := hB1.c2
    simp only at c0 c1 c2
    have hs1 := Lib.hid (((Below.refl w.heap.size w).alloc (Nat.le_refl _) _).trans (hb1.mono (by simp)))
    clear hb1 hB1
    go_wp2_with fail
    all_goals try (refine (htr.out _).mono ?_; rintro e w2 ⟨rfl, hb2⟩; have hs1 := Lib.hid (hs1.out.trans (hb2.mono hs1.out.size)); go_wp2_with fail)
    all_goals
      go_ret
      exact ⟨ret_bool (by rw [Bool.eq_iff_iff]; simp [Ck.ok]; omega), hs1.out⟩
theorem change_r (m side : Nat) (hm : m < 4294967296) (w : World) : Calls Try.prog 43 #[.int .i64 (m : Int), .int .u8 (side : Int)] w fun x w' => x = .returned (chg side m).v ∧ Below w.heap.size w w' := by
  have hw : IntKind.u32.wrap (m : Int) = (m : Int) := IntWalk.u32_in _ ⟨by omega, by omega⟩
  have hR := Lib.hid (Box.new w Ev.none)
  have hs := (Below.refl w.heap.size w).alloc (Nat.le_refl _) (.cells Ev.none.cells 33)
  go_enter Try.func43, Try.ntmps43
  go_wp2_with (refine wpList_store_box rfl (.tmp 4) (.tmp 9) rfl w.heap.size (chg side m) Ev.none rfl rfl hR.out ?_; intro w5 hB5 hg5)
  exact out_box (r := w.heap.size) Try.results43 rfl rfl hB5 ⟨rfl, hs.grown hg5 hs.size (fun k hk => by injection hk; omega)⟩
end Go.Proofs.Ytncpbgmbneobiaa.V9
