/- Walks: the program's arePaired; the reference's Mark. -/
import Derived.Test.YtncpbgmbneobiaaV9q
namespace Go.Proofs.Ytncpbgmbneobiaa.V9
open Go.RowKit Go.Proofs.Ytncpbgmbneobiaa.Mem Go.Proofs.Ytncpbgmbneobiaa.F2p Go.Proofs.Ytncpbgmbneobiaa.V7
set_option maxRecDepth 100000
set_option maxHeartbeats 1000000

theorem paired_p {w : World} {A : Option Addr} {n c : Nat} {l : List Ev} (h : ESl w A n c l) (hf : ∀ e ∈ l, e.Fit) (hn : n ≤ 1000) :
    Calls Try.prog 45 #[.slice A n c] w fun e w' => e = .returned (.bool (paired false l)) ∧ Below w.heap.size w w' := by
  have HL := Lib.hid h.len
  have hrow := h.row
  have HF := Lib.hid hf
  obtain ⟨R, hR⟩ : ∃ R, R = paired false l := ⟨_, rfl⟩
  rw [← hR]
  replace hR := Lib.hid hR
  clear h hf
  go_enter Try.func45, Try.ntmps45
  go_wp2_with fail
  go_loopw [3, 8] (fun v i wr => ∃ (j : Nat) (b : Bool), j ≤ n ∧ i = .int .i64 j ∧ v = .bool b ∧ paired b (l.drop j) = R ∧ Below w.heap.size w wr) (fun _ i _ => n - (intOf i).toNat)
  case atStart => exact ⟨0, false, Nat.zero_le _, rfl, rfl, hR.out.symm, Below.refl _ _⟩
  case round =>
    obtain ⟨j, b, hj, rfl, rfl, hpr, hbel⟩ := hrel
    by_cases hlt : j < n
    · have hjl : j < l.length := by rw [← HL.out]; exact hlt
      obtain ⟨a, rfl, hab, ha⟩ := erow_at (Rd.below hrow hbel) hjl
      have hfit := HF.out _ (List.getElem_mem hjl)
      rw [paired_step l b j hjl] at hpr
      generalize l[j] = x at *
      have h2 := Lib.hid (fun u => second_p x hfit u)
      have h1 := Lib.hid (fun u => first_p x hfit u)
      obtain ⟨p2, hp2⟩ : ∃ p, p = decide (mk x = 2) := ⟨_, rfl⟩
      obtain ⟨p1, hp1⟩ : ∃ p, p = decide (mk x = 1) := ⟨_, rfl⟩
      rw [← hp2] at h2 hpr
      rw [← hp1] at h1 hpr
      clear hp1 hp2 hfit
      replace hpr := Lib.hid hpr
      have b1 : (0 : Int) ≤ (j : Int) := by omega
      have b2 : (j : Int) < (n : Int) := by omega
      have hz := hbel.size
      have hB := Box.new wr x
      have hbe := hbel.alloc hz (.cells x.cells 33)
      replace hB := Lib.hid hB
      obtain ⟨id, time, gen, st, sn, ty, de, d0, d1, d2⟩ := x
      have a0 := ha.c0; have a1 := ha.c1; have a2 := ha.c2; have a3 := ha.c3; have a4 := ha.c4; have a5 := ha.c5; have a6 := ha.c6; have a7 := ha.c7; have a8 := ha.c8; have a9 := ha.c9
      dsimp only [Ev.v, Ev.cells] at *
      clear ha
      go_wp2_with fail
      refine (h2.out _).mono ?_
      rintro e w1 ⟨rfl, hb1⟩
      have hB1 := hB.out.below hb1 (by simp)
      have hb1' := hbe.trans (hb1.mono hbe.size)
      have c0 := hB1.c0; have c1 := hB1.c1; have c2 := hB1.c2; have c3 := hB1.c3; have c4 := hB1.c4; have c5 := hB1.c5; have c6 := hB1.c6; have c7 := hB1.c7; have c8 := hB1.c8; have c9 := hB1.c9
      dsimp only at c0 c1 c2 c3 c4 c5 c6 c7 c8 c9
      clear a0 a1 a2 a3 a4 a5 a6 a7 a8 a9 hb1 hB1 hB
      rcases p2 with _ | _ <;> rcases b with _ | _
      · skip
        have hpr := hpr.out
        simp only [beq_self_eq_true, Bool.true_and] at hpr
        replace hpr := Lib.hid hpr
        go_wp2_with fail
        refine (h1.out _).mono ?_
        rintro e w2 ⟨rfl, hb2⟩
        have hb2' := hb1'.trans (hb2.mono hb1'.size)
        clear c0 c1 c2 c3 c4 c5 c6 c7 c8 c9 hb2
        go_wp2_with fail
        exact ⟨⟨j + 1, p1, by omega, by go_num, rfl, hpr.out, hb2'⟩, by simp [intOf]; omega⟩
      · skip
        have hR0 : R = false := by rw [← hpr.out]; rfl
        clear c0 c1 c2 c3 c4 c5 c6 c7 c8 c9
        go_wp2_with fail
        go_ret
        exact ⟨by rw [hR0]; rfl, hb1'⟩
      · skip
        have hR0 : R = false := by rw [← hpr.out]; rfl
        clear c0 c1 c2 c3 c4 c5 c6 c7 c8 c9
        go_wp2_with fail
        go_ret
        exact ⟨by rw [hR0]; rfl, hb1'⟩
      · skip
        have hpr := hpr.out
        simp only [beq_self_eq_true, Bool.true_and] at hpr
        replace hpr := Lib.hid hpr
        go_wp2_with fail
        refine (h1.out _).mono ?_
        rintro e w2 ⟨rfl, hb2⟩
        have hb2' := hb1'.trans (hb2.mono hb1'.size)
        clear c0 c1 c2 c3 c4 c5 c6 c7 c8 c9 hb2
        go_wp2_with fail
        exact ⟨⟨j + 1, p1, by omega, by go_num, rfl, hpr.out, hb2'⟩, by simp [intOf]; omega⟩
    · obtain rfl : j = n := by omega
      rw [HL.out, List.drop_length] at hpr
      go_wp2_with fail
      go_ret
      exact ⟨by rw [← hpr]; rfl, hbel⟩
theorem mark_r (e : Ev) (w : World) : Calls Try.prog 47 #[e.v] w fun x w' => x = .returned (.int .i64 (mk e : Int)) ∧ Below w.heap.size w w' := by
  have hs0 := Lib.hid ((Below.refl w.heap.size w).alloc (Nat.le_refl _) (.cells e.cells 33))
  obtain ⟨id, time, gen, st, sn, ty, de, d0, d1, d2⟩ := e
  obtain ⟨m, hm⟩ : ∃ m, m = mk ⟨id, time, gen, st, sn, ty, de, d0, d1, d2⟩ := ⟨_, rfl⟩
  rw [← hm]
  replace hm := Lib.hid hm
  dsimp only [Ev.v, Ev.cells] at *
  by_cases h1 : st = 18
  · subst h1
    by_cases h2 : ty = 111
    · subst h2
      cases de
      · by_cases h3 : d0 = 5
        · subst h3
          by_cases h4 : d2 = 255
          · subst h4
            by_cases h5 : d1 = 0
            · subst h5
              go_enter Try.func47, Try.ntmps47
              go_wp2_with fail
              go_ret
              exact ⟨ret_int (by rw [hm.out]; simp [mk]), hs0.out⟩
            · have h5I : ((d1 : Int) == 0) = false := by simp; omega
              by_cases h6 : d1 = 128
              · subst h6
                go_enter Try.func47, Try.ntmps47
                go_wp2_with fail
                go_ret
                exact ⟨ret_int (by rw [hm.out]; simp [mk]), hs0.out⟩
              · have h6I : ((d1 : Int) == 128) = false := by simp; omega
                go_enter Try.func47, Try.ntmps47
                go_wp2_with fail
                go_ret
                exact ⟨ret_int (by rw [hm.out]; simp [mk, h5, h6]), hs0.out⟩
          · have h4I : ((d2 : Int) != 255) = true := by simp; omega
            go_enter Try.func47, Try.ntmps47
            go_wp2_with fail
            go_ret
            exact ⟨ret_int (by rw [hm.out]; simp [mk, h4]), hs0.out⟩
        · have h3I : ((d0 : Int) != 5) = true := by simp; omega
          go_enter Try.func47, Try.ntmps47
          go_wp2_with fail
          go_ret
          exact ⟨ret_int (by rw [hm.out]; simp [mk, h3]), hs0.out⟩
      · go_enter Try.func47, Try.ntmps47
        go_wp2_with fail
        go_ret
        exact ⟨ret_int (by rw [hm.out]; simp [mk]), hs0.out⟩
    · have h2I : ((ty : Int) != 111) = true := by simp; omega
      go_enter Try.func47, Try.ntmps47
      go_wp2_with fail
      go_ret
      exact ⟨ret_int (by rw [hm.out]; simp [mk, h2]), hs0.out⟩
  · have h1I : ((st : Int) != 18) = true := by simp; omega
    go_enter Try.func47, Try.ntmps47
    go_wp2_with fail
    go_ret
    exact ⟨ret_int (by rw [hm.out]; simp [mk, h1]), hs0.out⟩
end Go.Proofs.Ytncpbgmbneobiaa.V9
