/- Walks: the reference of events: what a change makes, and what an event is about. -/
import Derived.Test.YtgbnigbjnbcfeaaDoorV7b
import Derived.Test.YtgbnigbjnbcfeaaDoorMade
import Derived.StillTailTactics
namespace Go.Proofs.YtgbnigbjnbcfeaaDoor.V7
open Go.RowKit Go.Proofs.YtgbnigbjnbcfeaaDoor.Mem Go.Proofs.YtgbnigbjnbcfeaaDoor.F2p Go.Proofs.YtgbnigbjnbcfeaaDoor.Made
set_option maxRecDepth 100000
set_option maxHeartbeats 1000000

theorem off_r (i : Nat) (w : World) (hi : i < 100) : Calls Tryd.prog 54 #[.int .i64 (i : Int)] w fun x w' => x = .returned (.int .u8 (off i : Int)) ∧ w = w' := by
  by_cases h : i < 3
  · have hI : (i : Int) < 3 := by omega
    go_enter Tryd.func54, Tryd.ntmps54
    go_wp2
    go_ret
    exact ⟨ret_int (by unfold off; rw [if_pos h]; omega), rfl⟩
  · have hI : ¬ (i : Int) < 3 := by omega
    have h1 : IntKind.u8.wrap (2 * (i : Int) + 1) = 2 * (i : Int) + 1 := IntWalk.u8_in _ ⟨by omega, by omega⟩
    go_enter Tryd.func54, Tryd.ntmps54
    go_wp2
    go_ret
    exact ⟨ret_int (by unfold off; rw [if_neg h]; omega), rfl⟩
theorem threshold_rno (st sn : Nat) (i : Int) (asserted : Bool) (rd lm : Nat) (w : World) (hi : i < 0 ∨ 5 < i) : Calls Tryd.prog 30 #[.int .u8 (st : Int), .int .u8 (sn : Int), .int .i64 i, .bool asserted, .int .u8 (rd : Int), .int .u8 (lm : Int)] w fun x w' => x = .returned (.tuple #[Ev.none.v, .int .i64 2]) ∧ Below w.heap.size w w' := by
  rcases Int.lt_or_le i 0 with h | h
  · clear hi
    go_enter Tryd.func30, Tryd.ntmps30
    go_wp2_with fail
    exact out_box2 (r := w.heap.size) (e := Ev.none) Tryd.results30 rfl rfl rfl (Box.new w Ev.none) ⟨rfl, (Below.refl _ _).alloc (Nat.le_refl _) _⟩
  · have h6 : 5 < i := by omega
    clear hi
    go_enter Tryd.func30, Tryd.ntmps30
    go_wp2_with fail
    exact out_box2 (r := w.heap.size) (e := Ev.none) Tryd.results30 rfl rfl rfl (Box.new w Ev.none) ⟨rfl, (Below.refl _ _).alloc (Nat.le_refl _) _⟩
theorem threshold_r (st sn i : Nat) (asserted : Bool) (rd lm : Nat) (w : World) (hi : i < 6) : Calls Tryd.prog 30 #[.int .u8 (st : Int), .int .u8 (sn : Int), .int .i64 (i : Int), .bool asserted, .int .u8 (rd : Int), .int .u8 (lm : Int)] w fun x w' => x = .returned (.tuple #[Ev.v ⟨0, 0, 32, st, sn, 1, !asserted, 80 + off i, rd, lm⟩, .int .i64 0]) ∧ Below w.heap.size w w' := by
  have hi1 : ¬ ((i : Int) < 0) := by omega
  have hi2 : ¬ (5 < (i : Int)) := by omega
  have ho : off i ≤ 11 := by unfold off; split <;> omega
  have hof := Lib.hid (fun u => off_r i u (by omega))
  obtain ⟨o, hoo⟩ : ∃ o, off i = o := ⟨_, rfl⟩
  rw [hoo] at ho hof ⊢
  clear hoo
  obtain ⟨X, hX⟩ : ∃ X, X = 80 + o := ⟨_, rfl⟩
  rw [← hX]
  have hXI : 80 + (o : Int) = (X : Int) := by omega
  have hX8 : X < 256 := by omega
  clear hX
  go_enter Tryd.func30, Tryd.ntmps30
  go_wp2_with fail
  refine (hof.out _).mono ?_
  rintro e w1 ⟨rfl, rfl⟩
  go_wp2_with fail
  exact out_box2 (r := w.heap.size) (e := ⟨0, 0, 32, st, sn, 1, !asserted, X, rd, lm⟩) Tryd.results30 rfl rfl rfl (Box.new w ⟨0, 0, 32, st, sn, 1, !asserted, X, rd, lm⟩) ⟨rfl, (Below.refl _ _).alloc (Nat.le_refl _) _⟩
theorem state_rno (st sn : Nat) (i : Int) (asserted : Bool) (w : World) (hi : i < 0 ∨ 14 < i) : Calls Tryd.prog 32 #[.int .u8 (st : Int), .int .u8 (sn : Int), .int .i64 i, .bool asserted] w fun x w' => x = .returned (.tuple #[Ev.none.v, .int .i64 2]) ∧ Below w.heap.size w w' := by
  rcases Int.lt_or_le i 0 with h | h
  · clear hi
    go_enter Tryd.func32, Tryd.ntmps32
    go_wp2_with fail
    exact out_box2 (r := w.heap.size) (e := Ev.none) Tryd.results32 rfl rfl rfl (Box.new w Ev.none) ⟨rfl, (Below.refl _ _).alloc (Nat.le_refl _) _⟩
  · have h6 : 14 < i := by omega
    clear hi
    go_enter Tryd.func32, Tryd.ntmps32
    go_wp2_with fail
    exact out_box2 (r := w.heap.size) (e := Ev.none) Tryd.results32 rfl rfl rfl (Box.new w Ev.none) ⟨rfl, (Below.refl _ _).alloc (Nat.le_refl _) _⟩
theorem state_r (st sn i : Nat) (asserted : Bool) (w : World) (hi : i ≤ 14) : Calls Tryd.prog 32 #[.int .u8 (st : Int), .int .u8 (sn : Int), .int .i64 (i : Int), .bool asserted] w fun x w' => x = .returned (.tuple #[Ev.v ⟨0, 0, 32, st, sn, 111, !asserted, i, 255, 255⟩, .int .i64 0]) ∧ Below w.heap.size w w' := by
  have hi1 : ¬ ((i : Int) < 0) := by omega
  have hi2 : ¬ (14 < (i : Int)) := by omega
  go_enter Tryd.func32, Tryd.ntmps32
  go_wp2_with fail
  exact out_box2 (r := w.heap.size) (e := ⟨0, 0, 32, st, sn, 111, !asserted, i, 255, 255⟩) Tryd.results32 rfl rfl rfl (Box.new w ⟨0, 0, 32, st, sn, 111, !asserted, i, 255, 255⟩) ⟨rfl, (Below.refl _ _).alloc (Nat.le_refl _) _⟩
theorem ofs_at {i : Nat} (h : i < 6) : ofs (80 + off i) = some i := by
  match i, h with
  | 0, _ => rfl
  | 1, _ => rfl
  | 2, _ => rfl
  | 3, _ => rfl
  | 4, _ => rfl
  | 5, _ => rfl
theorem index_r (e : Ev) (hf : e.Fit) (w : World) : Calls Tryd.prog 34 #[e.v] w fun x w' => x = .returned (idxV (idx e)) ∧ Below w.heap.size w w' := by
  have hs : Below w.heap.size w (w.alloc (.cells e.cells 26)) := (Below.refl _ _).alloc (Nat.le_refl _) _
  have hof := Lib.hid (fun i u (hi : i < 6) => off_r i u (by omega))
  obtain ⟨id, time, gen, st, sn, ty, de, d0, d1, d2⟩ := e
  have hd := hf.d0
  have ht := hf.ty
  dsimp only at hd ht
  obtain ⟨R, hR⟩ : ∃ R, R = idx ⟨id, time, gen, st, sn, ty, de, d0, d1, d2⟩ := ⟨_, rfl⟩
  rw [← hR]
  replace hR := Lib.hid hR
  replace hs := Lib.hid hs
  clear hf
  dsimp only [Ev.v, Ev.cells] at *
  by_cases h1 : ty = 1
  · subst h1
    go_enter Tryd.func34, Tryd.ntmps34
    go_wp2_with fail
    have hB := Box.new w ⟨id, time, gen, st, sn, 1, de, d0, d1, d2⟩
    dsimp only [Ev.cells] at hB
    have hsz : (w.alloc (.cells #[.int .u16 (id : Int), .int .u32 (time : Int), .int .u16 (gen : Int), .int .u8 (st : Int), .int .u8 (sn : Int), .int .u8 1, .bool de, .int .u8 (d0 : Int), .int .u8 (d1 : Int), .int .u8 (d2 : Int)] 26)).heap.size = w.heap.size + 1 := by simp
    have hs1 : Below w.heap.size w (w.alloc (.cells #[.int .u16 (id : Int), .int .u32 (time : Int), .int .u16 (gen : Int), .int .u8 (st : Int), .int .u8 (sn : Int), .int .u8 1, .bool de, .int .u8 (d0 : Int), .int .u8 (d1 : Int), .int .u8 (d2 : Int)] 26)) := (Below.refl _ _).alloc (Nat.le_refl _) _
    generalize w.alloc (.cells #[.int .u16 (id : Int), .int .u32 (time : Int), .int .u16 (gen : Int), .int .u8 (st : Int), .int .u8 (sn : Int), .int .u8 1, .bool de, .int .u8 (d0 : Int), .int .u8 (d1 : Int), .int .u8 (d2 : Int)] 26) = w1 at *
    have c7 := hB.c7
    have c5 : w1.cell? ⟨w.heap.size, 5, none⟩ = some (.int .u8 1) := hB.c5
    dsimp only at c7
    clear hB
    replace hs1 := Lib.hid hs1
    go_loopw [5] (fun i wr => ∃ (j m : Nat), j ≤ 6 ∧ i = .int .i64 (j : Int) ∧ wr = w1.drewN m ∧ ∀ k, k < j → d0 ≠ 80 + off k) (fun i _ => 6 - (intOf i).toNat)
    case atStart => exact ⟨0, 0, Nat.zero_le _, rfl, (World.drewN_zero _).symm, fun k hk => by omega⟩
    case round =>
      obtain ⟨j, m, hj, rfl, rfl, hno⟩ := hrel
      replace hno := Lib.hid hno
      by_cases h6 : j = 6
      · subst h6
        have hn := hno.out
        have n0 := hn 0 (by omega); have n1 := hn 1 (by omega); have n2 := hn 2 (by omega); have n3 := hn 3 (by omega); have n4 := hn 4 (by omega); have n5 := hn 5 (by omega)
        simp [off] at n0 n1 n2 n3 n4 n5
        have HD := Lib.hid (show R = (0, false, false) by rw [hR.out]; simp [idx, ofs, n0, n1, n2, n3, n4, n5])
        clear n0 n1 n2 n3 n4 n5 hn
        go_wp2_with fail
        go_ret3
        exact ⟨ret_idx HD.out, below_drewN hs1.out⟩
      · have hj6 : j < 6 := by omega
        clear h6
        have ho : off j ≤ 11 := by unfold off; split <;> omega
        have hjo := Lib.hid (fun u => hof.out j u hj6)
        obtain ⟨o, hoo⟩ : ∃ o, off j = o := ⟨_, rfl⟩
        rw [hoo] at hjo ho
        replace hoo := Lib.hid hoo
        have h80 : IntKind.u8.wrap (80 + (o : Int)) = 80 + (o : Int) := IntWalk.u8_in _ ⟨by omega, by omega⟩
        by_cases he : d0 = 80 + o
        · go_wp2_with fail
          go_quiet ((go_at_call 54; exact quiet_more (hjo.out _)))
          all_goals go_wp2_with fail
          go_ret3
          exact ⟨ret_idx (r := (j, true, true)) (by rw [hR.out, he, ← hoo.out]; simp [idx, ofs_at hj6]), by first | exact below_drewN hs1.out | exact below_drewN (below_drewN hs1.out)⟩
        · have hne : ((d0 : Int) == 80 + (o : Int)) = false := by rw [beq_eq_false_iff_ne]; omega
          go_wp2_with fail
          go_quiet ((go_at_call 54; exact quiet_more (hjo.out _)))
          all_goals go_wp2_with fail
          refine ⟨⟨j + 1, _, by omega, vi (by omega), rfl, fun k hk => ?_⟩, by simp [intOf]; omega⟩
          rcases Nat.lt_or_ge k j with g | g
          · exact hno.out k g
          · obtain rfl : k = j := by omega
            rw [hoo.out]; exact he
  · have h1f : ((ty : Int) == 1) = false := by rw [beq_eq_false_iff_ne]; omega
    by_cases h2 : ty = 111
    · subst h2
      by_cases h14 : d0 ≤ 14
      · have HD := Lib.hid (show R = (d0, false, true) by rw [hR.out]; simp [idx, h14])
        clear h1 h1f
        go_enter Tryd.func34, Tryd.ntmps34
        go_wp2_with fail
        go_ret3
        exact ⟨ret_idx HD.out, hs.out⟩
      · have HD := Lib.hid (show R = (0, false, false) by rw [hR.out]; simp [idx, h14])
        clear h1 h1f
        go_enter Tryd.func34, Tryd.ntmps34
        go_wp2_with fail
        go_ret3
        exact ⟨ret_idx HD.out, hs.out⟩
    · have h2f : ((ty : Int) == 111) = false := by rw [beq_eq_false_iff_ne]; omega
      have HD := Lib.hid (show R = (0, false, false) by rw [hR.out]; simp [idx, h1, h2])
      clear h1 h2
      go_enter Tryd.func34, Tryd.ntmps34
      go_wp2_with fail
      go_ret3
      exact ⟨ret_idx HD.out, hs.out⟩
theorem idx_ok (e : Ev) (h : (idx e).2.1 = true) : (idx e).2.2 = true := by
  unfold idx at h ⊢
  split
  · cases hq : ofs e.d0 <;> simp_all
  · split <;> simp_all
theorem severity_r (e : Ev) (hf : e.Fit) (w : World) : Calls Tryd.prog 36 #[e.v] w fun x w' => x = .returned (.int .i64 (sev e : Int)) ∧ Below w.heap.size w w' := by
  have hB := Box.new w e
  have hs : Below w.heap.size w (w.alloc (.cells e.cells 26)) := (Below.refl _ _).alloc (Nat.le_refl _) _
  have hi := Lib.hid (index_r e hf (w.alloc (.cells e.cells 26)))
  have hlt := idx_lt e hf.d0
  obtain ⟨S, hS⟩ : ∃ S, S = sev e := ⟨_, rfl⟩
  rw [← hS]
  replace hS := Lib.hid hS
  replace hs := Lib.hid hs
  obtain ⟨r, hr⟩ : ∃ r, r = idx e := ⟨_, rfl⟩
  have hr' := Lib.hid hr
  rw [← hr] at hi hlt
  clear hr
  obtain ⟨n, b, k⟩ := r
  obtain ⟨id, time, gen, st, sn, ty, de, d0, d1, d2⟩ := e
  dsimp only [idxV, Ev.v, Ev.cells] at *
  replace hB := Lib.hid hB
  have hn : n < 256 := hlt
  clear hlt hf
  go_enter Tryd.func36, Tryd.ntmps36
  go_wp2_with (refine wpList_load_box rfl (.tmp 1) rfl w.heap.size _ rfl hB.out ?_)
  refine hi.out.mono ?_
  rintro e w1 ⟨rfl, hb⟩
  have hb1 := hs.out.trans (hb.mono (by simp))
  have c6 : w1.cell? ⟨w.heap.size, 6, none⟩ = some (.bool de) := (hB.out.below hb (by simp)).c6
  have hok : b = true → k = true := fun h => by have := idx_ok _ (show (idx _).2.1 = true by rw [← hr'.out]; exact h); rw [← hr'.out] at this; exact this
  cases b
  · cases k
    · go_wp2_with fail
      go_ret
      exact ⟨ret_int (by rw [hS.out]; simp [sev, ← hr'.out]), hb1⟩
    · go_wp2_with fail
      go_ret
      exact ⟨ret_int (by rw [hS.out]; simp [sev, ← hr'.out]), hb1⟩
  · obtain rfl := hok rfl
    cases de
    · go_wp2_with fail
      go_ret
      exact ⟨ret_int (by rw [hS.out]; simp [sev, ← hr'.out]), hb1⟩
    · go_wp2_with fail
      go_ret
      exact ⟨ret_int (by rw [hS.out]; simp [sev, ← hr'.out]), hb1⟩
end Go.Proofs.YtgbnigbjnbcfeaaDoor.V7
