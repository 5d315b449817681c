/- Walks: the program's package event: which change an event is about. -/
import Derived.Test.YtgbnigbjnbcfeaaDoorV7a
namespace Go.Proofs.YtgbnigbjnbcfeaaDoor.V7
open Go.RowKit Go.Proofs.YtgbnigbjnbcfeaaDoor.Mem
set_option maxRecDepth 100000
set_option maxHeartbeats 400000

/-- Which index a threshold's first data byte stands for. -/
def ofs (d : Nat) : Option Nat := if d = 80 then some 0 else if d = 82 then some 1 else if d = 84 then some 2 else if d = 87 then some 3 else if d = 89 then some 4 else if d = 91 then some 5 else none
/-- What an event is about. -/
def idx (e : Ev) : Nat × Bool × Bool := if e.ty = 1 then (match ofs e.d0 with | some i => (i, true, true) | none => (0, false, false)) else if e.ty = 111 ∧ e.d0 ≤ 14 then (e.d0, false, true) else (0, false, false)
def idxV (r : Nat × Bool × Bool) : Value := .tuple #[.int .i64 (r.1 : Int), .bool r.2.1, .bool r.2.2]
def sev (e : Ev) : Nat := if (idx e).2.1 = true ∧ e.de = false then (idx e).1 % 3 + 1 else 0

abbrev offsV : Value := .agg #[.int .u8 0, .int .u8 2, .int .u8 4, .int .u8 7, .int .u8 9, .int .u8 11]
theorem ix0 (W : World) : (Instr.index 85 (.agg #[.int .u8 0, .int .u8 2, .int .u8 4, .int .u8 7, .int .u8 9, .int .u8 11]) (.int .i64 0)).run Tryd.prog W = .ok (.int .u8 0) W := by
  simp [Instr.index, run_underlying Tryd.underlying85, asIntOf, go_sem]
theorem ix1 (W : World) : (Instr.index 85 (.agg #[.int .u8 0, .int .u8 2, .int .u8 4, .int .u8 7, .int .u8 9, .int .u8 11]) (.int .i64 1)).run Tryd.prog W = .ok (.int .u8 2) W := by
  simp [Instr.index, run_underlying Tryd.underlying85, asIntOf, go_sem]
theorem ix2 (W : World) : (Instr.index 85 (.agg #[.int .u8 0, .int .u8 2, .int .u8 4, .int .u8 7, .int .u8 9, .int .u8 11]) (.int .i64 2)).run Tryd.prog W = .ok (.int .u8 4) W := by
  simp [Instr.index, run_underlying Tryd.underlying85, asIntOf, go_sem]
theorem ix3 (W : World) : (Instr.index 85 (.agg #[.int .u8 0, .int .u8 2, .int .u8 4, .int .u8 7, .int .u8 9, .int .u8 11]) (.int .i64 3)).run Tryd.prog W = .ok (.int .u8 7) W := by
  simp [Instr.index, run_underlying Tryd.underlying85, asIntOf, go_sem]
theorem ix4 (W : World) : (Instr.index 85 (.agg #[.int .u8 0, .int .u8 2, .int .u8 4, .int .u8 7, .int .u8 9, .int .u8 11]) (.int .i64 4)).run Tryd.prog W = .ok (.int .u8 9) W := by
  simp [Instr.index, run_underlying Tryd.underlying85, asIntOf, go_sem]
theorem ix5 (W : World) : (Instr.index 85 (.agg #[.int .u8 0, .int .u8 2, .int .u8 4, .int .u8 7, .int .u8 9, .int .u8 11]) (.int .i64 5)).run Tryd.prog W = .ok (.int .u8 11) W := by
  simp [Instr.index, run_underlying Tryd.underlying85, asIntOf, go_sem]
theorem ret_idx {R r : Nat × Bool × Bool} (h : R = r) : Ending.returned (.tuple #[.int .i64 (r.1 : Int), .bool r.2.1, .bool r.2.2]) = .returned (idxV R) := by rw [h]; rfl
theorem index_p (e : Ev) (hf : e.Fit) (w : World) (htab : OffTab w) : Calls Tryd.prog 33 #[e.v] w fun x w' => x = .returned (idxV (idx e)) ∧ Below w.heap.size w w' := by
  have hs : Below w.heap.size w (w.alloc (.cells e.cells 26)) := (Below.refl _ _).alloc (Nat.le_refl _) _
  have t0 : w.cell? ⟨1, 0, none⟩ = some (.int .u8 0) := htab.cell 0 (by omega)
  have t1 : w.cell? ⟨1, 1, none⟩ = some (.int .u8 2) := htab.cell 1 (by omega)
  have t2 : w.cell? ⟨1, 2, none⟩ = some (.int .u8 4) := htab.cell 2 (by omega)
  have t3 : w.cell? ⟨1, 3, none⟩ = some (.int .u8 7) := htab.cell 3 (by omega)
  have t4 : w.cell? ⟨1, 4, none⟩ = some (.int .u8 9) := htab.cell 4 (by omega)
  have t5 : w.cell? ⟨1, 5, none⟩ = some (.int .u8 11) := htab.cell 5 (by omega)
  have hz : 1 < w.heap.size := block_lt_of_cell t0
  obtain ⟨id, time, gen, st, sn, ty, de, d0, d1, d2⟩ := e
  have hd := hf.d0
  have ht := hf.ty
  dsimp only at hd ht
  obtain ⟨R, hR⟩ : ∃ R, R = idx ⟨id, time, gen, st, sn, ty, de, d0, d1, d2⟩ := ⟨_, rfl⟩
  rw [← hR]
  replace hR := Lib.hid hR
  replace hs := Lib.hid hs
  clear hf htab
  dsimp only [Ev.v, Ev.cells] at *
  by_cases h1 : ty = 1
  · subst h1
    go_enter Tryd.func33, Tryd.ntmps33
    go_wp2_with fail
    go_loop [16] (fun i => ∃ j : Nat, j ≤ 6 ∧ i = .int .i64 j ∧ ∀ k, k < j → d0 ≠ 80 + off k) (fun i => 6 - (intOf i).toNat)
    case atStart => exact ⟨0, Nat.zero_le _, rfl, fun k hk => by omega⟩
    case round =>
      obtain ⟨j, hj, rfl, hno⟩ := hrel
      have HN := Lib.hid hno
      clear hno
      by_cases h6 : j = 6
      · subst h6
        go_wp2_with fail
        go_ret3
        refine ⟨ret_idx (r := (0, false, false)) ?_, hs.out⟩
        have hn := HN.out
        have n0 := hn 0 (by omega); have n1 := hn 1 (by omega); have n2 := hn 2 (by omega); have n3 := hn 3 (by omega); have n4 := hn 4 (by omega); have n5 := hn 5 (by omega)
        simp [off] at n0 n1 n2 n3 n4 n5
        rw [hR.out]
        simp [idx, ofs, n0, n1, n2, n3, n4, n5]
      · have hj6 : j < 6 := by omega
        clear h6
        match j, hj6 with
        | 0, _ =>
          have hx := ix0
          by_cases hd0 : d0 = 80
          · subst hd0
            go_wp2_with fail
            go_ret3
            exact ⟨ret_idx (r := (0, true, true)) (by rw [hR.out]; rfl), hs.out⟩
          · have hne : ((d0 : Int) == 80) = false := by rw [beq_eq_false_iff_ne]; omega
            have HD := Lib.hid hd0
            clear hd0
            go_wp2_with fail
            refine ⟨⟨1, by omega, rfl, fun k hk => ?_⟩, by simp [intOf]⟩
            rcases Nat.lt_or_ge k 0 with h | h
            · exact HN.out k h
            · obtain rfl : k = 0 := by omega
              exact HD.out
        | 1, _ =>
          have hx := ix1
          by_cases hd0 : d0 = 82
          · subst hd0
            go_wp2_with fail
            go_ret3
            exact ⟨ret_idx (r := (1, true, true)) (by rw [hR.out]; rfl), hs.out⟩
          · have hne : ((d0 : Int) == 82) = false := by rw [beq_eq_false_iff_ne]; omega
            have HD := Lib.hid hd0
            clear hd0
            go_wp2_with fail
            refine ⟨⟨2, by omega, rfl, fun k hk => ?_⟩, by simp [intOf]⟩
            rcases Nat.lt_or_ge k 1 with h | h
            · exact HN.out k h
            · obtain rfl : k = 1 := by omega
              exact HD.out
        | 2, _ =>
          have hx := ix2
          by_cases hd0 : d0 = 84
          · subst hd0
            go_wp2_with fail
            go_ret3
            exact ⟨ret_idx (r := (2, true, true)) (by rw [hR.out]; rfl), hs.out⟩
          · have hne : ((d0 : Int) == 84) = false := by rw [beq_eq_false_iff_ne]; omega
            have HD := Lib.hid hd0
            clear hd0
            go_wp2_with fail
            refine ⟨⟨3, by omega, rfl, fun k hk => ?_⟩, by simp [intOf]⟩
            rcases Nat.lt_or_ge k 2 with h | h
            · exact HN.out k h
            · obtain rfl : k = 2 := by omega
              exact HD.out
        | 3, _ =>
          have hx := ix3
          by_cases hd0 : d0 = 87
          · subst hd0
            go_wp2_with fail
            go_ret3
            exact ⟨ret_idx (r := (3, true, true)) (by rw [hR.out]; rfl), hs.out⟩
          · have hne : ((d0 : Int) == 87) = false := by rw [beq_eq_false_iff_ne]; omega
            have HD := Lib.hid hd0
            clear hd0
            go_wp2_with fail
            refine ⟨⟨4, by omega, rfl, fun k hk => ?_⟩, by simp [intOf]⟩
            rcases Nat.lt_or_ge k 3 with h | h
            · exact HN.out k h
            · obtain rfl : k = 3 := by omega
              exact HD.out
        | 4, _ =>
          have hx := ix4
          by_cases hd0 : d0 = 89
          · subst hd0
            go_wp2_with fail
            go_ret3
            exact ⟨ret_idx (r := (4, true, true)) (by rw [hR.out]; rfl), hs.out⟩
          · have hne : ((d0 : Int) == 89) = false := by rw [beq_eq_false_iff_ne]; omega
            have HD := Lib.hid hd0
            clear hd0
            go_wp2_with fail
            refine ⟨⟨5, by omega, rfl, fun k hk => ?_⟩, by simp [intOf]⟩
            rcases Nat.lt_or_ge k 4 with h | h
            · exact HN.out k h
            · obtain rfl : k = 4 := by omega
              exact HD.out
        | 5, _ =>
          have hx := ix5
          by_cases hd0 : d0 = 91
          · subst hd0
            go_wp2_with fail
            go_ret3
            exact ⟨ret_idx (r := (5, true, true)) (by rw [hR.out]; rfl), hs.out⟩
          · have hne : ((d0 : Int) == 91) = false := by rw [beq_eq_false_iff_ne]; omega
            have HD := Lib.hid hd0
            clear hd0
            go_wp2_with fail
            refine ⟨⟨6, by omega, rfl, fun k hk => ?_⟩, by simp [intOf]⟩
            rcases Nat.lt_or_ge k 5 with h | h
            · exact HN.out k h
            · obtain rfl : k = 5 := by omega
              exact HD.out
  · have h1f : ((ty : Int) == 1) = false := by rw [beq_eq_false_iff_ne]; omega
    by_cases h2 : ty = 111
    · subst h2
      by_cases h14 : d0 ≤ 14
      · have HD := Lib.hid (show R = (d0, false, true) by rw [hR.out]; simp [idx, h14])
        clear h1 h1f
        go_enter Tryd.func33, Tryd.ntmps33
        go_wp2_with fail
        go_ret3
        exact ⟨ret_idx HD.out, hs.out⟩
      · have HD := Lib.hid (show R = (0, false, false) by rw [hR.out]; simp [idx, h14])
        clear h1 h1f
        go_enter Tryd.func33, Tryd.ntmps33
        go_wp2_with fail
        go_ret3
        exact ⟨ret_idx HD.out, hs.out⟩
    · have h2f : ((ty : Int) == 111) = false := by rw [beq_eq_false_iff_ne]; omega
      have HD := Lib.hid (show R = (0, false, false) by rw [hR.out]; simp [idx, h1, h2])
      clear h1 h2
      go_enter Tryd.func33, Tryd.ntmps33
      go_wp2_with fail
      go_ret3
      exact ⟨ret_idx HD.out, hs.out⟩
theorem ofs_lt {d i : Nat} (h : ofs d = some i) : i < 6 := by
  unfold ofs at h
  repeat' split at h
  all_goals first | (injection h; omega) | (cases h)
theorem idx_lt (e : Ev) (h : e.d0 < 256) : (idx e).1 < 256 := by
  unfold idx
  split
  · cases hq : ofs e.d0 with
    | none => exact Nat.zero_lt_succ _
    | some i => have := ofs_lt hq; show i < 256; omega
  · split
    · exact h
    · exact Nat.zero_lt_succ _
theorem severity_p (e : Ev) (hf : e.Fit) (w : World) (htab : OffTab w) : Calls Tryd.prog 35 #[e.v] w fun x w' => x = .returned (.int .i64 (sev e : Int)) ∧ Below w.heap.size w w' := by
  have hB := Box.new w e
  have hs : Below w.heap.size w (w.alloc (.cells e.cells 26)) := (Below.refl _ _).alloc (Nat.le_refl _) _
  have HT := htab.start.at_ hs
  have hi := Lib.hid (index_p e hf _ HT)
  have hlt := idx_lt e hf.d0
  clear HT htab
  obtain ⟨S, hS⟩ : ∃ S, S = sev e := ⟨_, rfl⟩
  rw [← hS]
  replace hS := Lib.hid hS
  replace hs := Lib.hid hs
  obtain ⟨r, hr⟩ : ∃ r, r = idx e := ⟨_, rfl⟩
  have hr' := Lib.hid hr
  rw [← hr] at hi hlt
  clear hr
  obtain ⟨n, b, k⟩ := r
  obtain ⟨id, time, gen, st, sn, ty, de, d0, d1, d2⟩ := e
  dsimp only [idxV, Ev.v, Ev.cells] at *
  replace hB := Lib.hid hB
  have hn : n < 256 := hlt
  clear hlt hf
  go_enter Tryd.func35, Tryd.ntmps35
  go_wp2_with (refine wpList_load_box rfl (.tmp 1) rfl w.heap.size _ rfl hB.out ?_)
  refine hi.out.mono ?_
  rintro e w1 ⟨rfl, hb⟩
  have hb1 := hs.out.trans (hb.mono (by simp))
  have c6 : w1.cell? ⟨w.heap.size, 6, none⟩ = some (.bool de) := (hB.out.below hb (by simp)).c6
  cases b
  · go_wp2_with fail
    go_ret
    exact ⟨ret_int (by rw [hS.out]; simp [sev, ← hr'.out]), hb1⟩
  · cases de
    · go_wp2_with fail
      go_ret
      exact ⟨ret_int (by rw [hS.out]; simp [sev, ← hr'.out]), hb1⟩
    · go_wp2_with fail
      go_ret
      exact ⟨ret_int (by rw [hS.out]; simp [sev, ← hr'.out]), hb1⟩
end Go.Proofs.YtgbnigbjnbcfeaaDoor.V7
