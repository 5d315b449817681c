/- Walks: the program's package fields: a copy of a text, packing, validity. -/
import Derived.Test.YtkhdldemhaifpaaFd
import Derived.Lib.BufferWrite
import Derived.Lib.UnsafeStr
import Derived.Laws.MakeOwn
namespace Go.Proofs.Ytkhdldemhaifpaa.Fa
open Go.RowKit Go.Proofs.Ytkhdldemhaifpaa.Mem Go.Proofs.Ytkhdldemhaifpaa.F2p
set_option maxRecDepth 100000
set_option maxHeartbeats 2000000

theorem made_row (m : Nat) (u : World) (hm : m ≤ 1000000) : ∃ M : Array Value, M.size = m ∧
    (Instr.makeSlice 31 (.int .i64 (m : Int)) (.int .i64 (m : Int))).run Try.prog u = .ok (.slice (some ⟨u.heap.size, 0, none⟩) m m) (u.alloc (.cells M 5)) := by
  obtain ⟨i0, hi, hz0, hz1, hz2⟩ := info_parts info5
  have h := run_make (P := Try.prog) u 31 5 i0 (.int .u8 0) Try.underlying31 hi hz0 .i64 .i64 (m : Int) (m : Int) (by omega) (Int.le_refl _) (by rw [hz2]; omega) (by omega)
  exact ⟨madeCells #[.int .u8 0] m, by simp [size_madeCells], by simpa [hz1, Value.cells] using h⟩
theorem sclone_any (s : ByteArray) (w : World) (hs : s.size ≤ 100000) :
    Calls Try.prog 53 #[.string s] w fun e w' => e = .returned (.string s) ∧ Below w.heap.size w w' := by
  by_cases h0 : s.size = 0
  · obtain rfl : s = ⟨#[]⟩ := ByteArray.ext (Array.eq_empty_of_size_eq_zero h0)
    go_enter Try.func53, Try.ntmps53
    go_wp2
    go_ret
    exact ⟨rfl, Below.refl _ _⟩
  · obtain ⟨i0, hi, hz0, hz1, hz2⟩ := info_parts info5
    have hinfo : (Try.prog.info? 5).map (·.size) = some 1 := by rw [hi]; simp [hz1]
    have hco : Try.prog.cellsOf 5 = 1 := by simp [Program.cellsOf, hi, hz1]
    obtain ⟨M, hMs, hmk⟩ := made_row s.size w (by omega)
    have hnew : (w.alloc (.cells M 5)).heap[w.heap.size]? = some (.cells M 5 (0, 0)) := heap_alloc_new w _
    have hcp := Lib.run_copy_row_string (P := Try.prog) (w.alloc (.cells M 5)) 31 9 3 5 w.heap.size 0 s.size s.size s M 5 Try.underlying31 hinfo hnew (Nat.le_refl _) (by omega)
    generalize hY : (M.toList.take 0 ++ Lib.byteCells s.data.toList ++ M.toList.drop (0 + s.size)).toArray = Y at hcp
    have hYl : Y.toList = Lib.byteCells s.data.toList := by
      rw [← hY, List.toList_toArray, List.take_zero, List.nil_append, List.drop_of_length_le (by rw [Array.length_toList]; omega), List.append_nil]
    have hYs : Y.size = s.size := by rw [← Array.length_toList, hYl, Lib.byteCells_length, ← Lib.size_eq]
    have hgY : ((w.alloc (.cells M 5)).setRow w.heap.size Y).heap[w.heap.size]? = some (.cells Y 5 (0, 0)) := setRow_heap _ _ M _ 5 (0, 0) hnew
    have hne : s.data.toList ≠ [] := fun e => h0 (by rw [Lib.size_eq, e]; rfl)
    have hUS := Lib.run_unsafeString_row (P := Try.prog) ((w.alloc (.cells M 5)).setRow w.heap.size Y) 74 3 9 5 Try.underlying74 hco w.heap.size Y.size (by unfold World.shape?; rw [hgY]) s.data.toList hne (by rw [← Lib.size_eq]; omega) (by rw [← Lib.size_eq]; omega)
      (fun j x hx => Lib.cells_of_row hgY Y.size j _ (by rw [List.take_of_length_le (by rw [Array.length_toList]; exact Nat.le_refl _), hYl]; simp [Lib.byteCells, hx]))
    rw [← Lib.size_eq] at hUS
    have hb1 : Below w.heap.size w ((w.alloc (.cells M 5)).setRow w.heap.size Y) := ((Below.refl _ w).alloc (Nat.le_refl _) _).trans ⟨rfl, rfl, rfl, by simp, fun k hk => setRow_other _ _ _ _ (by omega)⟩
    clear hY hYl hne
    go_enter Try.func53, Try.ntmps53
    go_wp2
    go_ret
    exact ⟨rfl, Lib.below_freeze hb1 (p := ⟨w.heap.size, 0, none⟩) (Nat.le_refl _) _⟩
theorem clone_any (s : ByteArray) (w : World) (hs : s.size ≤ 100000) :
    Calls Try.prog 46 #[.string s] w fun e w' => e = .returned (.string s) ∧ Below w.heap.size w w' := by
  go_enter Try.func46, Try.ntmps46
  go_wp2_with (go_at_call 53; refine (sclone_any _ _ hs).mono ?_; rintro e w' ⟨rfl, hb⟩)
  go_ret
  exact ⟨rfl, hb⟩
theorem sl_string {w : World} {A : Option Addr} {n c : Nat} {l : List UInt8} (h : Sl w A n c l) : (convert 31 9 (.slice A n c)).run Try.prog w = .ok (.string ⟨l.toArray⟩) w := by
  have hn := h.len
  subst hn
  have hr := h.row
  rcases A with _ | a
  · obtain rfl := hr.empty
    exact run_convert_bytes_nil w _ _ Try.underlying31 Try.underlying5 _ _ _ Try.underlying9
  · refine run_convert_bytes_back w _ _ _ a c l Try.underlying31 Try.underlying5 Try.underlying9 fun j hj => ?_
    obtain ⟨a', e, -, hc⟩ := row_at hr hj
    injection e with e
    subst e
    exact hc
theorem unpack_any (k : Int) (A : Option Addr) (n c : Nat) (l : List UInt8) (w : World) (h : Sl w A n c l) (hn : n ≤ 100000) :
    Calls Try.prog 43 #[.int .i64 k, .slice A n c] w fun e w' => e = uo (und k l) ∧ Below w.heap.size w w' := by
  by_cases h1 : k = 1
  · subst h1
    have hc0 := unpackBCD_any A n c l w h hn
    generalize und 1 l = r at *
    have hc := Lib.hid hc0
    clear hc0
    go_enter Try.func43, Try.ntmps43
    go_wp2_with fail
    refine hc.out.mono ?_
    rintro e w' ⟨rfl, hb⟩
    rcases r with _ | r <;> (unfold uo; go_wp2_with fail; go_ret2; exact ⟨rfl, hb⟩)
  · by_cases h2 : k = 2
    · subst h2
      have hc0 := unpackSix_any A n c l w h hn
      generalize und 2 l = r at *
      have hc := Lib.hid hc0
      clear hc0
      go_enter Try.func43, Try.ntmps43
      go_wp2_with fail
      refine hc.out.mono ?_
      rintro e w' ⟨rfl, hb⟩
      rcases r with _ | r <;> (unfold uo; go_wp2_with fail; go_ret2; exact ⟨rfl, hb⟩)
    · have t1 : (k == 1) = false := by rw [beq_eq_false_iff_ne]; exact h1
      have t2 : (k == 2) = false := by rw [beq_eq_false_iff_ne]; exact h2
      have hu : und k l = some l := by unfold und; rw [if_neg h1, if_neg h2]
      have hcv := sl_string h
      rw [hu]
      clear h1 h2 hu
      go_enter Try.func43, Try.ntmps43
      go_wp2_with fail
      go_ret2
      exact ⟨rfl, Below.refl _ _⟩
theorem valid_p (k : Int) (s : ByteArray) (w : World) (hs : s.size ≤ 100000) :
    Calls Try.prog 19 #[.agg #[.int .i64 k, .string s]] w fun e w' => e = .returned (.bool (vld k (bl s))) ∧ Below w.heap.size w w' := by
  have hbx : Below w.heap.size w (w.alloc (.cells #[.int .i64 k, .string s] 23)) := (Below.refl _ _).alloc (Nat.le_refl _) _
  have hcb := Lib.hid (fun u => onlyBCD_any s u hs)
  have hcs := Lib.hid (fun u => onlySix_any s u hs)
  by_cases k0 : k = 0
  · subst k0
    go_enter Try.func19, Try.ntmps19
    go_wp2
    go_ret
    exact ⟨ret_bool (by simp [vld, bl_len]; omega), hbx⟩
  by_cases k1 : k = 1
  · subst k1
    have hv : vld 1 (bl s) = (decide (s.size % 2 = 0 ∧ s.size ≤ 126) && okd (bl s)) := by simp [vld, bl_len]
    generalize vld 1 (bl s) = r at *
    have HV := Lib.hid hv
    clear hv
    by_cases h2 : s.size % 2 = 0
    · have t2 : (((s.size : Int) % 2) == 0) = true := by rw [beq_iff_eq]; omega
      by_cases h126 : s.size ≤ 126
      · have hd := Lib.hid (show decide (s.size % 2 = 0 ∧ s.size ≤ 126) = true from decide_eq_true ⟨h2, h126⟩)
        clear h2
        go_enter Try.func19, Try.ntmps19
        go_wp2_with (go_at_call 39; refine (hcb.out _).mono ?_; rintro e w' ⟨rfl, rfl⟩)
        go_ret
        exact ⟨ret_bool (by rw [HV.out, hd.out, Bool.true_and]), hbx⟩
      · have hd := Lib.hid (show decide (s.size % 2 = 0 ∧ s.size ≤ 126) = false from decide_eq_false (by omega))
        clear h2
        go_enter Try.func19, Try.ntmps19
        go_wp2
        go_ret
        exact ⟨ret_bool (by rw [HV.out, hd.out, Bool.false_and]), hbx⟩
    · have t2 : (((s.size : Int) % 2) == 0) = false := by rw [beq_eq_false_iff_ne]; omega
      have hd := Lib.hid (show decide (s.size % 2 = 0 ∧ s.size ≤ 126) = false from decide_eq_false (by omega))
      clear h2
      go_enter Try.func19, Try.ntmps19
      go_wp2
      go_ret
      exact ⟨ret_bool (by rw [HV.out, hd.out, Bool.false_and]), hbx⟩
  by_cases k2 : k = 2
  · subst k2
    have hv : vld 2 (bl s) = (decide (s.size % 4 ≠ 3 ∧ s.size ≤ 84) && oks (bl s)) := by
      have e : (s.size % 4 ≠ 3 ∧ s.size ≤ 126 ∧ sixB s.size ≤ 63) ↔ (s.size % 4 ≠ 3 ∧ s.size ≤ 84) := by unfold sixB; omega
      unfold vld
      rw [if_neg (by decide), if_neg (by decide), if_pos rfl, bl_len, decide_eq_decide.2 e]
    generalize vld 2 (bl s) = r at *
    have HV := Lib.hid hv
    clear hv k0 k1
    by_cases h4 : s.size % 4 = 3
    · have t2 : (((s.size : Int) % 4) != 3) = false := by simp; omega
      have hd := Lib.hid (show decide (s.size % 4 ≠ 3 ∧ s.size ≤ 84) = false from decide_eq_false (by omega))
      clear h4
      go_enter Try.func19, Try.ntmps19
      go_wp2
      go_ret
      exact ⟨ret_bool (by rw [HV.out, hd.out, Bool.false_and]), hbx⟩
    · have t2 : (((s.size : Int) % 4) != 3) = true := by simp; omega
      by_cases h84 : s.size ≤ 84
      · have hd := Lib.hid (show decide (s.size % 4 ≠ 3 ∧ s.size ≤ 84) = true from decide_eq_true ⟨h4, h84⟩)
        clear h4
        go_enter Try.func19, Try.ntmps19
        go_wp2_with (go_at_call 40; refine (hcs.out _).mono ?_; rintro e w' ⟨rfl, rfl⟩)
        go_ret
        exact ⟨ret_bool (by rw [HV.out, hd.out, Bool.true_and]), hbx⟩
      · have hd := Lib.hid (show decide (s.size % 4 ≠ 3 ∧ s.size ≤ 84) = false from decide_eq_false (by omega))
        clear h4
        go_enter Try.func19, Try.ntmps19
        go_wp2
        go_ret
        exact ⟨ret_bool (by rw [HV.out, hd.out, Bool.false_and]), hbx⟩
  by_cases k3 : k = 3
  · subst k3
    have hv : vld 3 (bl s) = decide (s.size ≠ 1 ∧ s.size ≤ 63) := by
      have e : (s.size = 0 ∨ (2 ≤ s.size ∧ s.size ≤ 63)) ↔ (s.size ≠ 1 ∧ s.size ≤ 63) := by omega
      unfold vld
      rw [if_neg (by decide), if_neg (by decide), if_neg (by decide), if_pos rfl, bl_len, decide_eq_decide.2 e]
    generalize vld 3 (bl s) = r at *
    have HV := Lib.hid hv
    clear hv k0 k1 k2
    by_cases h1 : s.size = 1
    · have t2 : ((s.size : Int) != 1) = false := by simp; omega
      have hd := Lib.hid (show decide (s.size ≠ 1 ∧ s.size ≤ 63) = false from decide_eq_false (by omega))
      clear h1
      go_enter Try.func19, Try.ntmps19
      go_wp2
      go_ret
      exact ⟨ret_bool (by rw [HV.out, hd.out]), hbx⟩
    · have t2 : ((s.size : Int) != 1) = true := by simp; omega
      have HH := Lib.hid h1
      clear h1
      go_enter Try.func19, Try.ntmps19
      go_wp2
      go_ret
      refine ⟨ret_bool ?_, hbx⟩
      have := HH.out
      rw [HV.out, decide_eq_decide]
      omega
  have t0 : (k == 0) = false := by rw [beq_eq_false_iff_ne]; exact k0
  have t1 : (k == 1) = false := by rw [beq_eq_false_iff_ne]; exact k1
  have t2 : (k == 2) = false := by rw [beq_eq_false_iff_ne]; exact k2
  have t3 : (k == 3) = false := by rw [beq_eq_false_iff_ne]; exact k3
  have hv : vld k (bl s) = false := by simp [vld, k0, k1, k2, k3]
  generalize vld k (bl s) = r at *
  have HV := Lib.hid hv
  clear hv k0 k1 k2 k3
  go_enter Try.func19, Try.ntmps19
  go_wp2
  go_ret
  exact ⟨ret_bool HV.out.symm, hbx⟩
end Go.Proofs.Ytkhdldemhaifpaa.Fa
