/- Walks: the program's package fields: Decode. -/
import Derived.Test.YtkhdldemhaifpaaFf
namespace Go.Proofs.Ytkhdldemhaifpaa.Fa
open Go.RowKit Go.Proofs.Ytkhdldemhaifpaa.Mem Go.Proofs.Ytkhdldemhaifpaa.F2p
set_option maxRecDepth 100000
set_option maxHeartbeats 1000000

/-- What Decode returns: kind, value, length, end, error. -/
def out (k : Int) (v : List UInt8) (n : Int) (e : Bool) (c : Int) : Ending := .returned (.tuple #[.agg #[.int .i64 k, .string ⟨v.toArray⟩], .int .i64 n, .bool e, .int .i64 c])
theorem head_cell {A : Option Addr} {n c : Nat} {l : List UInt8} {w : World} (h : Sl w A n c l) (h0 : 0 < n) : ∃ a, A = some a ∧ a.block < w.heap.size ∧ w.cell? a = some (.int .u8 ((l[0]?.getD 0).toNat : Int)) := by
  have hl : 0 < l.length := by rw [← h.len]; exact h0
  obtain ⟨a, rfl, hab, hc⟩ := row_at h.row (k := 0) hl
  exact ⟨a, rfl, hab, by rw [List.getElem?_eq_getElem hl]; simpa [Addr.add] using hc⟩
theorem dec_p (A : Option Addr) (n c : Nat) (l : List UInt8) (w : World) (h : Sl w A n c l) (hn : n ≤ 100000) :
    Calls Try.prog 22 #[.slice A n c] w fun e w' => e = out (dec l).k (dec l).v (dec l).n (dec l).z (dec l).c ∧ Below w.heap.size w w' := by
  have hbx : Below w.heap.size w (w.alloc (.cells #[.int .i64 0, .string ⟨#[]⟩] 23)) := (Below.refl _ _).alloc (Nat.le_refl _) _
  have hst : (w.alloc (.cells #[.int .i64 0, .string ⟨#[]⟩] 23)).heap[w.heap.size]? = some (.cells #[.int .i64 0, .string ⟨#[]⟩] 23 (0, 0)) := heap_alloc_new w _
  by_cases h0 : n = 0
  · subst h0
    have hd : dec l = ⟨0, [], 0, false, 4⟩ := by unfold dec; rw [if_pos h.len.symm]
    rw [hd]
    clear hd hst
    go_enter Try.func22, Try.ntmps22
    go_wp2
    exact bodyPost_ret (v := .tuple #[.agg #[.int .i64 0, .string ⟨#[]⟩], .int .i64 0, .bool false, .int .i64 4]) (by simp [results, Try.results22, go_sem]) rfl ⟨rfl, hbx⟩
  obtain ⟨a, rfl, hab, hc0⟩ := head_cell h (by omega)
  have hx := (l[0]?.getD 0).toNat_lt
  have hn0 : ((n : Int) == 0) = false := by rw [beq_eq_false_iff_ne]; omega
  by_cases h1 : (l[0]?.getD 0).toNat = 193
  · have hd : dec l = ⟨0, [], 1, true, 0⟩ := by unfold dec; rw [if_neg (by rw [← h.len]; exact h0), if_pos h1]
    rw [hd]
    rw [h1] at hc0
    clear hd hst
    go_enter Try.func22, Try.ntmps22
    go_wp2
    exact bodyPost_ret (v := .tuple #[.agg #[.int .i64 0, .string ⟨#[]⟩], .int .i64 1, .bool true, .int .i64 0]) (by simp [results, Try.results22, go_sem]) rfl ⟨rfl, hbx⟩
  have hn1 : ((((l[0]?.getD 0).toNat : Nat) : Int) == 193) = false := by rw [beq_eq_false_iff_ne]; omega
  by_cases h2 : n < 1 + (l[0]?.getD 0).toNat % 64
  · have hd : dec l = ⟨0, [], 0, false, 4⟩ := by unfold dec; rw [if_neg (by rw [← h.len]; exact h0), if_neg h1, if_pos (by rw [← h.len]; exact h2)]
    rw [hd]
    generalize (l[0]?.getD 0).toNat = x at *
    clear h1 hd hst
    have hs2 : decide ((n : Int) < 1 + (x : Int) % 64) = true := decide_eq_true (by omega)
    go_enter Try.func22, Try.ntmps22
    go_wp2_with fail
    go_quiet (fail)
    go_wp2_with fail
    refine bodyPost_ret (v := .tuple #[.agg #[.int .i64 0, .string ⟨#[]⟩], .int .i64 0, .bool false, .int .i64 4]) (by simp [results, Try.results22, go_sem]) rfl ⟨rfl, ?_⟩
    exact ((below_drewN hbx).setCell (p := ⟨w.heap.size, 0, none⟩) (Nat.le_refl _) _).setCell (p := ⟨w.heap.size, 1, none⟩) (Nat.le_refl _) _
  have hs2 : decide ((n : Int) < 1 + ((l[0]?.getD 0).toNat : Int) % 64) = false := decide_eq_false (by omega)
  have hd : dec l = match und ((l[0]?.getD 0).toNat / 64 : Nat) ((l.drop 1).take ((l[0]?.getD 0).toNat % 64)) with
      | some v => ⟨((l[0]?.getD 0).toNat / 64 : Nat), v, 1 + (l[0]?.getD 0).toNat % 64, false, 0⟩
      | none => ⟨0, [], 0, false, 6⟩ := by unfold dec; rw [if_neg (by rw [← h.len]; exact h0), if_neg h1, if_neg (by rw [← h.len]; exact h2)]; rfl
  generalize (l[0]?.getD 0).toNat = x at *
  generalize dec l = D at *
  have HD := Lib.hid hd
  have HS := Lib.hid h
  have hcap := h.cap
  have hmax := h.max
  unfold maxLen at hmax
  clear h1 hd h
  go_enter Try.func22, Try.ntmps22
  go_wp2_with fail
  go_quiet (fail)
  have slA : Sl ((w.alloc (.cells #[.int .i64 0, .string ⟨#[]⟩] 23)).drewN nq) (if c = 1 then some a else some ⟨a.block, a.off + 1, none⟩) (x % 64) (c - 1) ((l.drop 1).take (x % 64)) := by
    have h := HS.out
    have hl := h.len
    have r1 := row_take (row_cut (n := 1) (cap := c) h.row (by omega) (by omega)) (x % 64)
    have e : (if c = 1 then some a else (some a).map (·.add 1)) = (if c = 1 then some a else some ⟨a.block, a.off + 1, none⟩ : Option Addr) := by
      split
      · rfl
      · simp [Addr.add]
    rw [e] at r1
    refine ⟨by rw [List.length_take, List.length_drop]; omega, ((Rd.below r1 hbx).more (by simp)).drewN nq, by omega, by unfold maxLen; omega, fun hh => ?_⟩
    split at hh <;> cases hh
  have hbw : Below w.heap.size w ((w.alloc (.cells #[.int .i64 0, .string ⟨#[]⟩] 23)).drewN nq) := below_drewN hbx
  have hst2 : ((w.alloc (.cells #[.int .i64 0, .string ⟨#[]⟩] 23)).drewN nq).heap[w.heap.size]? = some (.cells #[.int .i64 0, .string ⟨#[]⟩] 23 (0, 0)) := hst
  have hszz : w.heap.size < ((w.alloc (.cells #[.int .i64 0, .string ⟨#[]⟩] 23)).drewN nq).heap.size := lt_of_some hst2
  generalize (w.alloc (.cells #[.int .i64 0, .string ⟨#[]⟩] 23)).drewN nq = w2 at *
  have hcall := fun (k : Int) (hk : k = (x / 64 : Nat)) (A' : Option Addr) (hA : A' = if c = 1 then some a else some ⟨a.block, a.off + 1, none⟩) (c' : Nat) (hc' : c' = c - 1) => (show Calls Try.prog 43 #[.int .i64 k, .slice A' (x % 64) c'] w2 fun e w' => e = uo (und (x / 64 : Nat) ((l.drop 1).take (x % 64))) ∧ Below w2.heap.size w2 w' from by
    subst hk hA hc'
    exact unpack_any (x / 64 : Nat) _ (x % 64) (c - 1) ((l.drop 1).take (x % 64)) w2 slA (by omega))
  rcases hu : und (x / 64 : Nat) ((l.drop 1).take (x % 64)) with _ | v
  · have hD : D = ⟨0, [], 0, false, 6⟩ := by rw [HD.out, hu]
    subst hD
    rw [hu] at hcall
    have HC := Lib.hid hcall
    clear hcall slA hu HD hst hbx
    go_wp2_with fail
    all_goals
      refine (HC.out _ (by omega) _ (by simp_all) _ (by omega)).mono ?_
      rintro e w3 ⟨rfl, hb3⟩
      obtain ⟨c0, c1, hf⟩ := pair_cells ((hb3.block w.heap.size hszz).trans hst2)
      have f0 := hf 0
      have f1 := hf 1
      have d1 : (w3.setCell ⟨w.heap.size, 0, none⟩ (.int .i64 0)).cell? ⟨w.heap.size, 1, none⟩ = some (.string ⟨#[]⟩) := by
        rw [World.cell?_setCell_other _ _ _ _ (by simp)]; exact c1
      have hbz := hbw.trans (hb3.mono (by omega))
      clear hf hst2 HS
      unfold uo
      go_wp2_with fail
      refine bodyPost_ret (v := .tuple #[.agg #[.int .i64 0, .string ⟨#[]⟩], .int .i64 0, .bool false, .int .i64 6]) ?_ rfl ⟨rfl, ?_⟩
      · have e0 := World.cell?_setCell_same (v := .int .i64 0) w3 _ c0
        have e1 := World.cell?_setCell_same (v := .string ⟨#[]⟩) _ _ d1
        simp [results, Try.results22, go_sem, e0, e1]
      · exact (hbz.setCell (p := ⟨w.heap.size, 0, none⟩) (Nat.le_refl _) _).setCell (p := ⟨w.heap.size, 1, none⟩) (Nat.le_refl _) _
  · have hD : D = ⟨(x / 64 : Nat), v, 1 + x % 64, false, 0⟩ := by rw [HD.out, hu]
    subst hD
    rw [hu] at hcall
    have HC := Lib.hid hcall
    clear hcall slA hu HD hst hbx
    go_wp2_with fail
    all_goals
      refine (HC.out _ (by omega) _ (by simp_all) _ (by omega)).mono ?_
      rintro e w3 ⟨rfl, hb3⟩
      obtain ⟨c0, c1, hf⟩ := pair_cells ((hb3.block w.heap.size hszz).trans hst2)
      have f0 := hf 0
      have f1 := hf 1
      have d1 : (w3.setCell ⟨w.heap.size, 0, none⟩ (.int .i64 ((x : Int) / 64))).cell? ⟨w.heap.size, 1, none⟩ = some (.string ⟨#[]⟩) := by
        rw [World.cell?_setCell_other _ _ _ _ (by simp)]; exact c1
      have hbz := hbw.trans (hb3.mono (by omega))
      clear hf hst2 HS
      unfold uo
      go_wp2_with fail
      refine bodyPost_ret (v := .tuple #[.agg #[.int .i64 ((x : Int) / 64), .string ⟨v.toArray⟩], .int .i64 (1 + (x : Int) % 64), .bool false, .int .i64 0]) ?_ rfl ⟨?_, ?_⟩
      · have e0 := World.cell?_setCell_same (v := .int .i64 ((x : Int) / 64)) w3 _ c0
        have e1 := World.cell?_setCell_same (v := .string ⟨v.toArray⟩) _ _ d1
        simp [results, Try.results22, go_sem, e0, e1]
      · unfold out
        simp
      · exact (hbz.setCell (p := ⟨w.heap.size, 0, none⟩) (Nat.le_refl _) _).setCell (p := ⟨w.heap.size, 1, none⟩) (Nat.le_refl _) _
end Go.Proofs.Ytkhdldemhaifpaa.Fa
