/- Walks: the reference's decoding of fields: packed digits. -/
import Derived.Test.YtkhdldemhaifpaaF2d
import Derived.Test.YtkhdldemhaifpaaFg
namespace Go.Proofs.Ytkhdldemhaifpaa.F2e
open Go.RowKit Go.Proofs.Ytkhdldemhaifpaa.Mem Go.Proofs.Ytkhdldemhaifpaa.F2p Go.Proofs.Ytkhdldemhaifpaa.Fa
set_option maxRecDepth 100000
set_option maxHeartbeats 3000000

theorem dec_bcd (A : Option Addr) (n c : Nat) (l : List UInt8) (w : World) (h : Sl w A n c l) (h0 : 0 < n) (_he : (l[0]?.getD 0).toNat ≠ 193) (hs : 1 + (l[0]?.getD 0).toNat % 64 ≤ n)
    (hk : (l[0]?.getD 0).toNat / 64 = 1) (hn : n ≤ 100000) (D : De) (hD : D = match und 1 ((l.drop 1).take ((l[0]?.getD 0).toNat % 64)) with
      | some v => ⟨1, v, 1 + (l[0]?.getD 0).toNat % 64, false, 0⟩
      | none => ⟨0, [], 0, false, 6⟩) :
    Calls Try.prog 23 #[.slice A n c] w fun e w' => e = out D.k D.v D.n D.z D.c ∧ Below w.heap.size w w' := by
  obtain ⟨a, rfl, hab, hc0⟩ := head_cell h h0
  obtain ⟨i0, hi, hz0, hz1, hz2⟩ := info_parts info5
  have hx := (l[0]?.getD 0).toNat_lt
  have hn0 : ((n : Int) == 0) = false := by rw [beq_eq_false_iff_ne]; omega
  have hn1 : ((((l[0]?.getD 0).toNat : Nat) : Int) == 193) = false := by rw [beq_eq_false_iff_ne]; omega
  have t1 : ((((l[0]?.getD 0).toNat : Nat) : Int) / 64 == 1) = true := by rw [beq_iff_eq]; omega
  generalize (l[0]?.getD 0).toNat = x at *
  have hl : ((l.drop 1).take (x % 64)).length = x % 64 := by rw [List.length_take, List.length_drop, ← h.len]; omega
  have hcell : ∀ (W : World) (j : Nat) (_ : j < x % 64) (hj2 : j < ((l.drop 1).take (x % 64)).length), (∀ p : Addr, p.block < w.heap.size → W.cell? p = w.cell? p) → W.cell? (a.add (1 + j)) = some (.int .u8 ((((l.drop 1).take (x % 64))[j]'hj2).toNat : Int)) := fun W j hj hj2 hkeep => by
    obtain ⟨a', ea, hab', hc⟩ := row_at h.row (k := 1 + j) (by rw [← h.len]; omega)
    injection ea with ea
    subst ea
    rw [hkeep _ (by rw [add_block]; exact hab'), hc]
    simp only [List.getElem_take, List.getElem_drop]
  generalize (l.drop 1).take (x % 64) = m at *
  have hu : und 1 m = if m.all nyb then some (unb m) else none := rfl
  have hDy : m.all nyb = true → D = ⟨1, unb m, 1 + x % 64, false, 0⟩ := fun hh => by rw [hD, hu, if_pos hh]
  have hDn : m.all nyb = false → D = ⟨0, [], 0, false, 6⟩ := fun hh => by rw [hD, hu, if_neg (by rw [hh]; simp)]
  have DY := Lib.hid hDy
  have DN := Lib.hid hDn
  have HC := Lib.hid hcell
  have HM := Lib.hid hl
  have HK := Lib.hid hk
  clear hD hu hDy hDn hcell _he hk h hl
  go_enter Try.func23, Try.ntmps23
  go_wp2_with fail
  have hbx : Below w.heap.size w (w.alloc (.cells #[.int .i64 0, .string ⟨#[]⟩] 23)) := (Below.refl _ _).alloc (Nat.le_refl _) _
  have hsz : (w.alloc (.cells #[.int .i64 0, .string ⟨#[]⟩] 23)).heap.size = w.heap.size + 1 := by simp
  have hst : (w.alloc (.cells #[.int .i64 0, .string ⟨#[]⟩] 23)).heap[w.heap.size]? = some (.cells #[.int .i64 0, .string ⟨#[]⟩] 23 (0, 0)) := heap_alloc_new w _
  generalize w.alloc (.cells #[.int .i64 0, .string ⟨#[]⟩] 23) = w1 at *
  have HST := Lib.hid hst
  have HBX := Lib.hid hbx
  clear hst hbx
  go_loopw [8, 10] (fun v i wr => ∃ j : Nat, j ≤ x % 64 ∧ i = .int .i64 j ∧ (m.take j).all nyb = true ∧ Own (w.heap.size + 1) wr v (unb (m.take j)) ∧ Below (w.heap.size + 1) w1 wr) (fun _ i _ => x % 64 - (intOf i).toNat)
  case atStart => exact ⟨0, Nat.zero_le _, rfl, rfl, Own.nil, Below.refl _ _⟩
  case round =>
    obtain ⟨j, hj, rfl, hall, hown, hbel⟩ := hrel
    have hz := hbel.size
    rw [hsz] at hz
    have HALL := Lib.hid hall
    have hbw := Lib.hid (HBX.out.trans (hbel.mono (Nat.le_succ _)))
    clear hall
    by_cases hlt : j < x % 64
    · have hjl : j < m.length := by rw [HM.out]; exact hlt
      have hcell := HC.out wr j hlt hjl (fun p hp => hbw.out.cell hp)
      have hx1 := (m[j]).toNat_lt
      have HLEN := Lib.hid (show (m.take j).length = j by rw [List.length_take]; omega)
      by_cases hy1 : (m[j]).toNat / 16 < 13
      · have y1 : decide (13 ≤ ((m[j]).toNat : Int) / 16) = false := decide_eq_false (by omega)
        by_cases hy2 : (m[j]).toNat % 16 < 13
        · have y2 : decide (13 ≤ ((m[j]).toNat : Int) % 16) = false := decide_eq_false (by omega)
          have s1 := fun u : World => sign_index ((m[j]).toNat / 16) hy1 (((m[j]).toNat : Int) / 16) (by omega) u
          have s2 := fun u : World => sign_index ((m[j]).toNat % 16) hy2 (((m[j]).toNat : Int) % 16) (by omega) u
          go_wp2_with fail
          go_region_held3 (fun w' => True) (first | go_keep | trivial)
            (first
              | (refine step_append_rd _ rfl (.tmp 84) (.tmp 91) 31 rfl (w.heap.size + 1) 5 i0 (.int .u8 0) 1 Try.underlying31 hi hz0 hz1 hz2 rfl u8 _ _ rfl ((World.ownsRow.alloc hown _).drew) (wr.heap.size + 1) (some ⟨wr.heap.size, 0, none⟩) 2 2 (bvs [sg ((m[j]).toNat / 16), sg ((m[j]).toNat % 16)]) rfl rfl (Rd.drew (Rd.new wr #[bv (sg ((m[j]).toNat / 16)), bv (sg ((m[j]).toNat % 16))] 5)) (fun hh => by cases hh) (bvs_one _) (by unfold maxLen; rw [unb_len, HLEN.out]; omega) (by rw [unb_len, HLEN.out]; omega) (by simp; omega) ?_; intro v1 w2 hown2 hgr2))
          all_goals
            go_wp2_with fail
            refine ⟨⟨j + 1, by omega, by go_num, ?_, ?_, below_grown ((hbel.alloc (by omega) _).drew) ((World.ownsRow.alloc hown _).drew) hgr2 (by simp; omega)⟩, by simp [intOf]; omega⟩
            · rw [all_take_succ _ _ _ hjl, HALL.out]; simp [nyb, hy1, hy2]
            · refine own_of hown2 ?_ ?_
              · rw [unb_snoc hjl, List.length_append]; rfl
              · rw [unb_snoc hjl, bvs_app]
        · have y2 : decide (13 ≤ ((m[j]).toNat : Int) % 16) = true := decide_eq_true (by omega)
          have hDD := DN.out (bad_all j hjl (by simp [nyb, hy2]))
          subst hDD
          obtain ⟨c0, c1, hf⟩ := pair_cells ((hbel.block w.heap.size (by omega)).trans HST.out)
          have f0 := hf 0
          have f1 := hf 1
          have d1 : (wr.setCell ⟨w.heap.size, 0, none⟩ (.int .i64 0)).cell? ⟨w.heap.size, 1, none⟩ = some (.string ⟨#[]⟩) := by
            rw [World.cell?_setCell_other _ _ _ _ (by simp)]; exact c1
          clear hf hown HALL
          go_wp2_with fail
          refine bodyPost_ret (v := .tuple #[.agg #[.int .i64 0, .string ⟨#[]⟩], .int .i64 0, .bool false, .int .i64 6]) ?_ rfl ⟨rfl, ?_⟩
          · have e0 := World.cell?_setCell_same (v := .int .i64 0) wr _ c0
            have e1 := World.cell?_setCell_same (v := .string ⟨#[]⟩) _ _ d1
            simp [results, Try.results23, go_sem, e0, e1]
          · exact (hbw.out.setCell (p := ⟨w.heap.size, 0, none⟩) (Nat.le_refl _) _).setCell (p := ⟨w.heap.size, 1, none⟩) (Nat.le_refl _) _
      · have y1 : decide (13 ≤ ((m[j]).toNat : Int) / 16) = true := decide_eq_true (by omega)
        have hDD := DN.out (bad_all j hjl (by simp [nyb, hy1]))
        subst hDD
        obtain ⟨c0, c1, hf⟩ := pair_cells ((hbel.block w.heap.size (by omega)).trans HST.out)
        have f0 := hf 0
        have f1 := hf 1
        have d1 : (wr.setCell ⟨w.heap.size, 0, none⟩ (.int .i64 0)).cell? ⟨w.heap.size, 1, none⟩ = some (.string ⟨#[]⟩) := by
          rw [World.cell?_setCell_other _ _ _ _ (by simp)]; exact c1
        clear hf hown HALL
        go_wp2_with fail
        refine bodyPost_ret (v := .tuple #[.agg #[.int .i64 0, .string ⟨#[]⟩], .int .i64 0, .bool false, .int .i64 6]) ?_ rfl ⟨rfl, ?_⟩
        · have e0 := World.cell?_setCell_same (v := .int .i64 0) wr _ c0
          have e1 := World.cell?_setCell_same (v := .string ⟨#[]⟩) _ _ d1
          simp [results, Try.results23, go_sem, e0, e1]
        · exact (hbw.out.setCell (p := ⟨w.heap.size, 0, none⟩) (Nat.le_refl _) _).setCell (p := ⟨w.heap.size, 1, none⟩) (Nat.le_refl _) _
    · have hcv := own_string hown
      have hjx : j = x % 64 := by omega
      have e1 : m.take j = m := by rw [hjx, ← HM.out, List.take_length]
      have hall := HALL.out
      rw [e1] at hall hcv
      have hDD := DY.out hall
      subst hDD
      generalize hU : (⟨(unb m).toArray⟩ : ByteArray) = U at *
      obtain ⟨c0, c1, hf⟩ := pair_cells ((hbel.block w.heap.size (by omega)).trans HST.out)
      have f0 := hf 0
      have f1 := hf 1
      have d1 : (wr.setCell ⟨w.heap.size, 0, none⟩ (.int .i64 ((x : Int) / 64))).cell? ⟨w.heap.size, 1, none⟩ = some (.string ⟨#[]⟩) := by
        rw [World.cell?_setCell_other _ _ _ _ (by simp)]; exact c1
      have HU := Lib.hid hU
      clear hf hown HALL hU hall e1 hjx
      go_wp2_with fail
      refine bodyPost_ret (v := .tuple #[.agg #[.int .i64 ((x : Int) / 64), .string U], .int .i64 (1 + (x : Int) % 64), .bool false, .int .i64 0]) ?_ rfl ⟨?_, ?_⟩
      · have e0 := World.cell?_setCell_same (v := .int .i64 ((x : Int) / 64)) wr _ c0
        have e1 := World.cell?_setCell_same (v := .string U) _ _ d1
        simp [results, Try.results23, go_sem, e0, e1]
      · have hq : (x : Int) / 64 = 1 := by have := HK.out; omega
        unfold out
        rw [hq]
        simp only [HU.out]
        try simp
      · exact (hbw.out.setCell (p := ⟨w.heap.size, 0, none⟩) (Nat.le_refl _) _).setCell (p := ⟨w.heap.size, 1, none⟩) (Nat.le_refl _) _
end Go.Proofs.Ytkhdldemhaifpaa.F2e
