/- Walks: the reference's Delete, Clear, IDs. -/
import Derived.Test.YtcnkiecdagjgmaaRs
namespace Go.Proofs.Ytcnkiecdagjgmaa.R12
open Go.RowKit Go.Proofs.Ytcnkiecdagjgmaa.Mem
open Go.Proofs.Ytcnkiecdagjgmaa.R11 (Rk Rp sum fresh has has_iff nxt nth fid ixOf ixOf_no ixOf_yes plc plc_lt nid nid_more nid_last lt_of_some ne_of_types own_blk HOwn hvs hvs_one info16 rd_new_at)
set_option maxRecDepth 100000
set_option maxHeartbeats 1000000

theorem erase_snoc {l : List Rk} {j i : Nat} (h : j < l.length) (hne : j ≠ i) : (l.take (j + 1)).eraseIdx i = (l.take j).eraseIdx i ++ [l[j]] := by
  have hl : (l.take j).length = j := by rw [List.length_take]; omega
  rw [List.take_succ_eq_append_getElem h]
  rcases Nat.lt_or_ge i j with h1 | h1
  · rw [List.eraseIdx_append_of_lt_length (by omega)]
  · rw [List.eraseIdx_append_of_length_le (by omega), List.eraseIdx_of_length_le (l := l.take j) (by omega), List.eraseIdx_of_length_le (l := [l[j]]) (by rw [hl, List.length_singleton]; omega)]
theorem erase_same {l : List Rk} {j : Nat} (h : j < l.length) : (l.take (j + 1)).eraseIdx j = (l.take j).eraseIdx j := by
  have hl : (l.take j).length = j := by rw [List.length_take]; omega
  rw [List.take_succ_eq_append_getElem h, List.eraseIdx_append_of_length_le (by omega), hl, Nat.sub_self]
  rw [List.eraseIdx_of_length_le (l := l.take j) (by omega)]
  simp
section
variable {B : Nat} {W w w' : World} {g : Nat} {rv rv' : Value} {S S' : Rp}
theorem kown_base {base base' : Nat} {v : Value} {l : List Rk} (h : KOwn base w v l) (hb : base' ≤ base) : KOwn base' w v l := by
  refine ⟨h.1, ?_⟩
  rcases h.2 with h2 | ⟨g, cap, cur, h1, h2, h3⟩
  · exact .inl h2
  · exact .inr ⟨g, cap, cur, h1, by omega, h3⟩
theorem rdel_no (h : RA B W w g rv S) (ok : S.Ok) (v i : Nat) (hv5 : v ≤ 65535) (he : S.delE v i ≠ 0) (hi : i ≤ 65535) : Calls Try.prog 60 #[.pointer (some ⟨g, 0, none⟩), .int .u16 (v : Int), .int .u16 (i : Int)] w fun e w' => e = .returned (.int .i64 (S.delE v i : Int)) ∧ Below w.heap.size w w' := by
  have HV := rheld_p h v hv5
  have HF := rfind_p h ok i
  unfold Rp.delE at *
  by_cases hv : S.valid v = false
  · rw [if_pos hv]
    rw [hv] at HV
    have HV := Lib.hid HV
    clear h HF he hv ok
    go_enter Try.func60, Try.ntmps60
    go_wp2_with fail
    refine HV.out.mono ?_
    rintro e w1 ⟨rfl, hw1⟩
    rw [hw1]
    clear hw1 w1
    go_wp2_with fail
    go_ret
    exact ⟨rfl, Below.refl _ _⟩
  · rw [if_neg hv] at he ⊢
    rw [Bool.not_eq_false] at hv
    rw [hv] at HV
    have hh : has S.recs i = false := by
      rcases hq : has S.recs i with _ | _
      · rfl
      · rw [hq] at he; exact absurd rfl he
    rw [hh]
    rw [ixOf_no hh] at HF
    have HV := Lib.hid HV
    have HF := Lib.hid HF
    clear h he hv hh ok
    go_enter Try.func60, Try.ntmps60
    go_wp2_with fail
    refine HV.out.mono ?_
    rintro e w1 ⟨rfl, hw1⟩
    rw [hw1]
    clear hw1 w1
    go_wp2_with fail
    refine HF.out.mono ?_
    rintro e w1 ⟨rfl, hw1⟩
    rw [hw1]
    clear hw1 w1
    go_wp2_with fail
    go_ret
    exact ⟨rfl, Below.refl _ _⟩
theorem rdel_p (h : RA B W w g rv S) (ok : S.Ok) (v i : Nat) (hv5 : v ≤ 65535) (hi : i ≤ 65535) (he : S.delE v i = 0) : Calls Try.prog 60 #[.pointer (some ⟨g, 0, none⟩), .int .u16 (v : Int), .int .u16 (i : Int)] w fun e w' => ∃ rv', e = .returned (.int .i64 0) ∧ RA B W w' g rv' (S.gone (S.recs.findIdx fun r => decide (r.id = i))) ∧ Kp g rv rv' w w' := by
  have HV := rheld_p h v hv5
  have HF := rfind_p h ok i
  unfold Rp.delE at he
  have hv : S.valid v = true := by
    rcases hq : S.valid v with _ | _
    · rw [hq] at he; cases he
    · rfl
  rw [if_neg (by rw [hv]; decide)] at he
  have hh : has S.recs i = true := by
    rcases hq : has S.recs i with _ | _
    · rw [hq] at he; cases he
    · rfl
  obtain ⟨k, hk1, hk2, hk3⟩ := ixOf_yes hh
  rw [← hk3]
  rw [hk2] at HF
  rw [hv] at HV
  have HV := Lib.hid HV
  have HF := Lib.hid HF
  have HH := Lib.hid h
  have c1 := h.c1
  have hlg := h.lg
  obtain ⟨A1, n, cc1, rfl, hs⟩ := h.own.sl
  have HS := Lib.hid hs
  have HN := Lib.hid hs.len
  have hn64 : n ≤ 64 := by rw [hs.len]; exact ok.len
  have hcm : n ≤ 2 ^ 63 - 1 := Nat.le_trans hs.cap hs.max
  have hkn : k < n := by rw [hs.len]; exact hk1
  clear h ok he hv hh hk2 hk3 hs hk1
  go_enter Try.func60, Try.ntmps60
  go_wp2_with fail
  refine HV.out.mono ?_
  rintro e w1 ⟨rfl, hw1⟩
  rw [hw1]
  clear hw1 w1 HV
  go_wp2_with fail
  refine HF.out.mono ?_
  rintro e w1 ⟨rfl, hw1⟩
  rw [hw1]
  clear hw1 w1 HF
  go_wp2_with fail
  go_loopw [8, 9] (fun v jv wr => ∃ j : Nat, j ≤ n ∧ jv = .int .i64 (j : Int) ∧ KOwn w.heap.size wr v ((S.recs.take j).eraseIdx k) ∧ Below w.heap.size w wr) (fun _ jv _ => n - (intOf jv).toNat)
  case atStart => exact ⟨0, Nat.zero_le _, rfl, by simpa using KOwn.nil, Below.refl _ _⟩
  case round =>
    obtain ⟨j, hj, rfl, hown, hbel⟩ := hrel
    have hra := HH.out.step hbel
    have c1 := hra.c1
    have hlg := hra.lg
    have HRA := Lib.hid hra
    have HBEL := Lib.hid hbel
    have HOWN := Lib.hid hown
    clear hra hown
    rcases Nat.lt_or_ge j n with hlt | hge
    · have n1 : (j : Int) < (n : Int) := by omega
      have n2 : (0 : Int) ≤ (j : Int) := by omega
      have hjl : j < S.recs.length := by have := HN.out; omega
      by_cases hjk : j = k
      · have q0 : ((j : Int) != (k : Int)) = false := by simp; omega
        have HO2 : Hid (KOwn w.heap.size wr u8 ((S.recs.take (j + 1)).eraseIdx k)) := Lib.hid (by
          have h := HOWN.out
          rw [← hjk] at h ⊢
          rw [erase_same hjl]
          exact h)
        clear hjk HOWN hbel
        go_wp2_with fail
        first
          | exact ⟨⟨j + 1, by omega, by go_num, HO2.out, HBEL.out⟩, by simp [intOf]; omega⟩
          | (go_goals; fail)
      · have q0 : ((j : Int) != (k : Int)) = true := by simp; omega
        obtain ⟨a, rfl, hab, k0⟩ := krow_k (HS.out.step hbel).row hjl
        have HSN := Lib.hid (erase_snoc hjl hjk)
        have hln : ((S.recs.take j).eraseIdx k).length ≤ 64 := Nat.le_trans (List.eraseIdx_sublist _ _).length_le (by rw [List.length_take]; omega)
        have HK := Lib.hid k0
        clear k0 hjk
        generalize S.recs[j] = r at *
        generalize (S.recs.take j).eraseIdx k = D at *
        have hal : Below w.heap.size w (wr.alloc (.cells (ic r) 136)) := HBEL.out.alloc HBEL.out.size _
        have ho1 : KOwn w.heap.size (wr.alloc (.cells (ic r) 136)) u8 D := World.ownsRow.alloc HOWN.out _
        obtain ⟨rid, rblk, rcap, rb⟩ := r
        dsimp only [ic] at hal ho1
        have HAL := Lib.hid hal
        have HO1 := Lib.hid ho1
        have hsz := hal.size
        clear hal ho1 hbel
        go_wp2_with (refine wpList_load_k rfl (.tmp 38) rfl (a.add (j * 2)) _ rfl HK.out ?_; refine Hid.out ?_)
        dsimp only [iv, ic]
        refine Lib.hid ?_
        go_wp2_with (at_builtin; go_loud (refine wpList_append_k _ rfl (.tmp 32) (.tmp 40) rfl w.heap.size u8 D rfl HO1.out [⟨rid, rblk, rcap, rb⟩] ⟨wr.heap.size, 0, none⟩ 1 1 rfl rfl (KsAt.one (cell_of_row _ _ 0 _ _ _ (heap_alloc_new wr _)) (cell_of_row _ _ 1 _ _ _ (heap_alloc_new wr _))) (by simp; omega) hsz ?_); intro v' w1 hown1 hg1 hk1)
        have hbel1 : Below w.heap.size w w1 := HAL.out.grown hg1 HAL.out.size fun q hq => (HO1.out.blk hq).1
        have HO2 : Hid (KOwn w.heap.size w1 v' ((S.recs.take (j + 1)).eraseIdx k)) := Lib.hid (by rw [HSN.out]; exact hown1)
        clear hown1 hg1 hk1
        first
          | exact ⟨⟨j + 1, by omega, by go_num, HO2.out, hbel1⟩, by simp [intOf]; omega⟩
          | (go_goals; fail)
    · have n1 : ¬ (j : Int) < (n : Int) := by omega
      obtain rfl : j = n := Nat.le_antisymm hj hge
      have htk : S.recs.take j = S.recs := List.take_of_length_le (by have := HN.out; omega)
      have hown := HOWN.out
      rw [htk] at hown
      obtain ⟨A8, n8, c8, rfl, -⟩ := hown.sl
      have f1 := HRA.out.fz 1
      have f3 := HRA.out.fz 3
      have hgr : wr.grownBy wr (Value.slice A1 j cc1).ownBlock := World.grownBy.refl _ _
      have hfin := HRA.out.recs (S' := { S with recs := S.recs.eraseIdx k }) (rv' := .slice A8 n8 c8) hgr (kown_base hown HH.out.base) (fun r hr => HRA.out.rows r ((List.eraseIdx_sublist _ _).subset hr)) rfl
      have kfin : Kp g (.slice A1 j cc1) (.slice A8 n8 c8) w (wr.setCell ⟨g, 1, none⟩ (.slice A8 n8 c8)) :=
        ⟨HBEL.out.os, HBEL.out.tape, HBEL.out.output, by have := HBEL.out.size; simpa using this, fun i hi e _ => ⟨(heap_setCell_other wr ⟨g, 1, none⟩ i _ e).trans (HBEL.out.block i hi), fun hq => by have := (hown.blk hq).1; omega⟩⟩
      have HFIN := Lib.hid hfin
      have KFIN := Lib.hid kfin
      have c3 := hfin.c3
      dsimp only at c3
      clear hfin kfin hown htk hge hj
      go_wp2_with fail
      go_ret
      first
        | exact ⟨_, rfl, HFIN.out.put0 3 (.bool false) rfl rfl, KFIN.out.trans (Kp.put _ 3)⟩
        | exact ⟨rfl, _, HFIN.out.put0 3 (.bool false) rfl rfl, KFIN.out.trans (Kp.put _ 3)⟩
theorem rclr_no (h : RA B W w g rv S) (v : Nat) (hv5 : v ≤ 65535) (hv : S.valid v = false) : Calls Try.prog 62 #[.pointer (some ⟨g, 0, none⟩), .int .u16 (v : Int)] w fun e w' => e = .returned (.int .i64 11) ∧ w' = w := by
  have HV := rheld_p h v hv5
  rw [hv] at HV
  have HV := Lib.hid HV
  clear h hv
  go_enter Try.func62, Try.ntmps62
  go_wp2_with fail
  refine HV.out.mono ?_
  rintro e w1 ⟨rfl, hw1⟩
  rw [hw1]
  clear hw1 w1
  go_wp2_with fail
  go_ret
  exact ⟨rfl, rfl⟩
theorem rclr_p (h : RA B W w g rv S) (v : Nat) (hv5 : v ≤ 65535) (hv : S.valid v = true) : Calls Try.prog 62 #[.pointer (some ⟨g, 0, none⟩), .int .u16 (v : Int)] w fun e w' => e = .returned (.int .i64 0) ∧ RA B W w' g (.slice none 0 0) S.clr ∧ Kp g rv (.slice none 0 0) w w' := by
  have HV := rheld_p h v hv5
  rw [hv] at HV
  have HV := Lib.hid HV
  have c1 := h.c1
  have c3 := h.c3
  have f1 := h.fz 1
  have f3 := h.fz 3
  have hlg := h.lg
  have p1 := h.put 1 (.slice none 0 0) (.slice none 0 0) (S' := { S with recs := [] }) rfl KOwn.nil (fun r hr => by cases hr)
  have p2 := p1.put0 3 (.bool false) (S' := S.clr) rfl rfl
  have k1 : Kp g rv (.slice none 0 0) w (w.setCell ⟨g, 1, none⟩ (.slice none 0 0)) := by
    have hs := set_grown w g 1 (.slice none 0 0)
    exact ⟨hs.os, hs.tape, hs.output, hs.size, fun j hj e f => ⟨hs.block j hj (fun x => e (by injection x)), fun e => by cases e⟩⟩
  have H := Lib.hid (And.intro p2 (k1.trans (Kp.put (.bool false) 3)))
  obtain ⟨A1, n1, cc1, rfl, -⟩ := h.own.sl
  clear h hv p1 p2 k1
  go_enter Try.func62, Try.ntmps62
  go_wp2_with fail
  refine HV.out.mono ?_
  rintro e w1 ⟨rfl, hw1⟩
  rw [hw1]
  clear hw1 w1
  go_wp2_with fail
  go_ret
  exact ⟨rfl, H.out⟩
theorem rids_p (h : RA B W w g rv S) (ok : S.Ok) : Calls Try.prog 67 #[.pointer (some ⟨g, 0, none⟩)] w fun e w' => ∃ v, e = .returned v ∧ HOwn w.heap.size w' v (S.recs.map (·.id)) ∧ Below w.heap.size w w' := by
  obtain ⟨i0, hi, hz0, hz1, hz2⟩ := info_parts info16
  have H := Lib.hid h
  have hlg := h.lg
  have HRG := Lib.hid ok.rng
  obtain ⟨A, n, c, rfl, hs⟩ := h.own.sl
  have HS := Lib.hid hs
  have HN := Lib.hid hs.len
  have hn64 : n ≤ 64 := by rw [hs.len]; exact ok.len
  have hcm : n ≤ 2 ^ 63 - 1 := Nat.le_trans hs.cap hs.max
  clear h hs ok
  go_enter Try.func67, Try.ntmps67
  go_wp2_with fail
  go_loopw [3, 4] (fun v jv wr => ∃ j : Nat, j ≤ n ∧ jv = .int .i64 (j : Int) ∧ HOwn w.heap.size wr v ((S.recs.take j).map (·.id)) ∧ Below w.heap.size w wr) (fun _ jv _ => n - (intOf jv).toNat)
  case atStart => exact ⟨0, Nat.zero_le _, rfl, by simpa using R11.HOwn.nil, Below.refl _ _⟩
  case round =>
    obtain ⟨j, hj, rfl, hown, hbel⟩ := hrel
    have hra := H.out.step hbel
    have c1 := hra.c1
    have hlg := hra.lg
    clear hra
    rcases Nat.lt_or_ge j n with hlt | hge
    · have n1 : (j : Int) < (n : Int) := by omega
      have n2 : (0 : Int) ≤ (j : Int) := by omega
      have hjl : j < S.recs.length := by have := HN.out; omega
      obtain ⟨a, rfl, hab, k0, -⟩ := krow_at (HS.out.step hbel).row hjl
      have hrg := (HRG.out _ (List.getElem_mem hjl)).2
      have hsn : (S.recs.take (j + 1)).map (·.id) = (S.recs.take j).map (·.id) ++ [S.recs[j].id] := by rw [List.take_succ_eq_append_getElem hjl, List.map_append]; rfl
      have HSN := Lib.hid hsn
      have hln : ((S.recs.take j).map (·.id)).length ≤ 64 := by rw [List.length_map, List.length_take]; omega
      clear hsn
      generalize S.recs[j].id = X at *
      generalize (S.recs.take j).map (·.id) = D at *
      have HO := Lib.hid hown
      have HB := Lib.hid hbel
      have hsz := hbel.size
      clear hown hbel
      go_wp2_with (at_builtin; go_loud (refine wpList_append_rd _ rfl (.tmp 14) (.tmp 24) _ rfl w.heap.size 30 i0 _ 2 Try.underlying99 hi hz0 hz1 hz2 rfl u3 D.length (hvs D) rfl (World.ownsRow.alloc HO.out _) _ _ 1 1 (hvs [X]) rfl rfl (rd_new_at _ _ _ _ _ (by simp) rfl) (fun hh => by cases hh) (hvs_one _) (by unfold maxLen; omega) (by omega) (by simp; omega) ?_); intro v' w1 hown1 hg1)
      have hbel1 : Below w.heap.size w w1 := below_grown (HB.out.alloc HB.out.size _) (World.ownsRow.alloc HO.out _) hg1 (by simp; omega)
      have HO2 : Hid (HOwn w.heap.size w1 v' ((S.recs.take (j + 1)).map (·.id))) := Lib.hid (by rw [HSN.out]; unfold HOwn hvs at *; rw [List.map_append, List.length_append]; exact hown1)
      clear hown1 hg1
      first
        | exact ⟨⟨j + 1, by omega, by go_num, HO2.out, hbel1⟩, by simp [intOf]; omega⟩
        | (go_goals; fail)
    · have n1 : ¬ (j : Int) < (n : Int) := by omega
      obtain rfl : j = n := Nat.le_antisymm hj hge
      have htk : S.recs.take j = S.recs := List.take_of_length_le (by have := HN.out; omega)
      rw [htk] at hown
      have HO := Lib.hid hown
      clear hown htk hge hj
      go_wp2_with fail
      go_ret
      exact ⟨_, rfl, HO.out, hbel⟩
end
end Go.Proofs.Ytcnkiecdagjgmaa.R12
