/- Walks: the records of old sectors are deleted. -/
import Derived.Test.YtekhpcfggbegaaaGg
namespace Go.Proofs.Ytekhpcfggbegaaa.G9
open Go.RowKit Go.Proofs.Ytekhpcfggbegaaa.Mem Go.Proofs.Ytekhpcfggbegaaa.F2p Go.Proofs.Ytekhpcfggbegaaa.E5p Go.Proofs.Ytekhpcfggbegaaa.E5m Go.Proofs.Ytekhpcfggbegaaa.E5a Go.Proofs.Ytekhpcfggbegaaa.E5d Go.Proofs.Ytekhpcfggbegaaa.V7 Go.Proofs.Ytekhpcfggbegaaa.V9
set_option maxRecDepth 100000
set_option maxHeartbeats 2000000

theorem ix_none {p : Rc → Bool} {l : List Rc} (h : l.any p = false) : l.filter (fun r => !p r) = l := List.filter_eq_self.2 fun r hr => by
  rcases hp : p r with _ | _
  · rfl
  · exact absurd (List.any_eq_true.2 ⟨r, hr, hp⟩) (by rw [h]; decide)
theorem grown_same {w w' : World} {g : Nat} {i : Nat} (h : w.grownBy w' (some g)) (hi : i < w.heap.size) (hne : i ≠ g) : w'.heap[i]? = w.heap[i]? := h.block i hi (fun e => hne (by injection e))
theorem rown_form {base : Nat} {w : World} {v : Value} {l : List Rc} (h : ROwn base w v l) (hl : 0 < l.length) : ∃ g c, v = .slice (some ⟨g, 0, none⟩) l.length c ∧ base ≤ g ∧ l.length ≤ c ∧ c ≤ maxLen := by
  rcases h.2 with ⟨_, h0⟩ | ⟨g, cap, cur, rfl, hg, _, h1, h2, _⟩
  · omega
  · exact ⟨g, cap, rfl, hg, h1, h2⟩
theorem grown_alloc {w w' : World} {g : Nat} (h : w.grownBy w' (some g)) (o : Obj) : w.grownBy (w'.alloc o) (some g) :=
  grown_trans h ⟨rfl, rfl, rfl, by simp, fun k hk _ => heap_alloc_old w' o hk⟩
theorem grown_below {w w' w2 : World} {g : Nat} (h : w.grownBy w' (some g)) (hb : Below w'.heap.size w' w2) : w.grownBy w2 (some g) :=
  grown_trans h ⟨hb.os, hb.tape, hb.output, hb.size, fun k hk _ => hb.block k hk⟩
theorem infoRc : (Try.prog.info? 133).map (·.size) = some 11 := by kernel_rfl
theorem delete_p (base : Nat) (rv : Value) (l : List Rc) (t b : Nat) (w : World) (hown : ROwn base w rv l) (hq : ∀ r ∈ l, r.q ≤ 4294967296) (hb : w.cell? ⟨b, 0, none⟩ = some (.int .i64 (t : Int))) (hbl : b < w.heap.size) (hne : rv.ownBlock ≠ some b) (hn : l.length ≤ 1000) :
    Calls Try.prog 173 #[rv, .func (.func 174) #[] #[.pointer (some ⟨b, 0, none⟩)]] w fun e w' =>
      ∃ rv', e = .returned rv' ∧ ROwn base w' rv' (l.filter fun r => decide (t ≤ r.q)) ∧ w.grownBy w' rv.ownBlock ∧ rv'.ownBlock = rv.ownBlock := by
  have hfil : (l.filter fun r => decide (t ≤ r.q)) = l.filter fun r => !decide (r.q < t) := by
    congr 1
    funext r
    rw [Bool.eq_iff_iff]
    simp
  rw [hfil]
  have hsays : Says 174 (.pointer (some ⟨b, 0, none⟩)) (fun r => decide (r.q < t)) l w := fun r hr u hu => older_p r t b u (hq r hr) ((hu.cell (p := ⟨b, 0, none⟩) hbl).trans hb) (Nat.lt_of_lt_of_le hbl hu.size)
  rcases hany : l.any (fun r => decide (r.q < t)) with _ | _
  · rw [ix_none hany]
    obtain ⟨A, n, c, rfl, hl⟩ := hown.sl
    have HI := index_p 174 (.pointer (some ⟨b, 0, none⟩)) (fun r => decide (r.q < t)) A n c l w (.inl rfl) hl hsays
    have hix : ixOf (fun r => decide (r.q < t)) l = -1 := by unfold ixOf; rw [hany]; rfl
    rw [hix] at HI
    have HI := Lib.hid HI
    have HO := Lib.hid hown
    clear hl hown hsays hany hix hfil hq
    go_enter Try.func173, Try.ntmps173
    go_wp2_with fail
    refine HI.out.mono ?_
    rintro e w1 ⟨rfl, hb1⟩
    go_wp2_with fail
    go_ret
    exact ⟨_, rfl, row_any HO.out (fun i hi => hb1.block i (World.ownsRow.lt HO.out _ hi).2), ⟨hb1.os, hb1.tape, hb1.output, hb1.size, fun i hi _ => hb1.block i hi⟩, rfl⟩
  · have hl0 : 0 < l.length := by
      rcases l with _ | ⟨x, l⟩
      · cases hany
      · simp
    obtain ⟨g, c, rfl, hg, hc1, hc2⟩ := rown_form hown hl0
    obtain ⟨A, n0, c0, hv, hl⟩ := hown.sl
    injection hv with e1 e2 e3
    subst e1 e2 e3
    have HI := index_p 174 (.pointer (some ⟨b, 0, none⟩)) (fun r => decide (r.q < t)) _ _ _ l w (.inl rfl) hl hsays
    have hix : ixOf (fun r => decide (r.q < t)) l = ((l.findIdx (fun r => decide (r.q < t)) : Nat) : Int) := by unfold ixOf; rw [hany]; rfl
    rw [hix] at HI
    have hk : l.findIdx (fun r => decide (r.q < t)) < l.length := List.findIdx_lt_length_of_exists (List.any_eq_true.1 hany)
    have hpre : (l.take (l.findIdx (fun r => decide (r.q < t)) + 1)).filter (fun r => !decide (r.q < t)) = l.take (l.findIdx (fun r => decide (r.q < t))) := by
      rw [List.take_succ_eq_append_getElem hk, List.filter_append, ix_none]
      · have := List.findIdx_getElem (w := hk)
        simp only [decide_eq_true_eq] at this
        simp [this]
      · rw [Bool.eq_false_iff]
        intro h
        obtain ⟨x, hx, hp⟩ := List.any_eq_true.1 h
        obtain ⟨i, hi, rfl⟩ := List.mem_take_iff_getElem.1 hx
        have := List.not_of_lt_findIdx (p := fun r : Rc => decide (r.q < t)) (xs := l) (i := i) (by omega)
        exact absurd hp (by simp at this; simp; exact this)
    obtain ⟨k, hkk⟩ : ∃ k, k = l.findIdx (fun r => decide (r.q < t)) := ⟨_, rfl⟩
    rw [← hkk] at HI hk hpre
    have hgne : b ≠ g := fun e => hne (by rw [e]; rfl)
    have HI := Lib.hid HI
    have HO := Lib.hid hown
    have HPRE := Lib.hid hpre
    have HQ := Lib.hid hq
    have HB := Lib.hid hb
    clear hl hown hsays hany hix hfil hq hpre hkk hne hb
    obtain ⟨n, hnl⟩ : ∃ n, n = l.length := ⟨_, rfl⟩
    rw [← hnl] at HI hk hc1 hl0 hn ⊢
    have HN := Lib.hid hnl
    clear hnl
    go_enter Try.func173, Try.ntmps173
    go_wp2_with fail
    refine HI.out.mono ?_
    rintro e w1 ⟨rfl, hb1⟩
    clear HI
    have hkm : ((k : Int) == -1) = false := by simp
    have hb2 := hb1.size
    have H1 : w1.ownsRow base 133 11 (.slice (some ⟨g, 0, none⟩) n c) n (rcs l) := by
      have := row_any HO.out (fun i hi => hb1.block i (World.ownsRow.lt HO.out _ hi).2)
      rwa [← HN.out] at this
    have G1 : w.grownBy w1 (some g) := ⟨hb1.os, hb1.tape, hb1.output, hb1.size, fun i hi _ => hb1.block i hi⟩
    have hcm : c ≤ 2 ^ 63 - 1 := hc2
    clear HO hb1
    replace H1 := Lib.hid H1
    replace G1 := Lib.hid G1
    go_wp2_with fail
    go_loopw [5, 6] (fun iv jv wr => ∃ (i j : Nat) (m : List Rc), i < j ∧ j ≤ n ∧ m.length = n ∧ iv = .int .i64 (i : Int) ∧ jv = .int .i64 (j : Int) ∧ m.take i = (l.take j).filter (fun r => !decide (r.q < t)) ∧ m.drop j = l.drop j ∧
      wr.ownsRow base 133 11 (.slice (some ⟨g, 0, none⟩) n c) n (rcs m) ∧ w.grownBy wr (some g)) (fun _ jv _ => n - (intOf jv).toNat)
    case atStart => exact ⟨k, k + 1, l, by omega, by omega, HN.out.symm, rfl, by go_num, HPRE.out.symm, rfl, H1.out, G1.out⟩
    case round =>
      obtain ⟨i, j, m, hij, hjn, hml, rfl, rfl, htk, hdr, hm, hgr⟩ := hrel
      have HT := Lib.hid htk
      have HD := Lib.hid hdr
      have HM := Lib.hid hm
      have HG := Lib.hid hgr
      have HML := Lib.hid hml
      clear htk hdr hm hgr hml H1 G1 HPRE
      by_cases hlt : j < n
      · have b0 : decide ((j : Int) < (n : Int)) = true := by simp; exact hlt
        have b1 : decide ((i : Int) < (n : Int)) = true := by simp; omega
        have n1 : (j : Int) < (n : Int) := by omega
        have n2 : (0 : Int) ≤ (j : Int) := by omega
        have n3 : (i : Int) < (n : Int) := by omega
        have n4 : (0 : Int) ≤ (i : Int) := by omega
        have hjl : j < l.length := by have := HN.out; omega
        have hjm : j < m.length := by have := HML.out; omega
        have hmj : m[j] = l[j] := by
          have h1 : (m.drop j)[0]? = (l.drop j)[0]? := by rw [HD.out]
          rw [List.getElem?_drop, List.getElem?_drop, Nat.add_zero, List.getElem?_eq_getElem hjm, List.getElem?_eq_getElem hjl] at h1
          exact Option.some.inj h1
        have HK : Hid (RcAt wr ⟨g, j * 11, none⟩ l[j]) := Lib.hid (fun q v hv => by
          have hq11 : q < 11 := by have := (List.getElem?_eq_some_iff.1 hv).1; rwa [rc_len] at this
          have h1 := rcs_get m j hjm q hq11
          rw [hmj, hv] at h1
          have h2 := World.ownsRow.cells HM.out (g := g) rfl (j * 11 + q) v h1
          rw [Addr.add_mid, Nat.zero_add] at h2
          rw [Addr.add_mid]
          exact h2)
        have HQJ := HQ.out _ (List.getElem_mem hjl)
        have HR : Hid (∃ r, r = l[j]) := Lib.hid ⟨_, rfl⟩
        obtain ⟨r, hr⟩ := HR.out
        rw [← hr] at HK HQJ
        have HRE := Lib.hid hr
        clear hr HR hmj
        have HO : Hid (∀ u, Below wr.heap.size wr u → Calls Try.prog 174 #[r.v, .pointer (some ⟨b, 0, none⟩)] u fun e u' => e = .returned (.bool (decide (r.q < t))) ∧ Below u.heap.size u u') := Lib.hid (fun u hu => older_p r t b u HQJ (by
          have hbw : b < wr.heap.size := Nat.lt_of_lt_of_le hbl HG.out.size
          rw [hu.cell (p := ⟨b, 0, none⟩) hbw, World.cell?_of_block (grown_same HG.out hbl hgne)]
          exact HB.out) (Nat.lt_of_lt_of_le (Nat.lt_of_lt_of_le hbl HG.out.size) hu.size))
        have hal : Below wr.heap.size wr (wr.alloc (.cells r.cells 133)) := (Below.refl _ _).alloc (Nat.le_refl _) _
        have RB : RcAt (wr.alloc (.cells r.cells 133)) ⟨wr.heap.size, 0, none⟩ r := fun q v hv => by
          rw [add_spot]
          exact (cell_of_row _ _ q _ _ _ (heap_alloc_new wr _)).trans (by rw [← Array.getElem?_toList]; exact hv)
        go_wp2_with (refine wpList_load_rc rfl (.tmp 24) rfl ⟨g, j * 11, none⟩ r rfl HK.out ?_; refine Hid.out ?_)
        obtain ⟨rq, rid, rtime, rgen, rst, rsn, rty, rde, rd0, rd1, rd2⟩ := r
        simp only [Rc.v, Rc.cells] at hal RB HO HQJ ⊢
        replace hal := Lib.hid hal
        replace RB := Lib.hid RB
        refine Lib.hid ?_
        go_wp2_with (refine wpList_load_rc rfl (.tmp 7) rfl ⟨wr.heap.size, 0, none⟩ ⟨rq, rid, rtime, rgen, rst, rsn, rty, rde, rd0, rd1, rd2⟩ rfl RB.out ?_)
        refine (HO.out _ hal.out).mono ?_
        rintro e w3 ⟨rfl, hb3⟩
        have hb4 := hal.out.trans (hb3.mono hal.out.size)
        have hG4 := grown_below HG.out hb4
        have hM4 : w3.ownsRow base 133 11 (.slice (some ⟨g, 0, none⟩) n c) n (rcs m) := row_any HM.out (fun i hi => hb4.block i (World.ownsRow.lt HM.out _ hi).2)
        have hz3 : wr.heap.size < w3.heap.size := Nat.lt_of_lt_of_le (by simp) hb3.size
        have RB4 : RcAt w3 ⟨wr.heap.size, 0, none⟩ ⟨rq, rid, rtime, rgen, rst, rsn, rty, rde, rd0, rd1, rd2⟩ := RB.out.below hb3 (by simp)
        have htj := List.take_succ_eq_append_getElem hjl
        rw [← HRE.out] at htj
        have hdj : m.drop (j + 1) = l.drop (j + 1) := by
          have := congrArg (List.drop 1) HD.out
          rwa [List.drop_drop, List.drop_drop] at this
        have HDJ := Lib.hid hdj
        have HG4 := Lib.hid hG4
        have HM4 := Lib.hid hM4
        have HTJ := Lib.hid htj
        clear hb3 hb4 hG4 hM4 htj hdj HM HG RB hal HO HK
        by_cases hd : rq < t
        · have g0 : decide (rq < t) = true := by simpa using hd
          have HGD := Lib.hid g0
          clear hd RB4
          go_wp2_with fail
          refine ⟨⟨i, j + 1, m, by omega, by omega, HML.out, rfl, by go_num, ?_, HDJ.out, HM4.out, HG4.out⟩, by simp [intOf]; omega⟩
          rw [HT.out, HTJ.out, List.filter_append]
          simp [HGD.out]
        · have g0 : decide (rq < t) = false := by simpa using hd
          have HGD := Lib.hid g0
          clear hd
          have hth := own_there HM4.out (i * 11) 11 (by rw [rcs_len, HML.out]; omega)
          have hst := own_sets (Rc.mk rq ⟨rid, rtime, rgen, rst, rsn, rty, rde, rd0, rd1, rd2⟩).cells.toList (i * 11) _ _ HM4.out
          rw [rcs_set m i (by rw [HML.out]; omega)] at hst
          have RB5 := Lib.hid RB4
          have HTH := Lib.hid hth
          have HST := Lib.hid hst
          clear RB4 hth hst
          go_wp2_with (first
            | (refine wpList_load_rc rfl (.tmp 7) rfl ⟨wr.heap.size, 0, none⟩ ⟨rq, rid, rtime, rgen, rst, rsn, rty, rde, rd0, rd1, rd2⟩ rfl RB5.out ?_)
            | (refine wpList_store_mid rfl 133 (.tmp 33) (.tmp 32) rfl g (i * 11) (Rc.mk rq ⟨rid, rtime, rgen, rst, rsn, rty, rde, rd0, rd1, rd2⟩).cells rfl rfl HTH.out infoRc (rc_one _) ?_; refine Hid.out ?_))
          refine Lib.hid ?_
          generalize w3.setCells g (i * 11) (Rc.mk rq ⟨rid, rtime, rgen, rst, rsn, rty, rde, rd0, rd1, rd2⟩).cells.toList = w5 at *
          go_wp2_with fail
          refine ⟨⟨i + 1, j + 1, m.set i ⟨rq, rid, rtime, rgen, rst, rsn, rty, rde, rd0, rd1, rd2⟩, by omega, by omega, by rw [List.length_set]; exact HML.out, by go_num, by go_num, ?_, ?_, HST.out.1, grown_trans HG4.out HST.out.2⟩, by simp [intOf]; omega⟩
          · rw [HTJ.out, List.filter_append, ← HT.out, List.take_succ_eq_append_getElem (by rw [List.length_set, HML.out]; omega), List.getElem_set_self, List.take_set_of_le (Nat.le_refl _)]
            simp [HGD.out]
          · rw [List.drop_set_of_lt (by omega)]
            exact HDJ.out
      · have b0 : decide ((j : Int) < (n : Int)) = false := by simp; omega
        obtain rfl : j = n := by omega
        have hth := own_there HM.out (i * 11) ((j - i) * 11) (by rw [rcs_len, HML.out, ← Nat.add_mul]; exact Nat.mul_le_mul_right _ (by omega))
        have hclr := run_clear_rc wr 0 g (i * 11) (j - i) (c - i) hth
        have hst := own_sets (flatN (j - i)) (i * 11) _ _ HM.out
        have HST := Lib.hid hst
        have hlt2 : l.take j = l := List.take_of_length_le (by have := HN.out; omega)
        have HLT := Lib.hid hlt2
        clear hth hst hlt2 HM
        go_wp2_with fail
        go_ret
        have h1 := own_trunc HST.out.1 i (by omega)
        rw [sets_take _ _ _ _ (Nat.le_refl _), rcs_take m i (by rw [HML.out]; omega)] at h1
        have h2 := HT.out
        rw [HLT.out] at h2
        have h3 : (m.take i).length = i := by rw [List.length_take, HML.out]; omega
        refine ⟨_, rfl, ?_, grown_trans HG.out HST.out.2, rfl⟩
        unfold ROwn
        rw [← h2, h3]
        exact h1
end Go.Proofs.Ytekhpcfggbegaaa.G9
