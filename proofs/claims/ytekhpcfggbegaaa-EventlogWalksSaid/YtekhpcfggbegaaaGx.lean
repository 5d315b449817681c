/- Walks: Get of a log that lives. -/
import Derived.Test.YtekhpcfggbegaaaGw
import Derived.Test.YtekhpcfggbegaaaGs
namespace Go.Proofs.Ytekhpcfggbegaaa.G9
open Go.RowKit Go.Proofs.Ytekhpcfggbegaaa.Mem Go.Proofs.Ytekhpcfggbegaaa.E5p Go.Proofs.Ytekhpcfggbegaaa.E5m Go.Proofs.Ytekhpcfggbegaaa.E5a Go.Proofs.Ytekhpcfggbegaaa.E5d Go.Proofs.Ytekhpcfggbegaaa.V7 Go.Proofs.Ytekhpcfggbegaaa.V9
set_option maxRecDepth 100000
set_option maxHeartbeats 4000000

section
variable {B : Nat} {W w w' : World} {d : Sh} {s s' : Fl} {m m' g n n' : Nat} {rv rv' : Value} {L L' : Lg}
theorem getR_no {l : List Rc} {i : Nat} (h : l.any (isId i) = false) : getR l i = (Ev.none, 0, 8) := by
  unfold getR
  have : l.findIdx (isId i) = l.length := List.findIdx_eq_length.2 fun x hx => by
    cases e : isId i x
    · rfl
    · exact absurd (List.any_eq_true.2 ⟨x, hx, e⟩) (by rw [h]; decide)
  rw [this, List.drop_length]
theorem getR_last {l : List Rc} {i k : Nat} (hk : l.findIdx (isId i) = k) (hl : k + 1 = l.length) : getR l i = ((l[k]'(by omega)).e, 0, 0) := by
  unfold getR
  rw [hk, List.drop_eq_getElem_cons (by omega), List.drop_eq_nil_of_le (by omega)]
theorem getR_more {l : List Rc} {i k : Nat} (hk : l.findIdx (isId i) = k) (hl : k + 1 < l.length) : getR l i = ((l[k]'(by omega)).e, l[k + 1].e.id, 0) := by
  unfold getR
  rw [hk, List.drop_eq_getElem_cons (by omega), List.drop_eq_getElem_cons hl]
theorem get_no (h : LA B W w d s m g rv L n) (i : Nat) (hany : L.recs.any (isId i) = false) : Calls Try.prog 48 #[.pointer (some ⟨g, 0, none⟩), .int .u16 (i : Int)] w fun e w' => e = .returned (.tuple #[Ev.none.v, .int .u16 0, .int .i64 8]) ∧ Below w.heap.size w w' := by
  have hlg := h.lg
  have c8 := h.c8
  obtain ⟨A, n8, c, rfl, hs⟩ := h.own.sl
  have hA1 : Below w.heap.size w (w.alloc (.cells #[.int .u16 (i : Int)] 30)) := (Below.refl _ _).alloc (Nat.le_refl _) _
  have hA2 : Below w.heap.size w ((w.alloc (.cells #[.int .u16 (i : Int)] 30)).alloc (.cells Ev.none.cells 89)) := hA1.alloc (by simp) _
  have hcb : ((w.alloc (.cells #[.int .u16 (i : Int)] 30)).alloc (.cells Ev.none.cells 89)).cell? ⟨w.heap.size, 0, none⟩ = some (.int .u16 (i : Int)) := cell_of_row _ _ 0 _ _ _ ((heap_alloc_old (w.alloc _) _ (by simp)).trans (heap_alloc_new w _))
  have hszb : w.heap.size < ((w.alloc (.cells #[.int .u16 (i : Int)] 30)).alloc (.cells Ev.none.cells 89)).heap.size := by simp; omega
  have HI := index_p 84 (.pointer (some ⟨w.heap.size, 0, none⟩)) (isId i) A n8 c L.recs _ (.inr rfl) (hs.step hA2) (fun r _ u hu => isid_p r i w.heap.size u ((hu.cell (p := ⟨w.heap.size, 0, none⟩) hszb).trans hcb) (Nat.lt_of_lt_of_le hszb hu.size))
  have HI := Lib.hid HI
  have hix : ixOf (isId i) L.recs = -1 := by unfold ixOf; rw [hany]; rfl
  have HX := Lib.hid hix
  clear h hs hany hA1 hA2 hcb hszb hix
  generalize L.recs = l at *
  go_enter Try.func48, Try.ntmps48
  go_wp2_with fail
  refine (show Calls Try.prog _ _ _ _ from HI.out).mono ?_
  rintro e w1 ⟨rfl, hb1⟩
  rw [HX.out]
  have hA1 : Below w.heap.size w (w.alloc (.cells #[.int .u16 (i : Int)] 30)) := (Below.refl _ _).alloc (Nat.le_refl _) _
  have hA2 : Below w.heap.size w ((w.alloc (.cells #[.int .u16 (i : Int)] 30)).alloc (.cells Ev.none.cells 89)) := hA1.alloc (by simp) _
  have hsz : w.heap.size + 1 = (w.alloc (.cells #[.int .u16 (i : Int)] 30)).heap.size := by simp
  have hB0 : Box ((w.alloc (.cells #[.int .u16 (i : Int)] 30)).alloc (.cells Ev.none.cells 89)) (w.heap.size + 1) Ev.none := by
    rw [hsz]
    exact Box.new _ _
  have hb1' : Below ((w.alloc (.cells #[.int .u16 (i : Int)] 30)).alloc (.cells Ev.none.cells 89)).heap.size ((w.alloc (.cells #[.int .u16 (i : Int)] 30)).alloc (.cells Ev.none.cells 89)) w1 := hb1
  have hB1 := hB0.below hb1' hB0.lt
  have hW := hA2.trans (hb1'.mono hA2.size)
  have HB1 := Lib.hid hB1
  have HW := Lib.hid hW
  clear hA1 hA2 hsz hB0 hb1' hb1 hB1 hW HX HI
  go_wp2_with (refine wpList_store_box rfl (.tmp 4) (.tmp 16) rfl (w.heap.size + 1) Ev.none Ev.none rfl rfl HB1.out ?_; intro w2 hB2 hg2; refine Hid.out ?_)
  refine Lib.hid ?_
  have HB2 := Lib.hid hB2
  have HW2 := Lib.hid (HW.out.grown hg2 HW.out.size (fun q hq => by injection hq with hq; rw [← hq]; exact Nat.le_succ _))
  clear hB2 hg2 HB1
  go_wp2_with fail
  exact out_box3 (p := 4) (q := 5) (q2 := 6) Try.results48 rfl rfl rfl rfl HB2.out ⟨rfl, HW2.out⟩
theorem get_some (h : LA B W w d s m g rv L n) (hn : n ≤ 900) (i : Nat) (hany : L.recs.any (isId i) = true) : Calls Try.prog 48 #[.pointer (some ⟨g, 0, none⟩), .int .u16 (i : Int)] w fun e w' => e = .returned (.tuple #[(getR L.recs i).1.v, .int .u16 ((getR L.recs i).2.1 : Int), .int .i64 (getR L.recs i).2.2]) ∧ Below w.heap.size w w' := by
  have hlg := h.lg
  have hmany := h.ok.many
  have c8 := h.c8
  have hh := h.head
  have hkl : L.recs.findIdx (isId i) < L.recs.length := List.findIdx_lt_length.2 (List.any_eq_true.1 hany)
  obtain ⟨ga, c0, hrv, _, _, _⟩ := rown_form h.own (show 0 < L.recs.length by omega)
  obtain ⟨A, n8, c, hrv2, hs⟩ := h.own.sl
  obtain rfl : A = some ⟨ga, 0, none⟩ := by rw [hrv] at hrv2; injection hrv2 with h1 _ _; exact h1.symm
  subst hrv2
  clear hrv
  have hn8 : n8 = L.recs.length := hs.len
  have hcm : c ≤ 2 ^ 63 - 1 := hs.max
  have hA1 : Below w.heap.size w (w.alloc (.cells #[.int .u16 (i : Int)] 30)) := (Below.refl _ _).alloc (Nat.le_refl _) _
  have hA2 : Below w.heap.size w ((w.alloc (.cells #[.int .u16 (i : Int)] 30)).alloc (.cells Ev.none.cells 89)) := hA1.alloc (by simp) _
  have hcb : ((w.alloc (.cells #[.int .u16 (i : Int)] 30)).alloc (.cells Ev.none.cells 89)).cell? ⟨w.heap.size, 0, none⟩ = some (.int .u16 (i : Int)) := cell_of_row _ _ 0 _ _ _ ((heap_alloc_old (w.alloc _) _ (by simp)).trans (heap_alloc_new w _))
  have hszb : w.heap.size < ((w.alloc (.cells #[.int .u16 (i : Int)] 30)).alloc (.cells Ev.none.cells 89)).heap.size := by simp; omega
  have HI := index_p 84 (.pointer (some ⟨w.heap.size, 0, none⟩)) (isId i) (some ⟨ga, 0, none⟩) n8 c L.recs _ (.inr rfl) (hs.step hA2) (fun r _ u hu => isid_p r i w.heap.size u ((hu.cell (p := ⟨w.heap.size, 0, none⟩) hszb).trans hcb) (Nat.lt_of_lt_of_le hszb hu.size))
  have hsz : w.heap.size + 1 = (w.alloc (.cells #[.int .u16 (i : Int)] 30)).heap.size := by simp
  have hB0 : Box ((w.alloc (.cells #[.int .u16 (i : Int)] 30)).alloc (.cells Ev.none.cells 89)) (w.heap.size + 1) Ev.none := by
    rw [hsz]
    exact Box.new _ _
  have HI := Lib.hid HI
  have HS := Lib.hid hs
  have HH := Lib.hid hh
  have HN8 := Lib.hid hn8
  have HA2 := Lib.hid hA2
  have HB0 := Lib.hid hB0
  have hix : ixOf (isId i) L.recs = ((L.recs.findIdx (isId i) : Nat) : Int) := by unfold ixOf; rw [if_pos hany]
  have hm8 : n8 ≤ 1000 := by omega
  clear h hs hh hmany hn hA1 hA2 hcb hszb hB0 hsz
  generalize L.recs = l at *
  obtain ⟨k, hk⟩ : ∃ k, k = l.findIdx (isId i) := ⟨_, rfl⟩
  rw [← hk] at hix hkl
  have HK := Lib.hid hk
  have HX := Lib.hid hix
  have hkn : k < n8 := by omega
  clear hk hix hn8
  go_enter Try.func48, Try.ntmps48
  go_wp2_with fail
  refine (show Calls Try.prog _ _ _ _ from HI.out).mono ?_
  rintro e w1 ⟨rfl, hb1⟩
  rw [HX.out]
  have hb1' : Below ((w.alloc (.cells #[.int .u16 (i : Int)] 30)).alloc (.cells Ev.none.cells 89)).heap.size ((w.alloc (.cells #[.int .u16 (i : Int)] 30)).alloc (.cells Ev.none.cells 89)) w1 := hb1
  have HB1 := Lib.hid (HB0.out.below hb1' HB0.out.lt)
  have hW := HA2.out.trans (hb1'.mono HA2.out.size)
  have HW := Lib.hid hW
  have d8 : w1.cell? ⟨g, 8, none⟩ = some (.slice (some ⟨ga, 0, none⟩) n8 c) := (hW.cell hlg).trans c8
  have hS1 := HS.out.step hW
  clear hb1' hb1 hW HB0 HI HA2 c8
  obtain ⟨a1, ha1, hab1, hrk⟩ := rrow_at hS1.row (k := k) hkl
  injection ha1 with ha1
  subst ha1
  have hEv : EvAt w1 ⟨ga, k * 11 + 1, none⟩ l[k].e := by
    have h := hrk.ev
    rwa [show ((⟨ga, 0, none⟩ : Addr).add (k * 11)).add 1 = ⟨ga, k * 11 + 1, none⟩ by rw [add_add]; simp [Addr.add]] at h
  have hk1 : IntKind.i64.wrap ((k : Int) + 1) = (k : Int) + 1 := IntWalk.i64_in _ ⟨by omega, by omega⟩
  have hk0 : decide ((k : Int) < 0) = false := decide_eq_false (by omega)
  by_cases hl : k + 1 < n8
  · have hd : decide ((k : Int) + 1 < (n8 : Int)) = true := decide_eq_true (by omega)
    have g1 : ((k : Int) + 1) < (n8 : Int) := by omega
    obtain ⟨a2, ha2, _, hr2⟩ := rrow_at hS1.row (k := k + 1) (by rw [← HN8.out]; exact hl)
    injection ha2 with ha2
    subst ha2
    have hid : w1.cell? ⟨ga, (k + 1) * 11 + 1, none⟩ = some (.int .u16 ((l[k + 1]'(by rw [← HN8.out]; exact hl)).e.id : Int)) := by
      have h := hr2 1 _ rfl
      rwa [show ((⟨ga, 0, none⟩ : Addr).add ((k + 1) * 11)).add 1 = ⟨ga, (k + 1) * 11 + 1, none⟩ by rw [add_add]; simp [Addr.add]] at h
    have HG := Lib.hid (getR_more HK.out.symm (by rw [← HN8.out]; exact hl))
    clear hS1 hrk hr2
    go_wp2_with (first | (refine wpList_load_ev rfl (.tmp 41) rfl ⟨ga, k * 11 + 1, none⟩ (l[k]).e rfl hEv ?_) | (refine wpList_store_box rfl (.tmp 4) (.tmp 42) rfl (w.heap.size + 1) (l[k]).e Ev.none rfl rfl HB1.out ?_; intro w2 hB2 hg2; refine Hid.out ?_))
    refine Lib.hid ?_
    have HB2 := Lib.hid hB2
    have HW2 := Lib.hid (HW.out.grown hg2 HW.out.size (fun q hq => by injection hq with hq; rw [← hq]; exact Nat.le_succ _))
    clear hB2 hg2 HB1
    go_wp2_with fail
    refine out_box3 (p := 4) (q := 5) (q2 := 6) Try.results48 rfl rfl rfl rfl HB2.out ⟨?_, HW2.out⟩
    rw [HG.out]
    rfl
  have hd : decide ((k : Int) + 1 < (n8 : Int)) = false := decide_eq_false (by omega)
  have HG := Lib.hid (getR_last HK.out.symm (by rw [← HN8.out]; omega))
  clear hS1 hrk
  go_wp2_with (first | (refine wpList_load_ev rfl (.tmp 41) rfl ⟨ga, k * 11 + 1, none⟩ (l[k]).e rfl hEv ?_) | (refine wpList_store_box rfl (.tmp 4) (.tmp 42) rfl (w.heap.size + 1) (l[k]).e Ev.none rfl rfl HB1.out ?_; intro w2 hB2 hg2; refine Hid.out ?_))
  refine Lib.hid ?_
  have HB2 := Lib.hid hB2
  have HW2 := Lib.hid (HW.out.grown hg2 HW.out.size (fun q hq => by injection hq with hq; rw [← hq]; exact Nat.le_succ _))
  clear hB2 hg2 HB1
  go_wp2_with fail
  refine out_box3 (p := 4) (q := 5) (q2 := 6) Try.results48 rfl rfl rfl rfl HB2.out ⟨?_, HW2.out⟩
  rw [HG.out]
  rfl
theorem get_p (h : LA B W w d s m g rv L n) (hn : n ≤ 900) (i : Nat) : Calls Try.prog 48 #[.pointer (some ⟨g, 0, none⟩), .int .u16 (i : Int)] w fun e w' => e = .returned (.tuple #[(getR L.recs i).1.v, .int .u16 ((getR L.recs i).2.1 : Int), .int .i64 (getR L.recs i).2.2]) ∧ Below w.heap.size w w' := by
  cases hany : L.recs.any (isId i)
  · rw [getR_no hany]; exact get_no h i hany
  · exact get_some h hn i hany
end
end Go.Proofs.Ytekhpcfggbegaaa.G9
