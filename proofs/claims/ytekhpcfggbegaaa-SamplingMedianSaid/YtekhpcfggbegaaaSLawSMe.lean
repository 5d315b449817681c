/- SamplingMedian holds for every input: there is a reading exactly if enough samples arrived since the last long gap, and half of the window is on each side of it. No condition. -/
import Derived.Test.YtekhpcfggbegaaaS46
import Derived.Test.YtekhpcfggbegaaaS47
import Derived.Test.YtekhpcfggbegaaaS52
import Derived.Test.YtekhpcfggbegaaaS54
import Derived.Deep.Cut
namespace Go.Proofs.Ytekhpcfggbegaaa.samplingMedian
open Go.RowKit Go.ChangeShapes Go.WideShapes Go.ChangeAt Go.Proofs.Ytekhpcfggbegaaa.Mem Go.Proofs.Ytekhpcfggbegaaa.F2p Go.Proofs.Ytekhpcfggbegaaa.C4l Go.Proofs.Ytekhpcfggbegaaa.Ta Go.Proofs.Ytekhpcfggbegaaa.Tb Go.Proofs.Ytekhpcfggbegaaa.Law Go.Proofs.Ytekhpcfggbegaaa.Made Go.Proofs.Ytekhpcfggbegaaa.D5 Go.Proofs.Ytekhpcfggbegaaa.Tl Go.Proofs.Ytekhpcfggbegaaa.Ja Go.Proofs.Ytekhpcfggbegaaa.Jd Go.Proofs.Ytekhpcfggbegaaa.Jk
set_option maxRecDepth 100000
set_option maxHeartbeats 4000000

theorem name_le {s : Sn} (hv : vs s = true) : s.nm.size ≤ maxLen := by
  unfold vs okn at hv
  simp only [Bool.and_eq_true] at hv
  have h := of_decide_eq_true hv.1.1
  rw [bl_len] at h
  unfold maxLen; omega
theorem vs_wide {s : Sn} (h : vs s = true) : s.sm = 1 ∨ s.sm = 3 ∨ s.sm = 5 := by
  unfold vs at h
  simp only [Bool.and_eq_true] at h
  have := h.2.1
  unfold wid at this
  simpa using this
theorem runL_len (s : Bool) (l : List Tk) : (Jn.runL s l).1.length ≤ l.length ∧ (Jn.runL s l).2 ≤ l.length := by
  unfold Jn.runL
  suffices ∀ (m : List Tk) (q : List Int × Nat) (k : Nat), q.1.length ≤ k → q.2 ≤ k → (m.foldl (Jn.nxL s) q).1.length ≤ k + m.length ∧ (m.foldl (Jn.nxL s) q).2 ≤ k + m.length from by
    have := this l ([], 0) 0 (Nat.le_refl _) (Nat.le_refl _)
    simpa using this
  intro m
  induction m with
  | nil => intro q k h1 h2; exact ⟨h1, h2⟩
  | cons t m ih =>
    intro q k h1 h2
    have := ih (Jn.nxL s q t) (k + 1) (by unfold Jn.nxL; split; · simp; omega
                                          · split; · simp
                                            · simp; omega) (by unfold Jn.nxL; split; · simp
                                                               · split; · simp; omega
                                                                 · simp; omega)
    rw [List.foldl_cons, List.length_cons]
    omega
theorem infoI : (Try.prog.info? 3).map (fun i => (i.zero, i.size, i.bytes)) = some (some (.int .i64 0), 1, 8) := by kernel_rfl
/-- A row of integers of the call's own. -/
def IOw (base : Nat) (w : World) (v : Value) (l : List Int) : Prop := w.ownsRow base 3 1 v l.length (ivs l)
theorem IOw.nil {base : Nat} {w : World} : IOw base w (.slice none 0 0) [] := ⟨by simp [ivs], .inl ⟨rfl, by simp⟩⟩
theorem IOw.below {base B : Nat} {w w' : World} {v : Value} {l : List Int} (h : IOw base w v l) (hb : Below B w w') (hB : w.heap.size ≤ B) : IOw base w' v l := own_below h hb hB
theorem IOw.form {base : Nat} {w : World} {v : Value} {l : List Int} (h : IOw base w v l) : ∃ A c, v = .slice A l.length c ∧ l.length ≤ c ∧ c ≤ maxLen ∧ IRow w.heap.size w A l ∧ (A = none → c = 0) := by
  obtain ⟨A, c, rfl, h1, h2⟩ := own_form h
  refine ⟨A, c, rfl, h1, h2, own_rd h, fun e => ?_⟩
  rcases h.2 with ⟨hv, _⟩ | ⟨g, cap, cur, hv, _⟩
  · injection hv
  · subst e; cases hv
theorem IOw.app {base : Nat} {w : World} {v : Value} {l : List Int} {x : Int} (h : w.ownsRow base 3 1 v (l.length + 1) (ivs l ++ [.int .i64 x])) : IOw base w v (l ++ [x]) := by
  unfold IOw ivs
  rw [List.length_append, List.map_append]
  exact h
theorem IOw.some_ {base : Nat} {w : World} {v : Value} {l : List Int} (h : IOw base w v l) (hl : 0 < l.length) : ∃ g c, v = .slice (some ⟨g, 0, none⟩) l.length c ∧ l.length ≤ c ∧ c ≤ maxLen ∧ base ≤ g ∧ g < w.heap.size ∧ ∀ k (hk : k < l.length), w.cell? ⟨g, k, none⟩ = some (.int .i64 l[k]) := by
  have hlt := World.ownsRow.lt h
  rcases h.2 with ⟨_, h0⟩ | ⟨g, cap, cur, hv, hg, hh, h1, h2, _⟩
  · omega
  · subst hv
    refine ⟨g, cap, rfl, h1, h2, hg, (hlt g rfl).2, fun k hk => ?_⟩
    have := World.ownsRow.cells h (g := g) rfl k _ (List.getElem?_eq_getElem (by rw [len_ivs]; exact hk))
    rw [add_spot] at this
    rw [this]; simp [ivs]
theorem take_cnt (p : Int → Bool) {W : List Int} {k : Nat} (h : k < W.length) : (W.take (k + 1)).countP p = (W.take k).countP p + if p (W.getD k 0) = true then 1 else 0 := by
  rw [List.take_succ_eq_append_getElem h, List.countP_append, List.countP_singleton, List.getD_eq_getElem?_getD, List.getElem?_eq_getElem h]
  rfl
theorem cnt_le (p : Int → Bool) (W : List Int) (k : Nat) : (W.take k).countP p ≤ k := Nat.le_trans List.countP_le_length (by rw [List.length_take]; omega)
theorem walk (A : Option Addr) (n c : Nat) (l : List Int) (hn : n = l.length) (hw : ∀ x ∈ l, -9223372036854775808 ≤ x ∧ x ≤ 9223372036854775807) (hc : n ≤ c) (hm : c ≤ maxLen) (_hA : A = none → c = 0)
    (TA : Option Addr) (tn tc : Nat) (tl : List Tk) (w : World) (hr : IRow w.heap.size w A l) (ht : TSl w TA tn tc tl) :
    Calls Try.prog 4 #[.slice A n c, .slice TA tn tc] w fun e w' => e = .returned (.bool true) ∧ Below w.heap.size w w' := by
  have hnm : n ≤ maxLen := by omega
  have htm : tn ≤ maxLen := Nat.le_trans ht.cap ht.max
  unfold maxLen at htm
  have HN := Lib.hid hn
  have HW := Lib.hid hw
  clear hn hw hc hm _hA
  have haw := Lib.hid (fun u => Jk.awake_any u)
  by_cases h6 : n ≤ 600
  case neg =>
    have d6 : decide (n ≤ 600) = false := decide_eq_false h6
    go_enter Try.func4, Try.ntmps4
    go_wp2_with fail
    refine (Made.lightmade_any A n c _ hnm).mono ?_
    rintro e w' ⟨rfl, rfl⟩
    rw [d6]
    go_wp2_with fail
    refine (haw.out _).mono ?_
    rintro e w3 ⟨rfl, hb3⟩
    go_wp2_with fail
    go_ret
    exact ⟨rfl, hb3⟩
  have d6 : decide (n ≤ 600) = true := decide_eq_true h6
  go_enter Try.func4, Try.ntmps4
  go_wp2_with fail
  refine (Made.lightmade_any A n c _ hnm).mono ?_
  rintro e w' ⟨rfl, rfl⟩
  rw [d6]
  by_cases h60 : tn ≤ 60
  case neg =>
    have h60d : decide (60 < (tn : Int)) = true := decide_eq_true (by omega)
    go_wp2_with fail
    refine (haw.out _).mono ?_
    rintro e w3 ⟨rfl, hb3⟩
    go_wp2_with fail
    go_ret
    exact ⟨rfl, hb3⟩
  have h60d : decide (60 < (tn : Int)) = false := decide_eq_false (by omega)
  go_wp2_with fail
  refine (Made.roll_any A n c w).mono ?_
  rintro e w1 ⟨rfl, rfl⟩
  have hdz := Dz.start A n c l w hr HN.out HW.out (by omega)
  have hb1 : Below w.heap.size w (w.alloc (.cells #[.slice A n c, .int .i64 0] 99)) := (Below.refl _ _).alloc (Nat.le_refl _) _
  have hs1 : w.heap.size < (w.alloc (.cells #[.slice A n c, .int .i64 0] 99)).heap.size := by rw [World.size_alloc]; omega
  generalize w.alloc (.cells #[.slice A n c, .int .i64 0] 99) = w1 at *
  go_wp2_with fail
  refine (analog_any 1 hdz).mono ?_
  rintro e w2 ⟨s, V, rfl, hv, hfit, hnu, hd, hown, hdz2, hg2⟩
  obtain ⟨PA, pn, pc, rfl, hps⟩ := hown.sl
  have hnms := name_le hv
  have hb2 : Below w.heap.size w w2 := hb1.grown hg2 hb1.size (fun k hk => by injection hk; omega)
  have hz := Bx.zero w2
  have hba := (Below.refl w2.heap.size w2).alloc (Nat.le_refl _) (.cells #[.int .u8 0, .int .u8 0, .int .u8 0, .string ⟨#[]⟩, .int .u8 0, .int .u8 0, .bool false, .int .i64 0, .bool false, .int .i64 0, .int .i64 0, .int .i64 0, .int .i64 0, .slice none 0 0, .int .u8 0, .int .u8 0, .int .u8 0, .int .u8 0, .int .u8 0, .int .u8 0, .int .u8 0, .int .u8 0, .int .u8 0, .int .u16 0, .int .u16 0, .int .u16 0, .bool false, .int .i64 0] 32)
  clear hfit hnu hg2 hb1 hdz hd
  go_wp2_with (refine wpList_store_bx rfl (.tmp 5) (.tmp 30) rfl w2.heap.size s noSn (.slice PA pn pc) (.slice none 0 0) rfl rfl rfl hz ?_; intro w3 hx3 hg3; refine Hid.out ?_)
  refine Lib.hid ?_
  have hba := hba.grown hg3 hba.size (fun k hk => by injection hk; omega)
  have hps := hps.step hba
  have hlt2 := hdz2.lt
  have hdz := hdz2.below hba hlt2
  have hgw : w.heap.size ≤ w2.heap.size := hb2.size
  have hbb := hb2.trans (hba.mono hb2.size)
  obtain ⟨K, hK⟩ : ∃ K : Nat, s.sm = (K : Int) := by
    have := (vs_wide hv)
    exact ⟨s.sm.toNat, by omega⟩
  have hK5 : K = 1 ∨ K = 3 ∨ K = 5 := by have := vs_wide hv; omega
  clear hba hg3 hz hdz2 hb2 hown
  have ht3 := ht.step hbb
  have HRUN := Lib.hid (run_p s PA pn pc K TA tn tc tl w3 hps hnms hv hK ht3 (by omega))
  have HTL := Lib.hid ht.len
  have HT := Lib.hid ht
  have HRL := Lib.hid (Jn.Rl.run s.c.s K (by omega) tl)
  have hok := okF_run K tl
  obtain ⟨f, hfe⟩ : ∃ f, f = runF K tl := ⟨_, rfl⟩
  rw [← hfe] at HRUN HRL hok
  have HRD := Lib.hid fun (u : World) FA fn fc (hp : PSl u PA pn pc s.c.p) (hf : Sl u FA fn fc f.1) => read_p s PA pn pc FA fn fc f.1 f.2 u hp hnms hf
  have hvf := okF_vf hok
  have hful : full s f.1 f.2 = decide (K ≤ (Jn.runL s.c.s tl).1.length) := by
    unfold full
    rw [hv, hK, hvf, ← HRL.out.full, Bool.true_and]
    by_cases e : f.1.length = K
    · rw [decide_eq_true e, decide_eq_true (by omega)]
    · rw [decide_eq_false e, decide_eq_false (by omega)]
  rw [hful] at HRD
  have HK := Lib.hid hK
  have H5 := Lib.hid hK5
  have HPS := Lib.hid hps
  have HOK := Lib.hid hok
  have hw3 : w2.heap.size < w3.heap.size := hx3.lt
  clear ht ht3 hps hv hfe hful hvf hok hK hK5 hnms hs1 hdz
  go_wp2_with (refine wpList_load_bx rfl (.tmp 5) rfl _ _ _ rfl hx3 ?_)
  refine HRUN.out.mono ?_
  rintro e w4 ⟨FA, fn, fc, rfl, hs4, hb4⟩
  have hx4 := hx3.below hb4
  have hb5 := (Below.refl w4.heap.size w4).alloc (Nat.le_refl _) (.cells #[.slice FA fn fc, .int .i64 f.2] 35)
  have hf5 : FBx (w4.alloc (.cells #[.slice FA fn fc, .int .i64 f.2] 35)) w4.heap.size (.slice FA fn fc) f.2 := heap_alloc_new w4 _
  have hx5 := hx4.below hb5
  have hs5 := hs4.step hb5
  have hbb5 := (hbb.trans (hb4.mono hbb.size)).trans (hb5.mono (Nat.le_trans hbb.size hb4.size))
  have hw5 : w2.heap.size < w4.heap.size := Nat.lt_of_lt_of_le hw3 hb4.size
  have hp5 := HPS.out.step (hb4.trans (hb5.mono hb4.size))
  clear hx3 hx4 hs4 HRUN hb4 hbb HPS
  go_wp2_with fail
  generalize w4.alloc (.cells #[.slice FA fn fc, .int .i64 f.2] 35) = w5 at *
  obtain ⟨i0, hi0, hz0, hz1, hzq⟩ := info_parts infoI
  have HN4 := Lib.hid fun (t : Tk) (u : World) => C4v.number_r s.c.s t.r u
  have hbt : w.heap.size ≤ w5.heap.size := hbb5.size
  have hw25 : w2.heap.size < w5.heap.size := hx5.lt
  have x8 := c8 hx5
  go_loopw [8, 9, 10] (fun v g j wr => ∃ (i : Nat), i ≤ tn ∧ j = .int .i64 (i : Int) ∧ g = .int .i64 ((Jn.runL s.c.s (tl.take i)).2 : Int) ∧ IOw w5.heap.size wr v (Jn.runL s.c.s (tl.take i)).1 ∧ Below w5.heap.size w5 wr) (fun _ _ j _ => tn - (intOf j).toNat)
  case atStart => exact ⟨0, Nat.zero_le _, rfl, rfl, IOw.nil, Below.refl _ _⟩
  case round =>
    obtain ⟨i, hi, rfl, rfl, hown, hbr⟩ := hrel
    have hnx := fun h => Jn.runL_take (s := s.c.s) (l := tl) (i := i) h
    obtain ⟨hl1, hl2⟩ := runL_len s.c.s (tl.take i)
    rw [List.length_take] at hl1 hl2
    obtain ⟨q, hq⟩ : ∃ q, q = Jn.runL s.c.s (tl.take i) := ⟨_, rfl⟩
    rw [← hq] at hown hnx hl1 hl2 ⊢
    have HQ := Lib.hid hq
    clear hq
    by_cases hlt : i < tn
    · have d0 : decide ((i : Int) < (tn : Int)) = true := decide_eq_true (by omega)
      have hil : i < tl.length := by rw [← HTL.out]; exact hlt
      obtain ⟨p, rfl, hpb, h0, h1⟩ := trow_at (HT.out.step (hbb5.trans (hbr.mono hbt))).row hil
      have hpw : p.block < w.heap.size := by
        obtain ⟨p', e, hpb', -, -⟩ := trow_at HT.out.row hil
        injection e with e
        rw [e]; exact hpb'
      have hnx := hnx hil
      obtain ⟨t, hte⟩ : ∃ t, t = tl[i] := ⟨_, rfl⟩
      rw [← hte] at h0 h1 hnx
      have h1' : wr.cell? ⟨(p.add (i * 2)).block, (p.add (i * 2)).off + 1, none⟩ = some (.bool t.m) := by rw [← h1, ← add_add]; rfl
      have n1 : (0 : Int) ≤ (i : Int) := by omega
      have n2 : (i : Int) < (tn : Int) := by omega
      have HNX := Lib.hid hnx
      have HLL := Lib.hid (show q.1.length ≤ i ∧ q.2 ≤ i by omega)
      clear h1 hte hnx hl1 hl2 hpb
      by_cases htm2 : t.m = false
      · rw [htm2] at h1'
        have hnx : Jn.runL s.c.s (tl.take (i + 1)) = (q.1 ++ [C4p.num s.c.s t.r], 0) := by rw [HNX.out]; unfold Jn.nxL; rw [if_pos htm2]
        have HNX2 := Lib.hid hnx
        have KEEP : Hid (∀ U, Below w5.heap.size w5 U → U.cell? ⟨w2.heap.size, 8, none⟩ = some (.bool s.c.s) ∧ U.cell? (p.add (i * 2)) = some (.int .u8 (t.r.toNat : Int))) := Lib.hid fun U hU =>
          ⟨(hU.cell (p := ⟨w2.heap.size, 8, none⟩) hw25).trans x8, (hU.cell (p := p.add (i * 2)) (by rw [add_block]; omega)).trans ((hbr.cell (p := p.add (i * 2)) (by rw [add_block]; omega)).symm.trans h0)⟩
        have hbr2 := hbr.alloc hbr.size (.cells #[.int .i64 (C4p.num s.c.s t.r)] 3)
        have hown2 := World.ownsRow.alloc hown (.cells #[.int .i64 (C4p.num s.c.s t.r)] 3)
        have hnew := Rd.new wr #[.int .i64 (C4p.num s.c.s t.r)] 3
        have hll := HLL.out
        clear hnx
        go_wp2_with fail
        refine wp_region_held_drew (S := (fun W => W.cell? ⟨w2.heap.size, 8, none⟩ = some (.bool s.c.s) ∧ W.cell? (p.add (i * 2)) = some (.int .u8 (t.r.toNat : Int)))) (by kernel_rfl) ?_ (fun hHeld => ?_)
        · (try dsimp only); exact KEEP.out _ (below_drew hbr)
        refine wpAnyH_take (i := 0) (oi := _) (v := ?vq1_0) rfl (by kernel_rfl) (by kernel_rfl) (by kernel_rfl) (fun _ _ _ h => h) (Or.inl ⟨rfl, ?yq1_0⟩) (by assumption) ?_
        case yq1_0 => intro w hSw; obtain ⟨hS1, hS2⟩ := hSw; (try dsimp only at hSw); go_simp; (try with_reducible rfl)
        (try simp only [Act.put, List.getElem_toArray, List.getElem_cons_zero, List.setIfInBounds_toArray, List.set_cons_zero, List.set_cons_succ])
        refine wpAnyH_take (i := 1) (oi := _) (v := ?vq2_1) rfl (by kernel_rfl) (by kernel_rfl) (by kernel_rfl) (fun _ _ _ h => h) (Or.inl ⟨rfl, ?yq2_1⟩) (by assumption) ?_
        case yq2_1 => intro w hSw; obtain ⟨hS1, hS2⟩ := hSw; (try dsimp only at hSw); go_simp; (try with_reducible rfl)
        (try simp only [Act.put, List.getElem_toArray, List.getElem_cons_succ, List.getElem_cons_zero, List.setIfInBounds_toArray, List.set_cons_zero, List.set_cons_succ])
        refine wpAnyH_take (i := 2) (oi := _) (v := ?vq3_2) rfl (by kernel_rfl) (by kernel_rfl) (by kernel_rfl) (fun _ _ _ h => h) (Or.inl ⟨rfl, ?yq3_2⟩) (by assumption) ?_
        case yq3_2 => intro w hSw; obtain ⟨hS1, hS2⟩ := hSw; (try dsimp only at hSw); go_simp; (try with_reducible rfl)
        (try simp only [Act.put, List.getElem_toArray, List.getElem_cons_succ, List.getElem_cons_zero, List.setIfInBounds_toArray, List.set_cons_zero, List.set_cons_succ])
        refine wpAnyH_take (i := 3) (oi := _) (v := ?vq4_3) rfl (by kernel_rfl) (by kernel_rfl) (by kernel_rfl) (fun _ _ _ h => h) (Or.inl ⟨rfl, ?yq4_3⟩) (by assumption) ?_
        case yq4_3 => intro w hSw; obtain ⟨hS1, hS2⟩ := hSw; (try dsimp only at hSw); go_simp; (try with_reducible rfl)
        (try simp only [Act.put, List.getElem_toArray, List.getElem_cons_succ, List.getElem_cons_zero, List.setIfInBounds_toArray, List.set_cons_zero, List.set_cons_succ])
        refine wpAnyH_take (i := 4) (oi := _) (v := ?vq5_4) rfl (by kernel_rfl) (by kernel_rfl) (by kernel_rfl) (fun _ _ _ h => h) (Or.inl ⟨rfl, ?yq5_4⟩) (by assumption) ?_
        case yq5_4 => intro w hSw; obtain ⟨hS1, hS2⟩ := hSw; (try dsimp only at hSw); go_simp; (try with_reducible rfl)
        (try simp only [Act.put, List.getElem_toArray, List.getElem_cons_succ, List.getElem_cons_zero, List.setIfInBounds_toArray, List.set_cons_zero, List.set_cons_succ])
        refine wpAnyH_take (i := 5) (oi := _) (v := ?vq6_5) rfl (by kernel_rfl) (by kernel_rfl) (by kernel_rfl) (fun _ _ _ h => h) (Or.inl ⟨rfl, ?yq6_5⟩) (by assumption) ?_
        case yq6_5 => intro w hSw; obtain ⟨hS1, hS2⟩ := hSw; (try dsimp only at hSw); go_simp; (try with_reducible rfl)
        (try simp only [Act.put, List.getElem_toArray, List.getElem_cons_succ, List.getElem_cons_zero, List.setIfInBounds_toArray, List.set_cons_zero, List.set_cons_succ])
        refine wpAnyH_take (i := 6) (oi := _) (v := ?vq7_6) rfl (by kernel_rfl) (by kernel_rfl) (by kernel_rfl) (fun _ _ _ h => h) (Or.inl ⟨rfl, ?yq7_6⟩) (by assumption) ?_
        case yq7_6 => intro w hSw; obtain ⟨hS1, hS2⟩ := hSw; (try dsimp only at hSw); go_simp; (try with_reducible rfl)
        (try simp only [Act.put, List.getElem_toArray, List.getElem_cons_succ, List.getElem_cons_zero, List.setIfInBounds_toArray, List.set_cons_zero, List.set_cons_succ])
        refine wpAnyH_take (i := 7) (oi := _) (v := ?vq8_7) rfl (by kernel_rfl) (by kernel_rfl) (by kernel_rfl) (fun _ _ _ h => h) (Or.inl ⟨rfl, ?yq8_7⟩) (by assumption) ?_
        case yq8_7 => intro w hSw; obtain ⟨hS1, hS2⟩ := hSw; (try dsimp only at hSw); go_simp; (try with_reducible rfl)
        (try simp only [Act.put, List.getElem_toArray, List.getElem_cons_succ, List.getElem_cons_zero, List.setIfInBounds_toArray, List.set_cons_zero, List.set_cons_succ])
        refine wpAnyH_take (i := 8) (oi := _) (v := ?vq9_8) rfl (by kernel_rfl) (by kernel_rfl) (by kernel_rfl) (fun _ _ _ h => h) (Or.inl ⟨rfl, ?yq9_8⟩) (by assumption) ?_
        case yq9_8 => intro w hSw; obtain ⟨hS1, hS2⟩ := hSw; (try dsimp only at hSw); go_simp; (try with_reducible rfl)
        (try simp only [Act.put, List.getElem_toArray, List.getElem_cons_succ, List.getElem_cons_zero, List.setIfInBounds_toArray, List.set_cons_zero, List.set_cons_succ])
        refine wpAnyH_ready (rs := [9]) (by kernel_rfl) (by simp) ?_
        refine (AllReadyH.cons (o := _) rfl (fun K hK => ?_) AllReadyH.nil)
        go_simp
        go_at_call 27
        refine (HN4.out _ _).mono ?_
        rintro e u1 ⟨rfl, hu1⟩
        subst hu1
        refine hK.out _ _ ?_ (fun hHeld => ?_)
        · (try dsimp only); exact KEEP.out _ (below_drew hbr)
        clear hK K
        (try simp only [Act.put, List.getElem_toArray, List.getElem_cons_succ, List.getElem_cons_zero, List.setIfInBounds_toArray, List.set_cons_zero, List.set_cons_succ])
        refine wpAnyH_ready (rs := [10]) (by kernel_rfl) (by simp) ?_
        refine (AllReadyH.cons (o := _) rfl (fun K hK => ?_) AllReadyH.nil)
        rw [if_pos (by rfl)]
        go_simp
        refine hK.out _ _ ?_ (fun hHeld => ?_)
        · (try dsimp only); exact KEEP.out _ (below_drew hbr2)
        clear hK K
        (try simp only [Act.put, List.getElem_toArray, List.getElem_cons_succ, List.getElem_cons_zero, List.setIfInBounds_toArray, List.set_cons_zero, List.set_cons_succ])
        refine wpAnyH_ready (rs := [11]) (by kernel_rfl) (by simp) ?_
        refine (AllReadyH.cons (o := _) rfl (fun K hK => ?_) AllReadyH.nil)
        refine step_append_rd _ rfl (.tmp 54) (.tmp 64) 36 rfl w5.heap.size 3 i0 _ 8 Try.underlying36 hi0 hz0 hz1 hzq rfl u8 q.1.length (ivs q.1) rfl hown2 (wr.heap.size + 1) (some ⟨wr.heap.size, 0, none⟩) 1 1 [.int .i64 (C4p.num s.c.s t.r)] rfl rfl hnew (fun hh => by cases hh) one_int (by unfold maxLen; omega) (by omega) hbr2.size ?_
        intro v7 u7 hown7 hg7
        have hbr7 := below_grown (below_drew hbr2) (World.ownsRow.drew hown2) hg7 hbr2.size
        refine hK.out _ _ ?_ (fun hHeld => ?_)
        · (try dsimp only); exact KEEP.out _ hbr7
        clear hK K
        (try simp only [Act.put, List.getElem_toArray, List.getElem_cons_succ, List.getElem_cons_zero, List.setIfInBounds_toArray, List.set_cons_zero, List.set_cons_succ])
        refine wpAnyH_take (i := 12) (oi := _) (v := ?vq10_12) rfl (by kernel_rfl) (by kernel_rfl) (by kernel_rfl) (fun _ _ _ h => h) (Or.inl ⟨rfl, ?yq10_12⟩) (by assumption) ?_
        case yq10_12 => intro w hSw; (try dsimp only at hSw); go_simp; (try with_reducible rfl)
        (try simp only [Act.put, List.getElem_toArray, List.getElem_cons_succ, List.getElem_cons_zero, List.setIfInBounds_toArray, List.set_cons_zero, List.set_cons_succ])
        refine wpAnyH_done (by kernel_rfl) ?_ _
        clear hHeld
        have hown8 := IOw.app hown7
        clear hown hown2 hown7 hnew hg7 hbr2 KEEP h0 h1'
        go_wp2_with fail
        go_roundw
        case rel => exact ⟨i + 1, by omega, by go_num, by rw [HNX2.out]; rfl, by rw [HNX2.out]; exact hown8, hbr7⟩
        case measure => simp [intOf]; omega
      · have htm3 : t.m = true := by simpa using htm2
        rw [htm3] at h1'
        clear h0
        by_cases hg3 : q.2 = 2
        · have hnx : Jn.runL s.c.s (tl.take (i + 1)) = ([], 3) := by rw [HNX.out]; unfold Jn.nxL; rw [if_neg htm2, if_pos (by omega)]
          have HNX2 := Lib.hid hnx
          have HG3 := Lib.hid hg3
          have g3 : (((q.2 : Nat) : Int) + 1) = 3 := by omega
          have g4 : (((q.2 : Nat) : Int) + 1 == 3) = true := by rw [g3]; rfl
          have hll := HLL.out
          clear hnx hg3
          have HQ0 := Lib.hid g4
          generalize ((q.2 : Nat) : Int) = Q2 at *
          obtain rfl : Q2 = 2 := by omega
          clear g3 g4 HQ0
          go_wp2_with fail
          go_roundw
          case rel => exact ⟨i + 1, by omega, by go_num, by rw [HNX2.out]; rfl, by rw [HNX2.out]; exact IOw.nil, hbr⟩
          case measure => simp [intOf]; omega
        · have hnx : Jn.runL s.c.s (tl.take (i + 1)) = (q.1, q.2 + 1) := by rw [HNX.out]; unfold Jn.nxL; rw [if_neg htm2, if_neg (by omega)]
          have HNX2 := Lib.hid hnx
          have g4 : (((q.2 : Nat) : Int) + 1 == 3) = false := by rw [beq_eq_false_iff_ne]; omega
          have hll := HLL.out
          clear hnx
          go_wp2_with fail
          go_roundw
          case rel => exact ⟨i + 1, by omega, by go_num, by rw [HNX2.out]; show Value.int .i64 _ = .int .i64 ((q.2 + 1 : Nat) : Int); go_num, by rw [HNX2.out]; exact hown, hbr⟩
          case measure => simp [intOf]; omega
    · obtain rfl : i = tl.length := by have := HTL.out; omega
      have hqe := HQ.out
      rw [List.take_length] at hqe
      have d0 : decide (((tl.length : Nat) : Int) < (tn : Int)) = false := decide_eq_false (by have := HTL.out; omega)
      have hxr := hx5.below hbr
      have hfr := hf5.below hbr
      have f0 := hfr.c0
      have f1 := hfr.c1
      have HRD2 := Lib.hid (HRD.out wr FA fn fc (hp5.step hbr) (hs5.step hbr))
      rw [← hqe] at HRD2 HRL
      have hbw := hbb5.trans (hbr.mono hbt)
      obtain ⟨b, hbe⟩ : ∃ b, b = decide (K ≤ q.1.length) := ⟨_, rfl⟩
      rw [← hbe] at HRD2
      have HBE := Lib.hid hbe
      have hl60 : q.1.length ≤ 60 := by have := HTL.out; omega
      obtain ⟨LA, lc, rfl, hl3, hl4, -, -⟩ := hown.form
      have HOW := Lib.hid hown
      clear hnx hl1 hl2 hqe hbe hx5 hf5 hs5 hp5 x8 hown
      go_wp2_with (refine wpList_load_bx rfl (.tmp 5) rfl _ _ _ rfl hxr ?_)
      refine HRD2.out.mono ?_
      rintro e u1 ⟨x, hm1, hm2, rfl, hu1⟩
      have hxu := hxr.below hu1
      have x27 := c27 hxu
      rw [HK.out] at x27
      have x8 := c8 hxu
      have hbu := hbw.trans (hu1.mono hbw.size)
      have HM1 := Lib.hid hm1
      clear hm1 hm2 hxr hfr f0 f1 HRD2 HRD hxu
      by_cases hkl : K ≤ q.1.length
      · have hb1 : b = true := by rw [HBE.out]; exact decide_eq_true hkl
        subst hb1
        have hmed := HM1.out rfl
        have hfl : f.1.length = K := by
          have := HRL.out.full
          rw [decide_eq_true hkl] at this
          exact of_decide_eq_true this
        have hcnt := Jn.med_count hmed (by rw [hfl]; have := H5.out; omega)
        rw [hfl] at hcnt
        obtain ⟨W, hW⟩ : ∃ W, W = f.1.map (C4p.num s.c.s) := ⟨_, rfl⟩
        have hWq : W = q.1.drop (q.1.length - K) := by rw [hW]; exact HRL.out.1
        have hWl : W.length = K := by rw [hW, List.length_map, hfl]
        rw [← hW] at hcnt
        obtain ⟨g, lc', e9, -, -, hgb, hgl, hcell⟩ := HOW.out.some_ (by have := H5.out; omega)
        injection e9 with e9 _ e8
        subst e9 e8
        obtain ⟨d, hd⟩ : ∃ d, q.1.length = d + K := ⟨q.1.length - K, by omega⟩
        have HC : Hid (∀ k, k < K → u1.cell? ⟨g, d + k, none⟩ = some (.int .i64 (W.getD k 0))) := Lib.hid fun k hk => by
          rw [hu1.cell (p := ⟨g, d + k, none⟩) hgl, hcell (d + k) (by omega)]
          have hk2 : k < W.length := by omega
          rw [List.getD_eq_getElem?_getD, List.getElem?_eq_getElem hk2, Option.getD_some]
          simp only [hWq, List.getElem_drop, hd, Nat.add_sub_cancel]
        have HNX := Lib.hid fun (u : World) => C4v.number_r s.c.s x u
        obtain ⟨X, hX⟩ : ∃ X, X = C4p.num s.c.s x := ⟨_, rfl⟩
        rw [← hX] at HNX hcnt
        have HCNT := Lib.hid hcnt
        have HWL := Lib.hid hWl
        have hK1 : 1 ≤ K ∧ K ≤ 5 := by have := H5.out; omega
        clear hmed hW hWq hWl hcnt hX hcell hfl HOW HM1 HBE HRL hbr
        rw [hd] at hl3 hl60 ⊢
        clear hkl hd
        have t1 : decide ((K : Int) ≤ (d : Int) + (K : Int)) = true := decide_eq_true (by omega)
        have a1 : ¬ lc = d := by omega
        have a2 : d ≤ lc := by omega
        have a3 : wrap64 ((d : Int) + (K : Int) - (K : Int)) = (d : Int) := by unfold wrap64; omega
        have lcm : lc ≤ 9223372036854775807 := by unfold maxLen at hl4; omega
        have A3 := Lib.hid a3
        clear a3
        go_wp2_with fail
        refine (HNX.out _).mono ?_
        rintro e u2 ⟨rfl, rfl⟩
        go_wp2_with fail
        go_loopw [14, 15, 16, 95] (fun bl ab fo j wz => ∃ (k : Nat), k ≤ K ∧ j = .int .i64 (k : Int) ∧ bl = .int .i64 (((W.take k).countP (fun y => decide (y < X)) : Nat) : Int) ∧ ab = .int .i64 (((W.take k).countP (fun y => decide (X < y)) : Nat) : Int) ∧ fo = .bool (decide (0 < (W.take k).countP (fun y => decide (y = X)))) ∧ wz = u1) (fun _ _ _ j _ => K - (intOf j).toNat)
        case atStart => exact ⟨0, Nat.zero_le _, rfl, rfl, rfl, rfl, rfl⟩
        case round =>
          obtain ⟨k, hk, rfl, rfl, rfl, rfl, rfl⟩ := hrel
          have b1 := cnt_le (fun y => decide (y < X)) W k
          have b2 := cnt_le (fun y => decide (X < y)) W k
          by_cases hk2 : k < K
          · have n1 : (0 : Int) ≤ (k : Int) := by omega
            have n2 : (k : Int) < (K : Int) := by omega
            have hcc := HC.out k hk2
            have s1 := take_cnt (fun y => decide (y < X)) (W := W) (k := k) (by rw [HWL.out]; exact hk2)
            have s2 := take_cnt (fun y => decide (X < y)) (W := W) (k := k) (by rw [HWL.out]; exact hk2)
            have s3 := take_cnt (fun y => decide (y = X)) (W := W) (k := k) (by rw [HWL.out]; exact hk2)
            generalize W.getD k 0 = Y at *
            generalize (W.take k).countP (fun y => decide (y < X)) = c1 at *
            generalize (W.take k).countP (fun y => decide (X < y)) = c2 at *
            generalize (W.take k).countP (fun y => decide (y = X)) = c3 at *
            have S1 := Lib.hid s1
            have S2 := Lib.hid s2
            have S3 := Lib.hid s3
            clear s1 s2 s3
            have hd1 : decide ((k : Int) < (K : Int)) = true := decide_eq_true n2
            obtain ⟨fb, hfb⟩ : ∃ fb, fb = decide (0 < c3) := ⟨_, rfl⟩
            rw [← hfb]
            have HFB := Lib.hid hfb
            clear hfb
            rcases Int.lt_trichotomy Y X with hy | hy | hy
            · cases fb
              · skip
                have t1 : decide (Y < X) = true := decide_eq_true (by omega)
                have t2 : decide (X < Y) = false := decide_eq_false (by omega)
                have t3 : (Y == X) = false := by rw [beq_eq_false_iff_ne]; omega
                have HHY := Lib.hid hy
                clear hy
                go_wp2_with fail
                exact ⟨⟨k + 1, by omega, by go_num, vi (by rw [S1.out, if_pos (show decide (Y < X) = true from decide_eq_true (by have := HHY.out; omega))]; push_cast; omega), vi (by rw [S2.out, if_neg (show ¬ decide (X < Y) = true by have := HHY.out; simp; omega)]; push_cast; omega), congrArg Value.bool (by rw [S3.out, if_neg (show ¬ decide (Y = X) = true by have := HHY.out; simp; omega)]; rw [Nat.add_zero, ← HFB.out]), trivial⟩, by simp [intOf]; omega⟩
              · skip
                have t1 : decide (Y < X) = true := decide_eq_true (by omega)
                have t2 : decide (X < Y) = false := decide_eq_false (by omega)
                have t3 : (Y == X) = false := by rw [beq_eq_false_iff_ne]; omega
                have HHY := Lib.hid hy
                clear hy
                go_wp2_with fail
                exact ⟨⟨k + 1, by omega, by go_num, vi (by rw [S1.out, if_pos (show decide (Y < X) = true from decide_eq_true (by have := HHY.out; omega))]; push_cast; omega), vi (by rw [S2.out, if_neg (show ¬ decide (X < Y) = true by have := HHY.out; simp; omega)]; push_cast; omega), congrArg Value.bool (by rw [S3.out, if_neg (show ¬ decide (Y = X) = true by have := HHY.out; simp; omega)]; rw [Nat.add_zero, ← HFB.out]), trivial⟩, by simp [intOf]; omega⟩
            · cases fb
              · skip
                have t1 : decide (Y < X) = false := decide_eq_false (by omega)
                have t2 : decide (X < Y) = false := decide_eq_false (by omega)
                have t3 : (Y == X) = true := by rw [hy]; exact beq_self_eq_true _
                have HHY := Lib.hid hy
                clear hy
                go_wp2_with fail
                exact ⟨⟨k + 1, by omega, by go_num, vi (by rw [S1.out, if_neg (show ¬ decide (Y < X) = true by have := HHY.out; simp; omega)]; push_cast; omega), vi (by rw [S2.out, if_neg (show ¬ decide (X < Y) = true by have := HHY.out; simp; omega)]; push_cast; omega), congrArg Value.bool (by rw [S3.out, if_pos (show decide (Y = X) = true from decide_eq_true (by have := HHY.out; omega))]; exact (decide_eq_true (by omega)).symm), trivial⟩, by simp [intOf]; omega⟩
              · skip
                have t1 : decide (Y < X) = false := decide_eq_false (by omega)
                have t2 : decide (X < Y) = false := decide_eq_false (by omega)
                have t3 : (Y == X) = true := by rw [hy]; exact beq_self_eq_true _
                have HHY := Lib.hid hy
                clear hy
                go_wp2_with fail
                exact ⟨⟨k + 1, by omega, by go_num, vi (by rw [S1.out, if_neg (show ¬ decide (Y < X) = true by have := HHY.out; simp; omega)]; push_cast; omega), vi (by rw [S2.out, if_neg (show ¬ decide (X < Y) = true by have := HHY.out; simp; omega)]; push_cast; omega), congrArg Value.bool (by rw [S3.out, if_pos (show decide (Y = X) = true from decide_eq_true (by have := HHY.out; omega))]; exact (decide_eq_true (by omega)).symm), trivial⟩, by simp [intOf]; omega⟩
            · cases fb
              · skip
                have t1 : decide (Y < X) = false := decide_eq_false (by omega)
                have t2 : decide (X < Y) = true := decide_eq_true (by omega)
                have t3 : (Y == X) = false := by rw [beq_eq_false_iff_ne]; omega
                have HHY := Lib.hid hy
                clear hy
                go_wp2_with fail
                exact ⟨⟨k + 1, by omega, by go_num, vi (by rw [S1.out, if_neg (show ¬ decide (Y < X) = true by have := HHY.out; simp; omega)]; push_cast; omega), vi (by rw [S2.out, if_pos (show decide (X < Y) = true from decide_eq_true (by have := HHY.out; omega))]; push_cast; omega), congrArg Value.bool (by rw [S3.out, if_neg (show ¬ decide (Y = X) = true by have := HHY.out; simp; omega)]; rw [Nat.add_zero, ← HFB.out]), trivial⟩, by simp [intOf]; omega⟩
              · skip
                have t1 : decide (Y < X) = false := decide_eq_false (by omega)
                have t2 : decide (X < Y) = true := decide_eq_true (by omega)
                have t3 : (Y == X) = false := by rw [beq_eq_false_iff_ne]; omega
                have HHY := Lib.hid hy
                clear hy
                go_wp2_with fail
                exact ⟨⟨k + 1, by omega, by go_num, vi (by rw [S1.out, if_neg (show ¬ decide (Y < X) = true by have := HHY.out; simp; omega)]; push_cast; omega), vi (by rw [S2.out, if_pos (show decide (X < Y) = true from decide_eq_true (by have := HHY.out; omega))]; push_cast; omega), congrArg Value.bool (by rw [S3.out, if_neg (show ¬ decide (Y = X) = true by have := HHY.out; simp; omega)]; rw [Nat.add_zero, ← HFB.out]), trivial⟩, by simp [intOf]; omega⟩
          · have hkK : k = K := by omega
            obtain ⟨m1, m2, m3⟩ := HCNT.out
            have hd1 : decide ((k : Int) < (K : Int)) = false := decide_eq_false (by omega)
            have hwk : W.take k = W := List.take_of_length_le (by rw [HWL.out]; omega)
            rw [hwk] at b1 b2 ⊢
            rw [show decide (0 < W.countP (fun y => decide (y = X))) = true from decide_eq_true m3]
            generalize W.countP (fun y => decide (y < X)) = c1 at *
            generalize W.countP (fun y => decide (X < y)) = c2 at *
            clear m3 hwk hkK
            rcases H5.out with h | h | h
            · rw [h] at x27 m1 m2
              obtain rfl : c1 = 0 := by omega
              obtain rfl : c2 = 0 := by omega
              have HB := Lib.hid hbu
              clear h m1 m2 b1 b2
              go_wp2_with fail
              refine (haw.out _).mono ?_
              rintro e w9 ⟨rfl, hb9⟩
              go_wp2_with fail
              go_ret
              exact ⟨rfl, HB.out.trans (hb9.mono HB.out.size)⟩
            · rw [h] at x27 m1 m2
              have e1 : decide ((c1 : Int) ≤ 1) = true := decide_eq_true (by omega)
              have e2 : decide ((c2 : Int) ≤ 1) = true := decide_eq_true (by omega)
              have HB := Lib.hid hbu
              clear h m1 m2 b1 b2
              go_wp2_with fail
              refine (haw.out _).mono ?_
              rintro e w9 ⟨rfl, hb9⟩
              go_wp2_with fail
              go_ret
              exact ⟨rfl, HB.out.trans (hb9.mono HB.out.size)⟩
            · rw [h] at x27 m1 m2
              have e1 : decide ((c1 : Int) ≤ 2) = true := decide_eq_true (by omega)
              have e2 : decide ((c2 : Int) ≤ 2) = true := decide_eq_true (by omega)
              have HB := Lib.hid hbu
              clear h m1 m2 b1 b2
              go_wp2_with fail
              refine (haw.out _).mono ?_
              rintro e w9 ⟨rfl, hb9⟩
              go_wp2_with fail
              go_ret
              exact ⟨rfl, HB.out.trans (hb9.mono HB.out.size)⟩
      · have hb0 : b = false := by rw [HBE.out]; exact decide_eq_false hkl
        subst hb0
        have t1 : decide ((K : Int) ≤ ((q.1.length : Nat) : Int)) = false := decide_eq_false (by omega)
        go_wp2_with fail
        refine (haw.out _).mono ?_
        rintro e w9 ⟨rfl, hb9⟩
        go_wp2_with fail
        go_ret
        exact ⟨rfl, hbu.trans (hb9.mono hbu.size)⟩

theorem cells_u8 : Try.prog.cellsOf 5 = 1 := by kernel_rfl
theorem cells_int : Try.prog.cellsOf 3 = 1 := by kernel_rfl
theorem own : ownKnob Try.prog.godebug = none := by kernel_rfl
theorem laidOut : laidOutB Try.prog = true := by kernel_rfl
theorem contract (H : Type) (enc : TypeId × Value → H) (W : World) (base : Nat) (args : Array Value) (ds gs : List (DataW H)) (before : List MemPlace)
    (hval : ∀ (j : Nat) t v, Try.f4.params[j]? = some t → args[j]? = some v → Value.okWide Try.prog W .any base t v)
    (hW : DataW.Whole enc Try.prog Try.f4.params.toList Rows.samplingMedianSpec.vars false W args.toList ds gs before) :
    Calls Try.prog 4 args W fun e W' => ∃ v, e = .returned v ∧ Rows.samplingMedianSpec.post enc Try.prog Try.f4 false true false false W args v W' := by
  have hW' := hW
  obtain ⟨p, q, hA0, hV, rfl, hfz, hnd⟩ := hW
  have hA : DataW.TrodAll enc Try.prog W 0 (fun _ => true) true Try.f4.params.toList args.toList ds p := hA0
  rw [Try.params4] at hA hval
  obtain ⟨v0, vs0, d0, ds0, p0, q0, hargs, rfl, rfl, h0, r0⟩ := trodAll_cons hA
  obtain ⟨v1, vs1, d1, ds1, p1, q1, rfl, rfl, rfl, h1, r1⟩ := trodAll_cons r0
  obtain ⟨rfl, rfl, rfl⟩ := trodAll_nil r1
  obtain rfl : args = #[v0, v1] := by cases args; simp_all
  obtain ⟨A0, n0, c0, l0, rfl, hn0, hr0, hw0, hc0, hm0, hk0⟩ := open_int_list Try.underlying36 Try.underlying3 cells_int (hval 0 36 v0 rfl rfl) h0
  obtain ⟨A1, n1, c1, l1, rfl, hr1⟩ := open_takes Try.underlying55 Try.underlying59 (by kernel_rfl) ⟨rfl, rfl⟩ ⟨(by kernel_rfl), (by kernel_rfl)⟩ Try.underlying5 Try.underlying4 (hval 1 55 v1 rfl rfl) h1
  clear hA0
  refine (walk A0 n0 c0 l0 hn0 hw0 hc0 hm0 hk0 A1 n1 c1 l1 W hr0 hr1).mono fun e W' ⟨he, hb⟩ => ?_
  subst he
  exact ⟨_, rfl, law_post laidOut (types_fit (by kernel_rfl)) (by kernel_rfl) Try.underlying4 rfl (fun xs hx => by
    match xs, hx with
    | [_, _], _ => rfl) hW' hb⟩

theorem lifted (os : Os) (started : os.Started) (H : Type) (enc : TypeId × Value → H) :
    ReturnsInHanded {} Try.checked os 4 .any (Rows.samplingMedianSpec.pre6 enc Try.prog Try.f4 Rows.samplingMedianRow.domain false) (Rows.samplingMedianSpec.post enc Try.prog Try.f4 false true false false) := by
  refine returnsInHanded_of_change (C := Try.checked) own started (by kernel_rfl) Try.func4
    (ChangeSpec.witness6 (enc := enc) (C := Try.checked) false ⟨#[], #[.slice none 0 0, .slice none 0 0], []⟩ 8 (by kernel_rfl) (by kernel_rfl) (by kernel_rfl) (by kernel_rfl)) ?_
  intro W base args ds gs before hval hW _ _
  exact contract H enc W base args ds gs before hval hW

theorem proved : Rows.SamplingMedianSaid :=
  OpenClaim.holds_of_wide 4 Try.f4 rfl rfl rfl rfl rfl rfl rfl ⟨rfl, rfl, rfl, rfl, rfl⟩ rfl rfl rfl rfl rfl (by kernel_rfl) Try.func4 (by kernel_rfl)
    (of_decide_eq_true (by kernel_rfl)) (by unfold Func.isWrapper; first | (rw [if_pos (by decide +kernel)]; kernel_rfl) | (rw [if_neg (by decide +kernel)]; exact ⟨rfl, rfl⟩))
    (fun os started H enc _ => lifted os started H enc)
end Go.Proofs.Ytekhpcfggbegaaa.samplingMedian
