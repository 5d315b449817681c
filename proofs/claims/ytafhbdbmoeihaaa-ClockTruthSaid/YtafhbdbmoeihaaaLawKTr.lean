/- The statement ClockTruth: the events of a clock that is advanced and set at any times are reconciled to the times that a clock would have shown that had its last base from the beginning; they never fall. -/
import Derived.Test.YtafhbdbmoeihaaaV9u
import Derived.Test.YtafhbdbmoeihaaaLaw8
import Derived.Deep.RegionHeld3
namespace Go.Proofs.Ytafhbdbmoeihaaa.clockTruth
open Go.RowKit Go.ChangeShapes Go.WideShapes Go.ChangeAt Go.Proofs.Ytafhbdbmoeihaaa.Mem Go.Proofs.Ytafhbdbmoeihaaa.Law Go.Proofs.Ytafhbdbmoeihaaa.F2p Go.Proofs.Ytafhbdbmoeihaaa.V7 Go.Proofs.Ytafhbdbmoeihaaa.V9 Go.Proofs.Ytafhbdbmoeihaaa.Made
set_option maxRecDepth 100000
set_option maxHeartbeats 4000000

theorem act_at {B : Nat} {w : World} {A : Option Addr} {l : List Act1} (h : Rd B w A (l.flatMap Act1.cells)) {k : Nat} (hk : k < l.length) :
    ∃ a, A = some a ∧ a.block < B ∧ w.cell? (a.add (k * 3)) = some (.bool l[k].s) ∧ w.cell? ⟨(a.add (k * 3)).block, (a.add (k * 3)).off + 1, none⟩ = some (.int .i64 l[k].k) ∧ w.cell? ⟨(a.add (k * 3)).block, (a.add (k * 3)).off + 2, none⟩ = some (.int .u32 (l[k].tm : Int)) := by
  have hlen := flat_len Act1.cells 3 (fun _ => rfl) l
  obtain ⟨a, e, hb, hc⟩ := h (by rw [hlen]; omega)
  have g : ∀ j, j < 3 → w.cell? ((a.add (k * 3)).add j) = (Act1.cells l[k])[j]? := fun j hj => by
    have h1 := hc (k * 3 + j) (by rw [hlen]; omega)
    rw [add_add, h1, ← flat_get Act1.cells 3 (fun _ => rfl) l k hk j hj, List.getElem?_eq_getElem (by rw [hlen]; omega)]
  exact ⟨a, e, hb, by have := g 0 (by omega); rwa [show (a.add (k * 3)).add 0 = a.add (k * 3) from rfl] at this, g 1 (by omega), g 2 (by omega)⟩
/-- What holds before each act. -/
structure Rel (W : World) (l : List Act1) (j : Nat) (c : Ck) (E : List Ev) (K : List Int) (v4 v5 : Value) (w : World) : Prop where
  jl : j ≤ l.length
  log : Log c E K
  t : 0 ≤ c.t ∧ c.t ≤ 100000 * (j : Int)
  b : c.t / 10 + c.b ≤ 2000000000 + 10000 * (j : Int)
  few : E.length ≤ 2 * j
  box : CBox w W.heap.size c
  own : EOwn (W.heap.size + 1) w v4 E
  tks : LOwn (W.heap.size + 1) w v5 K
  bel : Below W.heap.size W w
theorem set3_below {B r : Nat} {w V : World} (h : Below B w V) (hz : B ≤ V.heap.size) (hr : B ≤ r) (e : Ck) : Below B w (set3 V r e) :=
  h.grown (set3_grown V r e) hz (fun k hk => by injection hk; omega)
theorem walk (A : Option Addr) (n cap : Nat) (l : List Act1) (hfit : ∀ q ∈ l, q.Fit) (W : World) (hr : ASl W A n cap l) :
    Calls Try.prog 6 #[.slice A n cap] W fun e W' => e = .returned (.bool true) ∧ Below W.heap.size W W' := by
  have haw := Lib.hid (fun u => awake_any u)
  have HL := Lib.hid hr.len
  have hrow := hr.row
  have HFT := Lib.hid hfit
  clear hr hfit
  rcases Nat.lt_or_ge 60 n with h60 | h60
  · have h60I : (60 : Int) < (n : Int) := by omega
    clear h60
    go_enter Try.func6, Try.ntmps6
    go_wp2_with fail
    refine (haw.out _).mono ?_
    rintro e u1 ⟨rfl, hb1⟩
    go_wp2_with fail
    go_ret
    exact ⟨rfl, hb1⟩
  have h60I : ¬ (60 : Int) < (n : Int) := by omega
  have HST : Hid (Rel W l 0 Ck.none [] [] (.slice none 0 0) (.slice none 0 0) (W.alloc (.cells #[.int .i64 0, .int .i64 0, .bool false] 23))) := Lib.hid
    ⟨Nat.zero_le _, Log.start, ⟨by decide, by decide⟩, by decide, by simp, CBox.new W Ck.none, EOwn.nil, LOwn.nil, (Below.refl _ _).alloc (Nat.le_refl _) _⟩
  go_enter Try.func6, Try.ntmps6
  go_wp2_with fail
  generalize W.alloc (.cells #[.int .i64 0, .int .i64 0, .bool false] 23) = w1 at *
  go_loopw [4, 5, 6] (fun v4 v5 i wr => ∃ (j : Nat) (c : Ck) (E : List Ev) (K : List Int), i = .int .i64 (j : Int) ∧ Rel W l j c E K v4 v5 wr) (fun _ _ i _ => n - (intOf i).toNat)
  case atStart => exact ⟨0, Ck.none, [], [], rfl, HST.out⟩
  case round =>
    obtain ⟨j, c, E, K, rfl, R⟩ := hrel
    rcases Nat.lt_or_ge j n with hj | hj
    · have hjl : j < l.length := by rw [← HL.out]; exact hj
      obtain ⟨a, rfl, hab, t0, t1, t2⟩ := act_at (Rd.below hrow R.bel) hjl
      have hqf := HFT.out _ (List.getElem_mem hjl)
      generalize l[j] = q at *
      obtain ⟨qs, qk, qt⟩ := q
      simp only at t0 t1 t2 hqf
      have HR := Lib.hid R
      have b0 : (0 : Int) ≤ (j : Int) := by omega
      have b1 : (j : Int) < (n : Int) := by omega
      have p0 := R.box.c0; have p1 := R.box.c1; have p2 := R.box.c2
      have hpl := R.box.lt
      clear R
      obtain ⟨ct, cb, cs⟩ := c
      simp only at p0 p1 p2
      cases qs
      · have hlog := HR.out.log
        have hb1' := HR.out.t
        have hb2' := HR.out.b
        have hj60 : j < 60 := by omega
        have hmod := Lib.hid (fun u => mod_at qk 100000 100000 u rfl hqf.k.1 hqf.k.2 (by omega) (by omega))
        have hadv := Lib.hid (fun (m : Nat) (hm : m < 100000) => adv_in ⟨ct, cb, cs⟩ hlog.ok (m : Int) (by omega) (by show ct + (m : Int) ≤ _; simp only at hb1'; omega) (by show (ct + (m : Int)) / 10 + cb ≤ _; simp only at hb1' hb2'; omega))
        have hckf : (Ck.mk ct cb cs).Fit := ⟨by have := Ck.ok_b hlog.ok; simp only at this ⊢; omega, by have := Ck.ok_b hlog.ok; unfold Ck.tm at this; simp only at this hb2' ⊢; omega⟩
        have hac := Lib.hid (fun (m : Nat) (hm : m < 100000) u => (show Calls Try.prog 10 #[.agg #[.int .i64 ct, .int .i64 cb, .bool cs], .int .i64 (m : Int)] u fun x w' => x = .returned (.tuple #[.agg #[.int .i64 (ct + (m : Int)), .int .i64 cb, .bool cs], .int .i64 0]) ∧ Below u.heap.size u w' from by have := advance_p ⟨ct, cb, cs⟩ hckf (m : Int) u; rw [(hadv.out m hm).1] at this; exact this))
        have KEEP : Hid (∀ V, Below wr.heap.size wr V → V.cell? ⟨W.heap.size, 0, none⟩ = some (.int .i64 ct) ∧ V.cell? ⟨W.heap.size, 1, none⟩ = some (.int .i64 cb) ∧ V.cell? ⟨W.heap.size, 2, none⟩ = some (.bool cs) ∧ V.cell? ⟨(a.add (j * 3)).block, (a.add (j * 3)).off + 1, none⟩ = some (.int .i64 qk)) := Lib.hid fun V hV =>
          ⟨(hV.cell (p := ⟨W.heap.size, 0, none⟩) hpl).trans p0, (hV.cell (p := ⟨W.heap.size, 1, none⟩) hpl).trans p1, (hV.cell (p := ⟨W.heap.size, 2, none⟩) hpl).trans p2, (hV.cell (p := ⟨(a.add (j * 3)).block, (a.add (j * 3)).off + 1, none⟩) (by show (a.add (j * 3)).block < _; rw [add_block]; omega)).trans t1⟩
        clear hlog hb1' hb2' hckf
        have HV : Below wr.heap.size wr wr.drew := (Below.refl _ _).drew
        have HA0 : CBox (wr.alloc (.cells #[.int .i64 0, .int .i64 0, .bool false] 23)).drew wr.heap.size Ck.none := CBox.new wr Ck.none
        have HAV : Below wr.heap.size wr (wr.alloc (.cells #[.int .i64 0, .int .i64 0, .bool false] 23)).drew := ((Below.refl _ _).alloc (Nat.le_refl _) _).drew
        have hwz : wr.heap.size < (wr.alloc (.cells #[.int .i64 0, .int .i64 0, .bool false] 23)).drew.heap.size := HA0.lt
        go_upto_region 16 with fail
        go_region_held3 (fun V => V.cell? ⟨W.heap.size, 0, none⟩ = some (.int .i64 ct) ∧ V.cell? ⟨W.heap.size, 1, none⟩ = some (.int .i64 cb) ∧ V.cell? ⟨W.heap.size, 2, none⟩ = some (.bool cs) ∧ V.cell? ⟨(a.add (j * 3)).block, (a.add (j * 3)).off + 1, none⟩ = some (.int .i64 qk)) (first | exact KEEP.out _ HV | exact KEEP.out _ HAV | exact KEEP.out _ (HV.alloc HV.size _) | exact KEEP.out _ (set3_below HV HV.size (Nat.le_refl _) ⟨_, _, _⟩) | exact KEEP.out _ (set3_below (HV.alloc HV.size _) (HV.alloc HV.size _).size HV.size ⟨_, _, _⟩))
          (first
            | (go_at_call 27; refine (hmod.out _).mono ?_; rintro e w2 ⟨m, hm, rfl, rfl⟩)
            | (go_at_call 10; refine (hac.out m hm _).mono ?_; rintro e w2 ⟨rfl, hb2⟩; (first | (have HV := HV.trans (hb2.mono HV.size)) | (have HC := CBox.below HA0 hb2 hwz; have HV := HAV.trans (hb2.mono HAV.size); have n0 := HC.c0; have n1 := HC.c1; have n2 := HC.c2; have f0 := HC.fz 0; have f1 := HC.fz 1; have f2 := HC.fz 2))))
        · have HY := HV.alloc HV.size (.cells #[.int .i64 (ct + (m : Int)), .int .i64 cb, .bool cs] 23)
          have HD := CBox.new w2 ⟨ct + (m : Int), cb, cs⟩
          simp only [Ck.cells] at HD
          have hr := HV.size
          obtain ⟨r, hrr⟩ : ∃ r, w2.heap.size = r := ⟨_, rfl⟩
          generalize w2.alloc (.cells #[.int .i64 (ct + (m : Int)), .int .i64 cb, .bool cs] 23) = Y at *
          rw [hrr] at HD hr ⊢
          clear hrr HV
          clear HA0 HAV hwz KEEP p0 p1 p2 t0 t1 t2 hac hmod
          have hmm : m < 100000 := hm
          have hok := (hadv.out m hm).2
          have hlog2 := HR.out.log.tick (m : Int) (by omega) hok
          have hst := Lib.hid (fun u => stamp_p ⟨ct + (m : Int), cb, cs⟩ ⟨by have := Ck.ok_b hok; simp only at this ⊢; omega, by have := Ck.ok_b hok; unfold Ck.tm at this; have h2 := HR.out.b; simp only at this h2 ⊢; omega⟩ u)
          unfold stp at hst
          rw [if_pos hok] at hst
          obtain ⟨T, hT⟩ : ∃ T, T = (Ck.mk (ct + (m : Int)) cb cs).tm.toNat := ⟨_, rfl⟩
          have hTI : (Ck.mk (ct + (m : Int)) cb cs).tm = (T : Int) := by have := (Ck.ok_b hok).2.2.2.1; omega
          rw [hTI] at hst
          rw [← hT] at hlog2
          simp only [Ck.v, Ck.cells] at hst
          have hpW : W.heap.size < wr.heap.size := hpl
          have P1 := CBox.below HR.out.box HY hpl
          have O1 := eown_below HR.out.own HY
          have L1 := lown_below HR.out.tks HY
          have B1 := HR.out.bel.trans (HY.mono HR.out.bel.size)
          have hjt := HR.out.t
          have hjb := HR.out.b
          have hfew := HR.out.few
          have hlen := HR.out.log.len
          clear HY hT hTI hadv hok HR
          replace O1 := Lib.hid O1
          replace L1 := Lib.hid L1
          replace B1 := Lib.hid B1
          replace hlog2 := Lib.hid hlog2
          go_wp2_with (first
            | (refine wpList_load_ck rfl (.tmp 10) rfl r ⟨ct + (m : Int), cb, cs⟩ rfl HD ?_)
            | (refine wpList_store_ck rfl (.tmp 3) (.tmp 83) rfl W.heap.size ⟨ct + (m : Int), cb, cs⟩ ⟨ct, cb, cs⟩ rfl rfl P1 ?_; intro Y2 P2 G2)
            | (refine wpList_load_ck rfl (.tmp 3) rfl W.heap.size ⟨ct + (m : Int), cb, cs⟩ rfl P2 ?_))
          have O2 := Lib.hid (eown_off O1.out G2 (Nat.lt_succ_self _))
          have L2 := Lib.hid (lown_off L1.out G2 (Nat.lt_succ_self _))
          have B2 := Lib.hid (B1.out.grown G2 B1.out.size (fun k hk => by injection hk; omega))
          clear O1 L1 B1 P1 HD G2
          refine (hst.out _).mono ?_
          rintro e Y3 ⟨rfl, hb3⟩
          have P3 := CBox.below P2 hb3 P2.lt
          have O3 := Lib.hid (eown_below O2.out hb3)
          have L3 := Lib.hid (lown_below L2.out hb3)
          have B3 := Lib.hid (B2.out.trans (hb3.mono B2.out.size))
          have z3 : W.heap.size + 1 ≤ Y3.heap.size := P3.lt
          clear O2 L2 B2 P2 hb3
          have S3 : EvsAt (Y3.alloc (.cells (sen T).cells 49)) ⟨Y3.heap.size, 0, none⟩ [sen T] := (box_at (Box.new Y3 (sen T))).one
          have O4 := eown_below O3.out ((Below.refl _ _).alloc (Nat.le_refl _) (.cells (sen T).cells 49))
          have L4 := lown_below L3.out ((Below.refl _ _).alloc (Nat.le_refl _) (.cells (sen T).cells 49))
          have P4 := P3.alloc (.cells (sen T).cells 49)
          have B4 := B3.out.alloc B3.out.size (.cells (sen T).cells 49)
          have z4 : W.heap.size + 1 ≤ (Y3.alloc (.cells (sen T).cells 49)).heap.size := by simp; omega
          clear O3 L3 B3 P3
          replace L4 := Lib.hid L4
          replace P4 := Lib.hid P4
          replace B4 := Lib.hid B4
          go_wp2_with (go_loud (refine wpList_append_e _ rfl (.tmp 91) (.tmp 94) rfl (W.heap.size + 1) u4 E rfl O4 [sen T] ⟨Y3.heap.size, 0, none⟩ 1 1 rfl rfl S3 (by simp; omega) z4 ?_); intro x4 Y5 O5 G5; refine Hid.out ?_)
          refine Lib.hid ?_
          have L5 := lown_kept L4.out O4 G5
          have P5 := box_own P4.out O4 G5 (Nat.lt_succ_self _)
          have B5 := Lib.hid (below_own O4 B4.out G5 (Nat.le_succ _) (Nat.le_of_succ_le z4))
          have z5 : W.heap.size + 1 ≤ Y5.heap.size := P5.lt
          replace O5 := Lib.hid O5
          clear L4 P4 B4 O4 G5 S3 z3 z4
          have q0 := P5.c0
          simp only at q0
          have L6 := lown_below L5 ((Below.refl _ _).alloc (Nat.le_refl _) (.cells #[.int .i64 (ct + (m : Int))] 2))
          have z6 : W.heap.size + 1 ≤ (Y5.alloc (.cells #[.int .i64 (ct + (m : Int))] 2)).heap.size := by simp; omega
          have P6 := Lib.hid (P5.alloc (.cells #[.int .i64 (ct + (m : Int))] 2))
          have O6 := Lib.hid (eown_below O5.out ((Below.refl _ _).alloc (Nat.le_refl _) (.cells #[.int .i64 (ct + (m : Int))] 2)))
          have B6 := Lib.hid (B5.out.alloc B5.out.size (.cells #[.int .i64 (ct + (m : Int))] 2))
          clear L5 P5
          go_wp2_with (go_loud (refine wpList_append_l _ rfl (.tmp 96) (.tmp 99) rfl (W.heap.size + 1) u5 K rfl L6 [ct + (m : Int)] ⟨Y5.heap.size, 0, none⟩ 1 1 (Y5.heap.size + 1) rfl rfl (Rd.new Y5 _ _) (by simp; omega) z6 ?_); intro x5 Y7 L7 G7; refine Hid.out ?_)
          refine Lib.hid ?_
          have O7 := Lib.hid (eown_kept O6.out L6 G7)
          have P7 := Lib.hid (box_lown P6.out L6 G7 (Nat.lt_succ_self _))
          have B7 := Lib.hid (below_lown L6 B6.out G7 (Nat.le_succ _) (Nat.le_of_succ_le z6))
          replace L7 := Lib.hid L7
          clear L6 O5 O6 P6 B5 B6 G7 q0 z6 z5
          go_wp2_with fail
          try simp only at hjt hjb
          refine ⟨⟨j + 1, ⟨ct + (m : Int), cb, cs⟩, _, _, by go_num, ⟨by omega, hlog2.out, ⟨by show 0 ≤ ct + (m : Int); omega, by show ct + (m : Int) ≤ _; omega⟩, by show (ct + (m : Int)) / 10 + cb ≤ _; omega, by simp; omega, P7.out, O7.out, L7.out, B7.out⟩⟩, ?_⟩
          simp [intOf]; omega
        · have HY := set3_below HV HV.size (Nat.le_refl _) ⟨ct + (m : Int), cb, cs⟩
          have HD := set3_box HC ⟨ct + (m : Int), cb, cs⟩
          have hr : wr.heap.size ≤ wr.heap.size := Nat.le_refl _
          unfold set3 at HY HD
          clear n0 n1 n2 f0 f1 f2 HC
          generalize ((w2.setCell ⟨wr.heap.size, 0, none⟩ (.int .i64 (ct + (m : Int)))).setCell ⟨wr.heap.size, 1, none⟩ (.int .i64 cb)).setCell ⟨wr.heap.size, 2, none⟩ (.bool cs) = Y at *
          obtain ⟨r, hrr⟩ : ∃ r, r = wr.heap.size := ⟨_, rfl⟩
          rw [← hrr] at HD ⊢
          rw [← hrr] at hr
          clear HV hrr
          clear HA0 HAV hwz KEEP p0 p1 p2 t0 t1 t2 hac hmod
          have hmm : m < 100000 := hm
          have hok := (hadv.out m hm).2
          have hlog2 := HR.out.log.tick (m : Int) (by omega) hok
          have hst := Lib.hid (fun u => stamp_p ⟨ct + (m : Int), cb, cs⟩ ⟨by have := Ck.ok_b hok; simp only at this ⊢; omega, by have := Ck.ok_b hok; unfold Ck.tm at this; have h2 := HR.out.b; simp only at this h2 ⊢; omega⟩ u)
          unfold stp at hst
          rw [if_pos hok] at hst
          obtain ⟨T, hT⟩ : ∃ T, T = (Ck.mk (ct + (m : Int)) cb cs).tm.toNat := ⟨_, rfl⟩
          have hTI : (Ck.mk (ct + (m : Int)) cb cs).tm = (T : Int) := by have := (Ck.ok_b hok).2.2.2.1; omega
          rw [hTI] at hst
          rw [← hT] at hlog2
          simp only [Ck.v, Ck.cells] at hst
          have hpW : W.heap.size < wr.heap.size := hpl
          have P1 := CBox.below HR.out.box HY hpl
          have O1 := eown_below HR.out.own HY
          have L1 := lown_below HR.out.tks HY
          have B1 := HR.out.bel.trans (HY.mono HR.out.bel.size)
          have hjt := HR.out.t
          have hjb := HR.out.b
          have hfew := HR.out.few
          have hlen := HR.out.log.len
          clear HY hT hTI hadv hok HR
          replace O1 := Lib.hid O1
          replace L1 := Lib.hid L1
          replace B1 := Lib.hid B1
          replace hlog2 := Lib.hid hlog2
          go_wp2_with (first
            | (refine wpList_load_ck rfl (.tmp 10) rfl r ⟨ct + (m : Int), cb, cs⟩ rfl HD ?_)
            | (refine wpList_store_ck rfl (.tmp 3) (.tmp 83) rfl W.heap.size ⟨ct + (m : Int), cb, cs⟩ ⟨ct, cb, cs⟩ rfl rfl P1 ?_; intro Y2 P2 G2)
            | (refine wpList_load_ck rfl (.tmp 3) rfl W.heap.size ⟨ct + (m : Int), cb, cs⟩ rfl P2 ?_))
          have O2 := Lib.hid (eown_off O1.out G2 (Nat.lt_succ_self _))
          have L2 := Lib.hid (lown_off L1.out G2 (Nat.lt_succ_self _))
          have B2 := Lib.hid (B1.out.grown G2 B1.out.size (fun k hk => by injection hk; omega))
          clear O1 L1 B1 P1 HD G2
          refine (hst.out _).mono ?_
          rintro e Y3 ⟨rfl, hb3⟩
          have P3 := CBox.below P2 hb3 P2.lt
          have O3 := Lib.hid (eown_below O2.out hb3)
          have L3 := Lib.hid (lown_below L2.out hb3)
          have B3 := Lib.hid (B2.out.trans (hb3.mono B2.out.size))
          have z3 : W.heap.size + 1 ≤ Y3.heap.size := P3.lt
          clear O2 L2 B2 P2 hb3
          have S3 : EvsAt (Y3.alloc (.cells (sen T).cells 49)) ⟨Y3.heap.size, 0, none⟩ [sen T] := (box_at (Box.new Y3 (sen T))).one
          have O4 := eown_below O3.out ((Below.refl _ _).alloc (Nat.le_refl _) (.cells (sen T).cells 49))
          have L4 := lown_below L3.out ((Below.refl _ _).alloc (Nat.le_refl _) (.cells (sen T).cells 49))
          have P4 := P3.alloc (.cells (sen T).cells 49)
          have B4 := B3.out.alloc B3.out.size (.cells (sen T).cells 49)
          have z4 : W.heap.size + 1 ≤ (Y3.alloc (.cells (sen T).cells 49)).heap.size := by simp; omega
          clear O3 L3 B3 P3
          replace L4 := Lib.hid L4
          replace P4 := Lib.hid P4
          replace B4 := Lib.hid B4
          go_wp2_with (go_loud (refine wpList_append_e _ rfl (.tmp 91) (.tmp 94) rfl (W.heap.size + 1) u4 E rfl O4 [sen T] ⟨Y3.heap.size, 0, none⟩ 1 1 rfl rfl S3 (by simp; omega) z4 ?_); intro x4 Y5 O5 G5; refine Hid.out ?_)
          refine Lib.hid ?_
          have L5 := lown_kept L4.out O4 G5
          have P5 := box_own P4.out O4 G5 (Nat.lt_succ_self _)
          have B5 := Lib.hid (below_own O4 B4.out G5 (Nat.le_succ _) (Nat.le_of_succ_le z4))
          have z5 : W.heap.size + 1 ≤ Y5.heap.size := P5.lt
          replace O5 := Lib.hid O5
          clear L4 P4 B4 O4 G5 S3 z3 z4
          have q0 := P5.c0
          simp only at q0
          have L6 := lown_below L5 ((Below.refl _ _).alloc (Nat.le_refl _) (.cells #[.int .i64 (ct + (m : Int))] 2))
          have z6 : W.heap.size + 1 ≤ (Y5.alloc (.cells #[.int .i64 (ct + (m : Int))] 2)).heap.size := by simp; omega
          have P6 := Lib.hid (P5.alloc (.cells #[.int .i64 (ct + (m : Int))] 2))
          have O6 := Lib.hid (eown_below O5.out ((Below.refl _ _).alloc (Nat.le_refl _) (.cells #[.int .i64 (ct + (m : Int))] 2)))
          have B6 := Lib.hid (B5.out.alloc B5.out.size (.cells #[.int .i64 (ct + (m : Int))] 2))
          clear L5 P5
          go_wp2_with (go_loud (refine wpList_append_l _ rfl (.tmp 96) (.tmp 99) rfl (W.heap.size + 1) u5 K rfl L6 [ct + (m : Int)] ⟨Y5.heap.size, 0, none⟩ 1 1 (Y5.heap.size + 1) rfl rfl (Rd.new Y5 _ _) (by simp; omega) z6 ?_); intro x5 Y7 L7 G7; refine Hid.out ?_)
          refine Lib.hid ?_
          have O7 := Lib.hid (eown_kept O6.out L6 G7)
          have P7 := Lib.hid (box_lown P6.out L6 G7 (Nat.lt_succ_self _))
          have B7 := Lib.hid (below_lown L6 B6.out G7 (Nat.le_succ _) (Nat.le_of_succ_le z6))
          replace L7 := Lib.hid L7
          clear L6 O5 O6 P6 B5 B6 G7 q0 z6 z5
          go_wp2_with fail
          try simp only at hjt hjb
          refine ⟨⟨j + 1, ⟨ct + (m : Int), cb, cs⟩, _, _, by go_num, ⟨by omega, hlog2.out, ⟨by show 0 ≤ ct + (m : Int); omega, by show ct + (m : Int) ≤ _; omega⟩, by show (ct + (m : Int)) / 10 + cb ≤ _; omega, by simp; omega, P7.out, O7.out, L7.out, B7.out⟩⟩, ?_⟩
          simp [intOf]; omega
        · have HY := set3_below HV HV.size (Nat.le_refl _) ⟨ct + (m : Int), cb, cs⟩
          have HD := set3_box HC ⟨ct + (m : Int), cb, cs⟩
          have hr : wr.heap.size ≤ wr.heap.size := Nat.le_refl _
          unfold set3 at HY HD
          clear n0 n1 n2 f0 f1 f2 HC
          generalize ((w2.setCell ⟨wr.heap.size, 0, none⟩ (.int .i64 (ct + (m : Int)))).setCell ⟨wr.heap.size, 1, none⟩ (.int .i64 cb)).setCell ⟨wr.heap.size, 2, none⟩ (.bool cs) = Y at *
          obtain ⟨r, hrr⟩ : ∃ r, r = wr.heap.size := ⟨_, rfl⟩
          rw [← hrr] at HD ⊢
          rw [← hrr] at hr
          clear HV hrr
          clear HA0 HAV hwz KEEP p0 p1 p2 t0 t1 t2 hac hmod
          have hmm : m < 100000 := hm
          have hok := (hadv.out m hm).2
          have hlog2 := HR.out.log.tick (m : Int) (by omega) hok
          have hst := Lib.hid (fun u => stamp_p ⟨ct + (m : Int), cb, cs⟩ ⟨by have := Ck.ok_b hok; simp only at this ⊢; omega, by have := Ck.ok_b hok; unfold Ck.tm at this; have h2 := HR.out.b; simp only at this h2 ⊢; omega⟩ u)
          unfold stp at hst
          rw [if_pos hok] at hst
          obtain ⟨T, hT⟩ : ∃ T, T = (Ck.mk (ct + (m : Int)) cb cs).tm.toNat := ⟨_, rfl⟩
          have hTI : (Ck.mk (ct + (m : Int)) cb cs).tm = (T : Int) := by have := (Ck.ok_b hok).2.2.2.1; omega
          rw [hTI] at hst
          rw [← hT] at hlog2
          simp only [Ck.v, Ck.cells] at hst
          have hpW : W.heap.size < wr.heap.size := hpl
          have P1 := CBox.below HR.out.box HY hpl
          have O1 := eown_below HR.out.own HY
          have L1 := lown_below HR.out.tks HY
          have B1 := HR.out.bel.trans (HY.mono HR.out.bel.size)
          have hjt := HR.out.t
          have hjb := HR.out.b
          have hfew := HR.out.few
          have hlen := HR.out.log.len
          clear HY hT hTI hadv hok HR
          replace O1 := Lib.hid O1
          replace L1 := Lib.hid L1
          replace B1 := Lib.hid B1
          replace hlog2 := Lib.hid hlog2
          go_wp2_with (first
            | (refine wpList_load_ck rfl (.tmp 10) rfl r ⟨ct + (m : Int), cb, cs⟩ rfl HD ?_)
            | (refine wpList_store_ck rfl (.tmp 3) (.tmp 83) rfl W.heap.size ⟨ct + (m : Int), cb, cs⟩ ⟨ct, cb, cs⟩ rfl rfl P1 ?_; intro Y2 P2 G2)
            | (refine wpList_load_ck rfl (.tmp 3) rfl W.heap.size ⟨ct + (m : Int), cb, cs⟩ rfl P2 ?_))
          have O2 := Lib.hid (eown_off O1.out G2 (Nat.lt_succ_self _))
          have L2 := Lib.hid (lown_off L1.out G2 (Nat.lt_succ_self _))
          have B2 := Lib.hid (B1.out.grown G2 B1.out.size (fun k hk => by injection hk; omega))
          clear O1 L1 B1 P1 HD G2
          refine (hst.out _).mono ?_
          rintro e Y3 ⟨rfl, hb3⟩
          have P3 := CBox.below P2 hb3 P2.lt
          have O3 := Lib.hid (eown_below O2.out hb3)
          have L3 := Lib.hid (lown_below L2.out hb3)
          have B3 := Lib.hid (B2.out.trans (hb3.mono B2.out.size))
          have z3 : W.heap.size + 1 ≤ Y3.heap.size := P3.lt
          clear O2 L2 B2 P2 hb3
          have S3 : EvsAt (Y3.alloc (.cells (sen T).cells 49)) ⟨Y3.heap.size, 0, none⟩ [sen T] := (box_at (Box.new Y3 (sen T))).one
          have O4 := eown_below O3.out ((Below.refl _ _).alloc (Nat.le_refl _) (.cells (sen T).cells 49))
          have L4 := lown_below L3.out ((Below.refl _ _).alloc (Nat.le_refl _) (.cells (sen T).cells 49))
          have P4 := P3.alloc (.cells (sen T).cells 49)
          have B4 := B3.out.alloc B3.out.size (.cells (sen T).cells 49)
          have z4 : W.heap.size + 1 ≤ (Y3.alloc (.cells (sen T).cells 49)).heap.size := by simp; omega
          clear O3 L3 B3 P3
          replace L4 := Lib.hid L4
          replace P4 := Lib.hid P4
          replace B4 := Lib.hid B4
          go_wp2_with (go_loud (refine wpList_append_e _ rfl (.tmp 91) (.tmp 94) rfl (W.heap.size + 1) u4 E rfl O4 [sen T] ⟨Y3.heap.size, 0, none⟩ 1 1 rfl rfl S3 (by simp; omega) z4 ?_); intro x4 Y5 O5 G5; refine Hid.out ?_)
          refine Lib.hid ?_
          have L5 := lown_kept L4.out O4 G5
          have P5 := box_own P4.out O4 G5 (Nat.lt_succ_self _)
          have B5 := Lib.hid (below_own O4 B4.out G5 (Nat.le_succ _) (Nat.le_of_succ_le z4))
          have z5 : W.heap.size + 1 ≤ Y5.heap.size := P5.lt
          replace O5 := Lib.hid O5
          clear L4 P4 B4 O4 G5 S3 z3 z4
          have q0 := P5.c0
          simp only at q0
          have L6 := lown_below L5 ((Below.refl _ _).alloc (Nat.le_refl _) (.cells #[.int .i64 (ct + (m : Int))] 2))
          have z6 : W.heap.size + 1 ≤ (Y5.alloc (.cells #[.int .i64 (ct + (m : Int))] 2)).heap.size := by simp; omega
          have P6 := Lib.hid (P5.alloc (.cells #[.int .i64 (ct + (m : Int))] 2))
          have O6 := Lib.hid (eown_below O5.out ((Below.refl _ _).alloc (Nat.le_refl _) (.cells #[.int .i64 (ct + (m : Int))] 2)))
          have B6 := Lib.hid (B5.out.alloc B5.out.size (.cells #[.int .i64 (ct + (m : Int))] 2))
          clear L5 P5
          go_wp2_with (go_loud (refine wpList_append_l _ rfl (.tmp 96) (.tmp 99) rfl (W.heap.size + 1) u5 K rfl L6 [ct + (m : Int)] ⟨Y5.heap.size, 0, none⟩ 1 1 (Y5.heap.size + 1) rfl rfl (Rd.new Y5 _ _) (by simp; omega) z6 ?_); intro x5 Y7 L7 G7; refine Hid.out ?_)
          refine Lib.hid ?_
          have O7 := Lib.hid (eown_kept O6.out L6 G7)
          have P7 := Lib.hid (box_lown P6.out L6 G7 (Nat.lt_succ_self _))
          have B7 := Lib.hid (below_lown L6 B6.out G7 (Nat.le_succ _) (Nat.le_of_succ_le z6))
          replace L7 := Lib.hid L7
          clear L6 O5 O6 P6 B5 B6 G7 q0 z6 z5
          go_wp2_with fail
          try simp only at hjt hjb
          refine ⟨⟨j + 1, ⟨ct + (m : Int), cb, cs⟩, _, _, by go_num, ⟨by omega, hlog2.out, ⟨by show 0 ≤ ct + (m : Int); omega, by show ct + (m : Int) ≤ _; omega⟩, by show (ct + (m : Int)) / 10 + cb ≤ _; omega, by simp; omega, P7.out, O7.out, L7.out, B7.out⟩⟩, ?_⟩
          simp [intOf]; omega
      · have hlog := HR.out.log
        have hb1' := HR.out.t
        have hb2' := HR.out.b
        have hj60 : j < 60 := by omega
        obtain ⟨q, hqd⟩ : ∃ q, q = qt % 2000000000 := ⟨_, rfl⟩
        have hq : q < 2000000000 := by omega
        have hrem : ((qt : Int)).tmod 2000000000 = (q : Int) := by rw [Int.tmod_eq_emod_of_nonneg (by omega), hqd]; rfl
        have hremw : IntKind.u32.wrap (((qt : Int)).tmod 2000000000) = (q : Int) := by rw [hrem]; exact IntWalk.u32_in _ ⟨by omega, by omega⟩
        have hlog2 := hlog.set q (by omega)
        have hckf : (Ck.mk ct cb cs).Fit := ⟨by have := Ck.ok_b hlog.ok; simp only at this ⊢; omega, by have := Ck.ok_b hlog.ok; unfold Ck.tm at this; simp only at this hb2' ⊢; omega⟩
        have hadj : adj ⟨ct, cb, cs⟩ q = (⟨ct, (q : Int) - ct / 10, true⟩, [chg 0 (Ck.mk ct cb cs).tm.toNat, chg 128 q], 0) := by
          unfold adj
          rw [hlog.ok, if_pos rfl, if_neg (by omega)]
        obtain ⟨T, hT⟩ : ∃ T, (Ck.mk ct cb cs).tm.toNat = T := ⟨_, rfl⟩
        obtain ⟨B, hB⟩ : ∃ B, (q : Int) - ct / 10 = B := ⟨_, rfl⟩
        simp only at hlog2
        rw [hT, hB] at hadj hlog2
        have hac := Lib.hid (fun x (hx : x = (q : Int)) u => (show Calls Try.prog 17 #[.agg #[.int .i64 ct, .int .i64 cb, .bool cs], .int .u32 x] u fun x w' => ∃ v, x = .returned (.tuple #[.agg #[.int .i64 ct, .int .i64 B, .bool true], v, .int .i64 0]) ∧ EOwn u.heap.size w' v [chg 0 T, chg 128 q] ∧ Below u.heap.size u w' from by have := adjust_p ⟨ct, cb, cs⟩ hckf q (by omega) u; rw [hadj] at this; rw [hx]; exact this))
        have hBb : B ≤ 2000000000 := by have := (Ck.ok_b hlog.ok).1; simp only at this; omega
        have htb : ct / 10 + B = (q : Int) := by omega
        replace hlog2 := Lib.hid hlog2
        have KEEP : Hid (∀ V, Below wr.heap.size wr V → V.cell? ⟨W.heap.size, 0, none⟩ = some (.int .i64 ct) ∧ V.cell? ⟨W.heap.size, 1, none⟩ = some (.int .i64 cb) ∧ V.cell? ⟨W.heap.size, 2, none⟩ = some (.bool cs) ∧ V.cell? ⟨(a.add (j * 3)).block, (a.add (j * 3)).off + 2, none⟩ = some (.int .u32 (qt : Int))) := Lib.hid fun V hV =>
          ⟨(hV.cell (p := ⟨W.heap.size, 0, none⟩) hpl).trans p0, (hV.cell (p := ⟨W.heap.size, 1, none⟩) hpl).trans p1, (hV.cell (p := ⟨W.heap.size, 2, none⟩) hpl).trans p2, (hV.cell (p := ⟨(a.add (j * 3)).block, (a.add (j * 3)).off + 2, none⟩) (by show (a.add (j * 3)).block < _; rw [add_block]; omega)).trans t2⟩
        clear hlog hckf hadj hT hB hqd
        have HV : Below wr.heap.size wr wr.drew := (Below.refl _ _).drew
        have HA0 : CBox (wr.alloc (.cells #[.int .i64 0, .int .i64 0, .bool false] 23)).drew wr.heap.size Ck.none := CBox.new wr Ck.none
        have HAV : Below wr.heap.size wr (wr.alloc (.cells #[.int .i64 0, .int .i64 0, .bool false] 23)).drew := ((Below.refl _ _).alloc (Nat.le_refl _) _).drew
        have hwz : wr.heap.size < (wr.alloc (.cells #[.int .i64 0, .int .i64 0, .bool false] 23)).drew.heap.size := HA0.lt
        go_upto_region 10 with fail
        go_region_held3 (fun V => V.cell? ⟨W.heap.size, 0, none⟩ = some (.int .i64 ct) ∧ V.cell? ⟨W.heap.size, 1, none⟩ = some (.int .i64 cb) ∧ V.cell? ⟨W.heap.size, 2, none⟩ = some (.bool cs) ∧ V.cell? ⟨(a.add (j * 3)).block, (a.add (j * 3)).off + 2, none⟩ = some (.int .u32 (qt : Int))) (first | exact KEEP.out _ HV | exact KEEP.out _ HAV | exact KEEP.out _ (HV.alloc HV.size _) | exact KEEP.out _ (set3_below HV HV.size (Nat.le_refl _) ⟨_, _, _⟩) | exact KEEP.out _ (set3_below (HV.alloc HV.size _) (HV.alloc HV.size _).size HV.size ⟨_, _, _⟩))
          (first
            | (go_at_call 17; refine (hac.out _ (by first | rfl | exact hrem | exact hremw) _).mono ?_; rintro e w2 ⟨v2, rfl, HP, hb2⟩; obtain ⟨A2, n2, c2, rfl, hE2⟩ := HP.sl; obtain rfl : n2 = 2 := hE2.len; obtain ⟨pp, rfl, -, -⟩ := hE2.at_ (by simp); clear hE2; (first | (have HV := HV.trans (hb2.mono HV.size)) | (have HC := CBox.below HA0 hb2 hwz; have HV := HAV.trans (hb2.mono HAV.size); have n0 := HC.c0; have n1 := HC.c1; have n2 := HC.c2; have f0 := HC.fz 0; have f1 := HC.fz 1; have f2 := HC.fz 2))))
        · have HY := HV.alloc HV.size (.cells #[.int .i64 ct, .int .i64 B, .bool true] 23)
          have HD := CBox.new w2 ⟨ct, B, true⟩
          simp only [Ck.cells] at HD
          have hr := HV.size
          have HP := eown_base (eown_below HP ((Below.refl _ _).alloc (Nat.le_refl _) (.cells #[.int .i64 ct, .int .i64 B, .bool true] 23))) (show W.heap.size + 1 ≤ wr.heap.size from hpl)
          obtain ⟨r, hrr⟩ : ∃ r, w2.heap.size = r := ⟨_, rfl⟩
          generalize w2.alloc (.cells #[.int .i64 ct, .int .i64 B, .bool true] 23) = Y at *
          rw [hrr] at HD hr ⊢
          clear hrr HV
          clear HA0 HAV hwz KEEP p0 p1 p2 t0 t1 t2 hac hrem hremw
          have hpW : W.heap.size < wr.heap.size := hpl
          have P1 := CBox.below HR.out.box HY hpl
          have O1 := eown_below HR.out.own HY
          have L1 := lown_below HR.out.tks HY
          have B1 := HR.out.bel.trans (HY.mono HR.out.bel.size)
          have hjt := HR.out.t
          have hjb := HR.out.b
          have hfew := HR.out.few
          have hlen := HR.out.log.len
          have y0 := HD.c0
          have y1 := P1.c0
          simp only at y0 y1
          clear HY HR
          replace O1 := Lib.hid O1
          replace L1 := Lib.hid L1
          replace B1 := Lib.hid B1
          replace HP := Lib.hid HP
          have hcc : (2 : Int) ≤ (c2 : Int) := by have := HP.out.sl; obtain ⟨A9, n9, c9, h9, hs9⟩ := this; injection h9 with e1 e2 e3; have := hs9.cap; omega
          go_wp2_with (first
            | (refine wpList_load_ck rfl (.tmp 7) rfl r ⟨ct, B, true⟩ rfl HD ?_)
            | (refine wpList_store_ck rfl (.tmp 3) (.tmp 59) rfl W.heap.size ⟨ct, B, true⟩ ⟨ct, cb, cs⟩ rfl rfl P1 ?_; intro Y2 P2 G2; refine Hid.out ?_))
          refine Lib.hid ?_
          have O2 := eown_off O1.out G2 (Nat.lt_succ_self _)
          have L2 := Lib.hid (lown_off L1.out G2 (Nat.lt_succ_self _))
          have B2 := Lib.hid (B1.out.grown G2 B1.out.size (fun k hk => by injection hk; omega))
          have HP2 := evs_of_own (eown_off HP.out G2 (Nat.lt_succ_self _)) (by simp)
          have z2 : W.heap.size + 1 ≤ Y2.heap.size := P2.lt
          clear O1 L1 B1 P1 HD G2 HP y0 y1
          replace P2 := Lib.hid P2
          go_wp2_with (go_loud (refine wpList_append_e _ rfl (.tmp 60) (.tmp 61) rfl (W.heap.size + 1) u4 E rfl O2 [chg 0 T, chg 128 q] pp 2 c2 rfl rfl HP2 (by simp; omega) z2 ?_); intro x4 Y5 O5 G5; refine Hid.out ?_)
          refine Lib.hid ?_
          have L5 := lown_kept L2.out O2 G5
          have P5 := box_own P2.out O2 G5 (Nat.lt_succ_self _)
          have B5 := Lib.hid (below_own O2 B2.out G5 (Nat.le_succ _) (Nat.le_of_succ_le z2))
          have z5 : W.heap.size + 1 ≤ Y5.heap.size := P5.lt
          replace O5 := Lib.hid O5
          clear L2 P2 B2 O2 G5 HP2 z2
          have q0 := P5.c0
          simp only at q0
          have L6 := lown_below L5 ((Below.refl _ _).alloc (Nat.le_refl _) (.cells #[.int .i64 ct, .int .i64 ct] 2))
          have z6 : W.heap.size + 1 ≤ (Y5.alloc (.cells #[.int .i64 ct, .int .i64 ct] 2)).heap.size := by simp; omega
          have P6 := Lib.hid (P5.alloc (.cells #[.int .i64 ct, .int .i64 ct] 2))
          have O6 := Lib.hid (eown_below O5.out ((Below.refl _ _).alloc (Nat.le_refl _) (.cells #[.int .i64 ct, .int .i64 ct] 2)))
          have B6 := Lib.hid (B5.out.alloc B5.out.size (.cells #[.int .i64 ct, .int .i64 ct] 2))
          clear L5 P5
          go_wp2_with (go_loud (refine wpList_append_l _ rfl (.tmp 63) (.tmp 68) rfl (W.heap.size + 1) u5 K rfl L6 [ct, ct] ⟨Y5.heap.size, 0, none⟩ 2 2 (Y5.heap.size + 1) rfl rfl (Rd.new Y5 _ _) (by simp; omega) z6 ?_); intro x5 Y7 L7 G7; refine Hid.out ?_)
          refine Lib.hid ?_
          have O7 := Lib.hid (eown_kept O6.out L6 G7)
          have P7 := Lib.hid (box_lown P6.out L6 G7 (Nat.lt_succ_self _))
          have B7 := Lib.hid (below_lown L6 B6.out G7 (Nat.le_succ _) (Nat.le_of_succ_le z6))
          replace L7 := Lib.hid L7
          clear L6 O5 O6 P6 B5 B6 G7 q0 z6 z5
          go_wp2_with fail
          try simp only at hjt hjb
          refine ⟨⟨j + 1, ⟨ct, B, true⟩, _, _, by go_num, ⟨by omega, hlog2.out, ⟨by show 0 ≤ ct; omega, by show ct ≤ _; omega⟩, by show ct / 10 + B ≤ _; omega, by simp; omega, P7.out, O7.out, L7.out, B7.out⟩⟩, ?_⟩
          simp [intOf]; omega
        · have HY := set3_below HV HV.size (Nat.le_refl _) ⟨ct, B, true⟩
          have HD := set3_box HC ⟨ct, B, true⟩
          have HP := eown_base (eown_off HP (set3_grown w2 wr.heap.size ⟨ct, B, true⟩) hwz) (show W.heap.size + 1 ≤ (wr.alloc (.cells #[.int .i64 0, .int .i64 0, .bool false] 23)).drew.heap.size by omega)
          have hr : wr.heap.size ≤ wr.heap.size := Nat.le_refl _
          unfold set3 at HY HD HP
          clear n0 n1 n2 f0 f1 f2 HC
          generalize ((w2.setCell ⟨wr.heap.size, 0, none⟩ (.int .i64 ct)).setCell ⟨wr.heap.size, 1, none⟩ (.int .i64 B)).setCell ⟨wr.heap.size, 2, none⟩ (.bool true) = Y at *
          obtain ⟨r, hrr⟩ : ∃ r, r = wr.heap.size := ⟨_, rfl⟩
          rw [← hrr] at HD ⊢
          rw [← hrr] at hr
          clear HV hrr
          clear HA0 HAV hwz KEEP p0 p1 p2 t0 t1 t2 hac hrem hremw
          have hpW : W.heap.size < wr.heap.size := hpl
          have P1 := CBox.below HR.out.box HY hpl
          have O1 := eown_below HR.out.own HY
          have L1 := lown_below HR.out.tks HY
          have B1 := HR.out.bel.trans (HY.mono HR.out.bel.size)
          have hjt := HR.out.t
          have hjb := HR.out.b
          have hfew := HR.out.few
          have hlen := HR.out.log.len
          have y0 := HD.c0
          have y1 := P1.c0
          simp only at y0 y1
          clear HY HR
          replace O1 := Lib.hid O1
          replace L1 := Lib.hid L1
          replace B1 := Lib.hid B1
          replace HP := Lib.hid HP
          have hcc : (2 : Int) ≤ (c2 : Int) := by have := HP.out.sl; obtain ⟨A9, n9, c9, h9, hs9⟩ := this; injection h9 with e1 e2 e3; have := hs9.cap; omega
          go_wp2_with (first
            | (refine wpList_load_ck rfl (.tmp 7) rfl r ⟨ct, B, true⟩ rfl HD ?_)
            | (refine wpList_store_ck rfl (.tmp 3) (.tmp 59) rfl W.heap.size ⟨ct, B, true⟩ ⟨ct, cb, cs⟩ rfl rfl P1 ?_; intro Y2 P2 G2; refine Hid.out ?_))
          refine Lib.hid ?_
          have O2 := eown_off O1.out G2 (Nat.lt_succ_self _)
          have L2 := Lib.hid (lown_off L1.out G2 (Nat.lt_succ_self _))
          have B2 := Lib.hid (B1.out.grown G2 B1.out.size (fun k hk => by injection hk; omega))
          have HP2 := evs_of_own (eown_off HP.out G2 (Nat.lt_succ_self _)) (by simp)
          have z2 : W.heap.size + 1 ≤ Y2.heap.size := P2.lt
          clear O1 L1 B1 P1 HD G2 HP y0 y1
          replace P2 := Lib.hid P2
          go_wp2_with (go_loud (refine wpList_append_e _ rfl (.tmp 60) (.tmp 61) rfl (W.heap.size + 1) u4 E rfl O2 [chg 0 T, chg 128 q] pp 2 c2 rfl rfl HP2 (by simp; omega) z2 ?_); intro x4 Y5 O5 G5; refine Hid.out ?_)
          refine Lib.hid ?_
          have L5 := lown_kept L2.out O2 G5
          have P5 := box_own P2.out O2 G5 (Nat.lt_succ_self _)
          have B5 := Lib.hid (below_own O2 B2.out G5 (Nat.le_succ _) (Nat.le_of_succ_le z2))
          have z5 : W.heap.size + 1 ≤ Y5.heap.size := P5.lt
          replace O5 := Lib.hid O5
          clear L2 P2 B2 O2 G5 HP2 z2
          have q0 := P5.c0
          simp only at q0
          have L6 := lown_below L5 ((Below.refl _ _).alloc (Nat.le_refl _) (.cells #[.int .i64 ct, .int .i64 ct] 2))
          have z6 : W.heap.size + 1 ≤ (Y5.alloc (.cells #[.int .i64 ct, .int .i64 ct] 2)).heap.size := by simp; omega
          have P6 := Lib.hid (P5.alloc (.cells #[.int .i64 ct, .int .i64 ct] 2))
          have O6 := Lib.hid (eown_below O5.out ((Below.refl _ _).alloc (Nat.le_refl _) (.cells #[.int .i64 ct, .int .i64 ct] 2)))
          have B6 := Lib.hid (B5.out.alloc B5.out.size (.cells #[.int .i64 ct, .int .i64 ct] 2))
          clear L5 P5
          go_wp2_with (go_loud (refine wpList_append_l _ rfl (.tmp 63) (.tmp 68) rfl (W.heap.size + 1) u5 K rfl L6 [ct, ct] ⟨Y5.heap.size, 0, none⟩ 2 2 (Y5.heap.size + 1) rfl rfl (Rd.new Y5 _ _) (by simp; omega) z6 ?_); intro x5 Y7 L7 G7; refine Hid.out ?_)
          refine Lib.hid ?_
          have O7 := Lib.hid (eown_kept O6.out L6 G7)
          have P7 := Lib.hid (box_lown P6.out L6 G7 (Nat.lt_succ_self _))
          have B7 := Lib.hid (below_lown L6 B6.out G7 (Nat.le_succ _) (Nat.le_of_succ_le z6))
          replace L7 := Lib.hid L7
          clear L6 O5 O6 P6 B5 B6 G7 q0 z6 z5
          go_wp2_with fail
          try simp only at hjt hjb
          refine ⟨⟨j + 1, ⟨ct, B, true⟩, _, _, by go_num, ⟨by omega, hlog2.out, ⟨by show 0 ≤ ct; omega, by show ct ≤ _; omega⟩, by show ct / 10 + B ≤ _; omega, by simp; omega, P7.out, O7.out, L7.out, B7.out⟩⟩, ?_⟩
          simp [intOf]; omega
    · have hjn : j = n := by have := R.jl; have := HL.out; omega
      have hlog := R.log
      have hE60 : E.length ≤ 120 := by have := R.few; omega
      have hlen := hlog.len
      obtain ⟨A4, n4, c4, rfl, hE⟩ := R.own.sl
      have hn4 : n4 = E.length := hE.len
      have hrec := Lib.hid (rec_p hE hlog.fit (by omega))
      rw [show rec E = (tms E, 0) by unfold rec; rw [if_pos hlog.pr]] at hrec
      have hPb := R.box
      have hTk := R.tks
      have hBl := R.bel
      have hcap4 := hE.cap
      replace hlog := Lib.hid hlog
      replace hn4 := Lib.hid hn4
      replace hlen := Lib.hid hlen
      clear R hE hjn
      go_wp2_with fail
      refine hrec.out.mono ?_
      rintro e w2 ⟨vt, rfl, hot, hb2⟩
      have P2 := hPb.below hb2 hPb.lt
      have T2 := lown_below hTk hb2
      have B2 := Lib.hid (hBl.trans (hb2.mono hBl.size))
      obtain ⟨At, nt, capt, rfl, hnt, rowt, hct, hmt⟩ := lown_sl hot
      obtain ⟨Ak, nk, capk, rfl, hnk, rowk, hck, hmk⟩ := lown_sl T2
      have hntI : nt = n4 := by rw [hnt, tms_len, hn4.out]
      subst hntI
      have hnkI : nk = nt := by rw [hnk, ← hlen.out, hn4.out]
      subst hnkI
      have c1 := P2.c1
      have HLG := hlog
      have HN := hn4
      have hnt9 : nk ≤ 120 := by have := hn4.out; omega
      clear hot hb2 hPb hTk hBl T2 P2 hrec hlog hn4 hnt hnk hlen
      go_wp2_with fail
      go_loopw [16] (fun i wr' => ∃ k : Nat, k ≤ nk ∧ i = .int .i64 (k : Int) ∧ ∃ d, wr' = w2.drewN d) (fun i _ => nk - (intOf i).toNat)
      case atStart => exact ⟨0, Nat.zero_le _, rfl, 0, rfl⟩
      case round =>
        obtain ⟨k, hk, rfl, d, rfl⟩ := hrel
        rcases Nat.lt_or_ge k nk with hkn | hkn
        · have hkE : k < (tms E).length := by rw [tms_len, ← HN.out]; exact hkn
          have hkK : k < K.length := by rw [← HLG.out.len, ← HN.out]; exact hkn
          obtain ⟨at1, rfl, hab1, x1⟩ := irow_at rowt hkE
          obtain ⟨ak1, rfl, hab2, x2⟩ := irow_at rowk hkK
          have htv : (tms E)[k] = K[k] / 10 + c.b := by
            have := HLG.out.tm
            rw [List.getElem_of_eq this hkE, List.getElem_map]
          have hK0 := HLG.out.le _ (List.getElem_mem hkK)
          have hcb := HLG.out.ok
          obtain ⟨y, hy⟩ : ∃ y, y = K[k] := ⟨_, rfl⟩
          rw [← hy] at x2 htv hK0
          rw [htv] at x1
          obtain ⟨g1, g2, g3, g4, g5⟩ := Ck.ok_b hcb
          unfold Ck.tm at g4 g5
          have hyt := tdiv_ten hK0.1 (by omega)
          have hys : wrap64 (y / 10 + c.b) = y / 10 + c.b := by unfold wrap64; omega
          have b0 : (0 : Int) ≤ (k : Int) := by omega
          have b1 : (k : Int) < (nk : Int) := by omega
          by_cases hk0 : k = 0
          · subst hk0
            clear hy htv hcb g3 g4 g5
            have x1' : w2.cell? at1 = some (.int .i64 (y / 10 + c.b)) := x1
            have x2' : w2.cell? ak1 = some (.int .i64 y) := x2
            have b1' : (0 : Int) < (nk : Int) := b1
            rw [show ((0 : Nat) : Int) = 0 from rfl]
            go_wp2_with fail
            go_quiet (fail)
            go_wp2_with fail
            exact ⟨⟨1, by omega, by go_num, _, rfl⟩, by simp [intOf]; omega⟩
          · obtain ⟨i, hi⟩ : ∃ i, k = i + 1 := ⟨k - 1, by omega⟩
            have hiE : i < (tms E).length := by omega
            have hiK : i < K.length := by omega
            obtain ⟨at2, hat2, -, x3⟩ := irow_at rowt hiE
            obtain rfl := Option.some.inj hat2
            have htv2 : (tms E)[i] = K[i] / 10 + c.b := by
              have := HLG.out.tm
              rw [List.getElem_of_eq this hiE, List.getElem_map]
            have hup : K[i] ≤ K[k] := by
              subst hi
              exact up_get HLG.out.up i hkK
            rw [htv2] at x3
            obtain ⟨y', hy'⟩ : ∃ y', y' = K[i] := ⟨_, rfl⟩
            rw [← hy'] at x3 hup
            rw [← hy] at hup
            have hnl : ¬ y / 10 + c.b < y' / 10 + c.b := by omega
            have hii : wrap64 ((k : Int) - 1) = (i : Int) := by unfold wrap64; omega
            have hq1 : IntKind.i64.wrap (y.tdiv 10) = y / 10 := by rw [Int.tdiv_eq_ediv_of_nonneg hK0.1]; exact IntWalk.i64_in _ ⟨by omega, by omega⟩
            have hq2 : IntKind.i64.wrap (y / 10 + c.b) = y / 10 + c.b := IntWalk.i64_in _ ⟨by unfold wrap64 at hys; omega, by unfold wrap64 at hys; omega⟩
            obtain ⟨u1, hu1⟩ : ∃ u, u = y / 10 + c.b := ⟨_, rfl⟩
            obtain ⟨u2, hu2⟩ : ∃ u, u = y' / 10 + c.b := ⟨_, rfl⟩
            rw [← hu1] at x1 hnl hys
            rw [← hu2] at x3 hnl
            have hys : wrap64 (y / 10 + c.b) = u1 := by rw [← hu1]; exact hys
            rw [← hu1] at hq2
            have hq2 : IntKind.i64.wrap (y / 10 + c.b) = u1 := by rw [← hu1]; exact hq2
            replace hu1 := Lib.hid hu1
            replace hu2 := Lib.hid hu2
            have hip : (0 : Int) < (k : Int) := by omega
            have b2 : (0 : Int) ≤ (i : Int) := by omega
            have b3 : (i : Int) < (nk : Int) := by omega
            clear hy hy' htv htv2 hcb g3 g4 g5 hat2 hup hk0
            replace hi := Lib.hid hi
            have hq3 : IntKind.i64.wrap ((k : Int) - 1) = (i : Int) := by rw [IntWalk.i64_in _ ⟨by omega, by omega⟩]; have := hi.out; omega
            have hkN : 0 < k := by omega
            have hq4 : decide ((0 : Int) < (k : Int)) = true := by simpa using hip
            have hq5 : decide (u1 < u2) = false := by simpa using hnl
            have hq6 : (u1 != u1) = false := by simp
            go_wp2_with fail
            go_region_held3 (fun V => V.cell? (at1.add k) = some (.int .i64 u1) ∧ V.cell? (ak1.add k) = some (.int .i64 y) ∧ V.cell? (at1.add i) = some (.int .i64 u2) ∧ V.cell? ⟨W.heap.size, 1, none⟩ = some (.int .i64 c.b)) (first | exact ⟨x1, x2, x3, c1⟩) (fail)
            go_wp2_with fail
            exact ⟨⟨k + 1, by omega, by go_num, d + 1, by first | rfl | exact World.drewN_drewN w2 d 1⟩, by simp [intOf]; omega⟩
        · go_wp2_with fail
          refine (haw.out _).mono ?_
          rintro e w3 ⟨rfl, hb3⟩
          have hd : Below w2.heap.size w2 (w2.drewN d) := ⟨rfl, rfl, rfl, Nat.le_refl _, fun _ _ => rfl⟩
          have B3 := B2.out.trans (hd.mono B2.out.size)
          go_wp2_with fail
          go_ret
          exact ⟨rfl, B3.trans (hb3.mono B3.size)⟩

theorem cells_u8 : Try.prog.cellsOf 5 = 1 := by kernel_rfl
theorem own : ownKnob Try.prog.godebug = none := by kernel_rfl
theorem laidOut : laidOutB Try.prog = true := by kernel_rfl
theorem contract (H : Type) (enc : TypeId × Value → H) (W : World) (base : Nat) (args : Array Value) (ds gs : List (DataW H)) (before : List MemPlace)
    (hval : ∀ (j : Nat) t v, Try.f6.params[j]? = some t → args[j]? = some v → Value.okWide Try.prog W .any base t v)
    (hW : DataW.Whole enc Try.prog Try.f6.params.toList Rows.clockTruthSpec.vars false W args.toList ds gs before) :
    Calls Try.prog 6 args W fun e W' => ∃ v, e = .returned v ∧ Rows.clockTruthSpec.post enc Try.prog Try.f6 false true false false W args v W' := by
  have hW' := hW
  obtain ⟨p, q, hA0, hV, rfl, hfz, hnd⟩ := hW
  have hA : DataW.TrodAll enc Try.prog W 0 (fun _ => true) true Try.f6.params.toList args.toList ds p := hA0
  rw [Try.params6] at hA hval
  obtain ⟨v0, vs0, d0, ds0, p0, q0, hargs, rfl, rfl, h0, r0⟩ := trodAll_cons hA
  obtain ⟨rfl, rfl, rfl⟩ := trodAll_nil r0
  obtain rfl : args = #[v0] := by cases args; simp_all
  obtain ⟨A0, n0, c0, l0, rfl, hr0, hf0⟩ := open_acts Try.underlying56 Try.underlying58 (by kernel_rfl) ⟨rfl, rfl, rfl⟩ ⟨by kernel_rfl, by kernel_rfl, by kernel_rfl⟩ Try.underlying4 Try.underlying3 Try.underlying31 (hval 0 56 v0 rfl rfl) h0
  clear hA0
  refine (walk A0 n0 c0 l0 hf0 W hr0).mono fun e W' ⟨he, hb⟩ => ?_
  subst he
  exact ⟨_, rfl, law_post laidOut (types_fit (by kernel_rfl)) (by kernel_rfl) Try.underlying4 rfl (fun xs hx => by
    match xs, hx with
    | [_], _ => rfl) hW' hb⟩

theorem lifted (os : Os) (started : os.Started) (H : Type) (enc : TypeId × Value → H) :
    ReturnsInHanded {} Try.checked os 6 .any (Rows.clockTruthSpec.pre6 enc Try.prog Try.f6 Rows.clockTruthRow.domain false) (Rows.clockTruthSpec.post enc Try.prog Try.f6 false true false false) := by
  refine returnsInHanded_of_change (C := Try.checked) own started (by kernel_rfl) Try.func6
    (ChangeSpec.witness6 (enc := enc) (C := Try.checked) false ⟨#[], #[.slice none 0 0], []⟩ 8 (by kernel_rfl) (by kernel_rfl) (by kernel_rfl) (by kernel_rfl)) ?_
  intro W base args ds gs before hval hW _ _
  exact contract H enc W base args ds gs before hval hW

theorem proved : Rows.ClockTruthSaid :=
  OpenClaim.holds_of_wide 6 Try.f6 rfl rfl rfl rfl rfl rfl rfl ⟨rfl, rfl, rfl, rfl, rfl⟩ rfl rfl rfl rfl rfl (by kernel_rfl) Try.func6 (by kernel_rfl)
    (of_decide_eq_true (by kernel_rfl)) (by unfold Func.isWrapper; first | (rw [if_pos (by decide +kernel)]; kernel_rfl) | (rw [if_neg (by decide +kernel)]; exact ⟨rfl, rfl⟩))
    (fun os started H enc _ => lifted os started H enc)
end Go.Proofs.Ytafhbdbmoeihaaa.clockTruth
