/- Walks: a record is written. -/
import Derived.Test.YtekhpcfggbegaaaGi
namespace Go.Proofs.Ytekhpcfggbegaaa.G9
open Go.RowKit Go.Proofs.Ytekhpcfggbegaaa.Mem Go.Proofs.Ytekhpcfggbegaaa.E5p Go.Proofs.Ytekhpcfggbegaaa.E5m Go.Proofs.Ytekhpcfggbegaaa.E5a Go.Proofs.Ytekhpcfggbegaaa.E5d Go.Proofs.Ytekhpcfggbegaaa.V7 Go.Proofs.Ytekhpcfggbegaaa.V9
set_option maxRecDepth 100000
set_option maxHeartbeats 4000000

/-- The append of records, as one step of a region that draws. -/
theorem step_append_r (w : World) {ops : Array Oper} {o : Oper} {a : Act} {K : Act → World → Prop} {Q : Exit → Act → World → Prop} {E : Prop} (hgd : o.guard = none) (s x : Operand)
    (ho : o.op = .call { callee := .builtin .append, args := #[s, x], argTypes := #[128, 128] })
    (base : Nat) (v : Value) (l : List Rc) (hs : a.eval s = v) (hown : ROwn base w v l) (m : List Rc) (p : Addr) (n c : Nat) (hx : a.eval x = .slice (some p) n c) (hn : n = m.length) (hm : RcsAt w p m)
    (hl : l.length + m.length ≤ 1000) (hbase : base ≤ w.heap.size)
    (h : ∀ v' w', ROwn base w' v' (l ++ m) → w.grownBy w' v.ownBlock → (v'.ownBlock = v.ownBlock ∨ v'.ownBlock = some w.heap.size) → K (a.put o.dst v') w') : if Region.wanted o (yielded ops a.tmps) = true then Oper.wp Try.prog o a w K Q else E := by
  have hw : Region.wanted o (yielded ops a.tmps) = true := by simp [Region.wanted, hgd]
  rw [if_pos hw]
  obtain ⟨v', w', hrun, h2, h3, h4⟩ := run_append_r w base o.type v l hown m p n c hn hm hl hbase
  unfold Oper.wp execOp
  simp only [ho, resolve, invoke, builtin, Sem.run_bind, Sem.run_pure, Result.andThen_ok, List.map_toArray, List.map_cons, List.map_nil, hs, hx, hrun]
  exact h v' w' h2 h3 h4
theorem write_1 {s : Fl} {L : Lg} {e : Ev} {r : Fl × Int} {X : Nat} (hX : X = L.start s L.newest + (11 + L.used * 17)) (h : s.program (X : Int) (encE e ++ [0]) = r) (h1 : r.2 ≠ 0) : Lg.write s L e = (r.1, L, r.2) := by
  unfold Lg.write
  dsimp only
  rw [show ((L.start s L.newest : Nat) : Int) + (11 + (L.used : Int) * 17) = (X : Int) by rw [hX]; push_cast; rfl, h, if_pos h1]
theorem write_2 {s : Fl} {L : Lg} {e : Ev} {r : Fl × Int} {X : Nat} (hX : X = L.start s L.newest + (11 + L.used * 17)) (h : s.program (X : Int) (encE e ++ [0]) = r) (h1 : r.2 = 0) : Lg.write s L e = (r.1, L.wrote e, 0) := by
  unfold Lg.write
  dsimp only
  rw [show ((L.start s L.newest : Nat) : Int) + (11 + (L.used : Int) * 17) = (X : Int) by rw [hX]; push_cast; rfl, h, if_neg (by simp [h1])]
section
variable {B : Nat} {W w w' : World} {d : Sh} {s s' : Fl} {m m' g n n' : Nat} {rv rv' : Value} {L L' : Lg}
theorem write_p (h : LA B W w d s m g rv L n) (hm : m ≤ 800000) (hn : n ≤ 900) (e : Ev) (he : e.Fit) (hv : vld e = true) (hnew : 1 ≤ L.newest) (hu : L.used < slots s) :
    Calls Try.prog 116 #[.pointer (some ⟨g, 0, none⟩), e.v] w fun x w' => ∃ rv', x = .returned (.int .i64 (Lg.write s L e).2.2) ∧ LA B W w' d (Lg.write s L e).1 (m + 20) g rv' (Lg.write s L e).2.1 (n + 1) ∧ Kp d g rv rv' w w' := by
  have hlg := h.lg
  have hnw := h.ok.newest
  have h59 := (slots_le h.dev.ok).1
  have hle := start_le h.ok h.dev.ok L.newest
  have hby := h.dev.ok.bytes_le
  have hn0 : L.newest ≤ 4294967296 := by omega
  have hu2 : L.used ≤ 1000 := by omega
  have hu59 : L.used ≤ 59 := by omega
  have hid : e.id ≤ 65534 := by simp only [vld, Bool.and_eq_true, decide_eq_true_eq] at hv; exact hv.1.1
  have HSLOT := Lib.hid (fun u => slot_p e he hv u)
  have HSA := Lib.hid (fun u => slotat_p L.used hu2 u)
  obtain ⟨Y, hY⟩ : ∃ Y, Y = L.start s L.newest := ⟨_, rfl⟩
  obtain ⟨Z, hZ⟩ : ∃ Z, Z = 11 + L.used * 17 := ⟨_, rfl⟩
  have hst : ∀ V, LA B W V d s m g rv L n → Calls Try.prog 150 #[.pointer (some ⟨g, 0, none⟩), .int .i64 (L.newest : Int)] V fun x w' => x = .returned (.int .i64 (Y : Int)) ∧ ∃ k, w' = V.drewN k := fun V hV => by rw [hY]; exact start_p hV L.newest hnew hn0
  have HST := Lib.hid hst
  rw [← hZ] at HSA
  have hYl : Y ≤ 100000 := by rw [hY]; omega
  have hZl : Z ≤ 100000 := by omega
  have hcast : ((Y + Z : Nat) : Int) = (Y : Int) + (Z : Int) := by omega
  obtain ⟨r, hr⟩ : ∃ r, r = s.program ((Y : Int) + (Z : Int)) (encE e ++ [0]) := ⟨_, rfl⟩
  have hYZ : Y + Z ≤ 1000000 := by omega
  have HPG : Hid (∀ V A4 n4 c4, LA B W V d s m g rv L n → Sl V A4 n4 c4 (encE e ++ [0]) → Off d A4 (encE e ++ [0]) →
      Calls Try.prog 149 #[.pointer (some ⟨d.g, 0, none⟩), .int .i64 ((Y : Int) + (Z : Int)), .slice A4 n4 c4] V fun e w' => e = .returned (.int .i64 r.2) ∧ LA B W w' d r.1 (m + 17) g rv L n ∧ Kp d g rv rv V w') := Lib.hid (fun V A4 n4 c4 hV hs hf => by
    have := hV.program (by omega) A4 n4 c4 _ hs hf (Y + Z) hYZ (by rw [List.length_append, enc_len]; decide)
    rw [List.length_append, enc_len, hcast, ← hr] at this
    exact this)
  have HXX : Hid (Y + Z = L.start s L.newest + (11 + L.used * 17)) := Lib.hid (by rw [hY, hZ])
  have HRR : Hid (s.program ((Y + Z : Nat) : Int) (encE e ++ [0]) = r) := Lib.hid (by rw [hcast, hr])
  have HLK : Hid (Like s r.1) := Lib.hid (by rw [hr]; exact program_like s _ _)
  have HWR : Hid (∀ s2, Like s s2 → (L.wrote e).Ok s2 (n + 1)) := Lib.hid (fun s2 hk => (h.ok.like hk).wrote hu59 e he hid)
  have hal : Below w.heap.size w (w.alloc (.cells e.cells 89)) := (Below.refl _ _).alloc (Nat.le_refl _) _
  have h0 := h.step hal
  have hE : Box (w.alloc (.cells e.cells 89)) w.heap.size e := Box.new w e
  have K0 : Kp d g rv rv w (w.alloc (.cells e.cells 89)) := Kp.of_below hal (Nat.le_refl _)
  have HFB := Lib.hid (h.far (Nat.le_refl w.heap.size))
  have hbx : w.heap.size < (w.alloc (.cells e.cells 89)).heap.size := by simp
  have HN := Lib.hid hn
  have HM := Lib.hid hm
  have HIDE := Lib.hid hid
  clear h hr hst hY hZ hcast hal hv he hid hn hm hu hnew hle hby h59 hn0 hu2 hYZ hnw
  obtain ⟨id, time, gen, st, sn, ty, de, d0, d1, d2⟩ := e
  dsimp only [Ev.v, Ev.cells] at *
  have HE := Lib.hid hE
  have H0 := Lib.hid h0
  replace K0 := Lib.hid K0
  clear hE h0
  go_enter Try.func116, Try.ntmps116
  go_wp2_with fail
  obtain ⟨w0, hw0⟩ : ∃ w0, w0 = w.alloc (.cells #[.int .u16 (id : Int), .int .u32 (time : Int), .int .u16 (gen : Int), .int .u8 (st : Int), .int .u8 (sn : Int), .int .u8 (ty : Int), .bool de, .int .u8 (d0 : Int), .int .u8 (d1 : Int), .int .u8 (d2 : Int)] 89) := ⟨_, rfl⟩
  rw [← hw0] at HE H0 K0 hbx ⊢
  clear hw0
  obtain ⟨bx, hbq⟩ : ∃ bx, bx = w.heap.size := ⟨_, rfl⟩
  rw [← hbq] at HE HFB hbx ⊢
  clear hbq hlg
  have HV := H0.out.drew
  have K1 := K0.out.drew
  have hbx := (show bx < w0.drew.heap.size from hbx)
  have hbc : Box w0.drew bx ⟨id, time, gen, st, sn, ty, de, d0, d1, d2⟩ := HE.out
  have hwr : IntKind.i64.wrap ((Y : Int) + (Z : Int)) = (Y : Int) + (Z : Int) := IntWalk.i64_in _ ⟨by omega, by omega⟩
  have KEEP : Hid (∀ V s m, LA B W V d s m g rv L n → Box V bx ⟨id, time, gen, st, sn, ty, de, d0, d1, d2⟩ → V.cell? ⟨g, 0, none⟩ = some (.pointer (some ⟨d.g, 0, none⟩)) ∧ V.cell? ⟨g, 4, none⟩ = some (.int .i64 (L.newest : Int)) ∧ V.cell? ⟨g, 6, none⟩ = some (.int .i64 (L.used : Int)) ∧ V.cell? ⟨bx, 0, none⟩ = some (.int .u16 (id : Int)) ∧ V.cell? ⟨bx, 1, none⟩ = some (.int .u32 (time : Int)) ∧ V.cell? ⟨bx, 2, none⟩ = some (.int .u16 (gen : Int)) ∧ V.cell? ⟨bx, 3, none⟩ = some (.int .u8 (st : Int)) ∧ V.cell? ⟨bx, 4, none⟩ = some (.int .u8 (sn : Int)) ∧ V.cell? ⟨bx, 5, none⟩ = some (.int .u8 (ty : Int)) ∧ V.cell? ⟨bx, 6, none⟩ = some (.bool de) ∧ V.cell? ⟨bx, 7, none⟩ = some (.int .u8 (d0 : Int)) ∧ V.cell? ⟨bx, 8, none⟩ = some (.int .u8 (d1 : Int)) ∧ V.cell? ⟨bx, 9, none⟩ = some (.int .u8 (d2 : Int))) :=
    Lib.hid fun V _ _ hV hb => ⟨hV.c0, hV.c4, hV.c6, hb.c0, hb.c1, hb.c2, hb.c3, hb.c4, hb.c5, hb.c6, hb.c7, hb.c8, hb.c9⟩
  go_region_held3 (fun V => V.cell? ⟨g, 0, none⟩ = some (.pointer (some ⟨d.g, 0, none⟩)) ∧ V.cell? ⟨g, 4, none⟩ = some (.int .i64 (L.newest : Int)) ∧ V.cell? ⟨g, 6, none⟩ = some (.int .i64 (L.used : Int)) ∧ V.cell? ⟨bx, 0, none⟩ = some (.int .u16 (id : Int)) ∧ V.cell? ⟨bx, 1, none⟩ = some (.int .u32 (time : Int)) ∧ V.cell? ⟨bx, 2, none⟩ = some (.int .u16 (gen : Int)) ∧ V.cell? ⟨bx, 3, none⟩ = some (.int .u8 (st : Int)) ∧ V.cell? ⟨bx, 4, none⟩ = some (.int .u8 (sn : Int)) ∧ V.cell? ⟨bx, 5, none⟩ = some (.int .u8 (ty : Int)) ∧ V.cell? ⟨bx, 6, none⟩ = some (.bool de) ∧ V.cell? ⟨bx, 7, none⟩ = some (.int .u8 (d0 : Int)) ∧ V.cell? ⟨bx, 8, none⟩ = some (.int .u8 (d1 : Int)) ∧ V.cell? ⟨bx, 9, none⟩ = some (.int .u8 (d2 : Int))) (first | exact KEEP.out _ _ _ HV hbc)
    (first
      | (go_at_call 150; refine (HST.out _ HV).mono ?_; rintro e w2 ⟨rfl, k2, rfl⟩; have HV := HV.drewN k2; have K1 := K1.drewN k2; (try simp only [World.drewN_drew] at HV K1))
      | (go_at_call 151; refine (HSA.out _).mono ?_; rintro e w2 ⟨rfl, rfl⟩)
      | (go_at_call 152; refine (HSLOT.out _).mono ?_; rintro e w4 ⟨v4, rfl, ho4, hb4⟩; obtain ⟨A4, n4, c4, rfl, hs4⟩ := Sl.of_own ho4; have hf4 := off_own ho4 HV (Nat.le_refl _); clear ho4; have HV := HV.step hb4; have K1 := K1.trans (Kp.of_below hb4 (Nat.le_refl _)); have hbc := (hb4.block bx hbx).trans hbc; have hbx := Nat.lt_of_lt_of_le hbx hb4.size; clear hb4)
      | (go_at_call 149; refine (HPG.out _ _ _ _ HV (by first | exact hs4 | exact hs4.step ⟨rfl, rfl, rfl, Nat.le_refl _, fun _ _ => rfl⟩) hf4).mono ?_; rintro e w5 ⟨rfl, HV, KK⟩; have hbc := (KK.at_ HFB.out hbx).1.trans hbc; have K1 := K1.trans KK; have hbx := Nat.lt_of_lt_of_le hbx KK.size; clear KK))
  have hbg : bx ≠ g := HFB.out.2.2.2.1
  have hlg := HV.lg
  obtain ⟨s1, e1⟩ := r
  simp only at HV HLK ⊢
  replace K1 := Lib.hid K1
  clear hs4 hf4 KEEP hwr HST HSA HSLOT HPG
  rcases Classical.em (e1 = 0) with he | he
  · subst he
    have HW2 := Lib.hid (write_2 HXX.out HRR.out rfl)
    have OK2 := Lib.hid (HWR.out s1 HLK.out)
    have hid : id ≤ 65534 := HIDE.out
    have hbe := behind_rng hid
    have o1 : ({ L with used := L.used + 1 } : Lg).Ok s1 (n + 1) := { two := OK2.out.two, fits := OK2.out.fits, newest := OK2.out.newest, tail0 := OK2.out.tail0, tail1 := OK2.out.tail1, used := OK2.out.used, none := OK2.out.none, nid := HV.ok.nid, many := Nat.le_succ_of_le HV.ok.many, fit := HV.ok.fit, resv := OK2.out.resv }
    have o2 : ({ L with used := L.used + 1, nid := Lg.behind id } : Lg).Ok s1 (n + 1) := { two := OK2.out.two, fits := OK2.out.fits, newest := OK2.out.newest, tail0 := OK2.out.tail0, tail1 := OK2.out.tail1, used := OK2.out.used, none := OK2.out.none, nid := hbe, many := Nat.le_succ_of_le HV.ok.many, fit := HV.ok.fit, resv := OK2.out.resv }
    have HV' : LA B W w5 d s1 (m + 17) g rv L (n + 1) := ⟨HV.dev, HV.head, HV.own, HV.low, HV.ok.more (Nat.le_succ n)⟩
    have c6 := HV.c6; have f6 := HV.fz 6
    have hbcB : Box w5 bx ⟨id, time, gen, st, sn, ty, de, d0, d1, d2⟩ := hbc
    have hid0 := hbcB.c0
    have p1 := HV'.put' 6 (.int .i64 ((L.used : Int) + 1)) (L' := { L with used := L.used + 1 }) rfl rfl o1
    have q1 : Kp d g rv rv w5 (w5.setCell ⟨g, 6, none⟩ (.int .i64 ((L.used : Int) + 1))) := Kp.put _ 6
    have hb1 : Box (w5.setCell ⟨g, 6, none⟩ (.int .i64 ((L.used : Int) + 1))) bx ⟨id, time, gen, st, sn, ty, de, d0, d1, d2⟩ := (q1.at_ HFB.out hbx).1.trans hbc
    have HBH := Lib.hid (fun u => behind_p id hid u)
    have P1 := Lib.hid p1
    have O2 := Lib.hid o2
    have Q1 := Lib.hid (K1.out.trans q1)
    have HB1 := Lib.hid hb1
    have hbx1 := Nat.lt_of_lt_of_le hbx q1.size
    clear p1 o1 o2 q1 hb1 HV HV' hbc hbcB hbx hbe OK2
    go_wp2_with fail
    have c7 := P1.out.c7; have f7 := P1.out.fz 7
    have hid1 := HB1.out.c0
    generalize w5.setCell ⟨g, 6, none⟩ (.int .i64 ((L.used : Int) + 1)) = w6 at *
    refine (HBH.out _).mono ?_
    rintro x w6' ⟨rfl, rfl⟩
    have p2 := P1.out.put' 7 (.int .u16 ((Lg.behind id : Nat) : Int)) (L' := { L with used := L.used + 1, nid := Lg.behind id }) rfl rfl O2.out
    have q2 : Kp d g rv rv w6 (w6.setCell ⟨g, 7, none⟩ (.int .u16 ((Lg.behind id : Nat) : Int))) := Kp.put _ 7
    have hb2 : Box (w6.setCell ⟨g, 7, none⟩ (.int .u16 ((Lg.behind id : Nat) : Int))) bx ⟨id, time, gen, st, sn, ty, de, d0, d1, d2⟩ := (q2.at_ HFB.out hbx1).1.trans HB1.out
    have hbx2 := Nat.lt_of_lt_of_le hbx1 q2.size
    have P2 := Lib.hid p2
    have Q2 := Lib.hid (Q1.out.trans q2)
    have HB2 := Lib.hid hb2
    clear p2 q2 hb2 P1 Q1 HB1 c6 f6 hid0 hbx1
    go_wp2_with fail
    generalize w6.setCell ⟨g, 7, none⟩ (.int .u16 ((Lg.behind id : Nat) : Int)) = w7 at *
    clear c7 f7 hid1
    have c8 := P2.out.c8; have c4 := P2.out.c4
    have hlg7 := P2.out.lg
    have b0 := HB2.out.c0; have b1 := HB2.out.c1; have b2 := HB2.out.c2; have b3 := HB2.out.c3; have b4 := HB2.out.c4; have b5 := HB2.out.c5; have b6 := HB2.out.c6; have b7 := HB2.out.c7; have b8 := HB2.out.c8; have b9 := HB2.out.c9
    have hal7 : Below w7.heap.size w7 (w7.alloc (.cells #[.int .i64 (L.newest : Int), .int .u16 (id : Int), .int .u32 (time : Int), .int .u16 (gen : Int), .int .u8 (st : Int), .int .u8 (sn : Int), .int .u8 (ty : Int), .bool de, .int .u8 (d0 : Int), .int .u8 (d1 : Int), .int .u8 (d2 : Int)] 133)) := (Below.refl _ _).alloc (Nat.le_refl _) _
    have h8 := (P2.out.step hal7).drew
    have RA : RcAt (w7.alloc (.cells #[.int .i64 (L.newest : Int), .int .u16 (id : Int), .int .u32 (time : Int), .int .u16 (gen : Int), .int .u8 (st : Int), .int .u8 (sn : Int), .int .u8 (ty : Int), .bool de, .int .u8 (d0 : Int), .int .u8 (d1 : Int), .int .u8 (d2 : Int)] 133)) ⟨w7.heap.size, 0, none⟩ ⟨L.newest, ⟨id, time, gen, st, sn, ty, de, d0, d1, d2⟩⟩ := fun q v hv => by
      rw [add_spot]
      exact (cell_of_row _ _ q _ _ _ (heap_alloc_new w7 _)).trans (by rw [← Array.getElem?_toList]; exact hv)
    have K8 := (Q2.out.trans (Kp.of_below (d := d) (g := g) (rv := rv) hal7 (Nat.le_refl _))).drew
    have hlen : L.recs.length + 1 ≤ 1000 := by show L.recs.length + 1 ≤ 1000; exact Nat.le_trans (Nat.succ_le_succ P2.out.ok.many) (Nat.le_trans (Nat.succ_le_succ (Nat.succ_le_succ HN.out)) (by decide))
    have hBz : B ≤ (w7.alloc (.cells #[.int .i64 (L.newest : Int), .int .u16 (id : Int), .int .u32 (time : Int), .int .u16 (gen : Int), .int .u8 (st : Int), .int .u8 (sn : Int), .int .u8 (ty : Int), .bool de, .int .u8 (d0 : Int), .int .u8 (d1 : Int), .int .u8 (d2 : Int)] 133)).drew.heap.size := h8.dev.base
    have H8 := Lib.hid h8
    have RA8 := Lib.hid RA
    have KK8 := Lib.hid K8
    clear hal7 h8 RA K8
    go_region_law (first
      | (go_loud (refine step_append_r _ rfl (.tmp 45) (.tmp 52) rfl B rv L.recs rfl (by exact H8.out.own) [⟨L.newest, ⟨id, time, gen, st, sn, ty, de, d0, d1, d2⟩⟩] ⟨w7.heap.size, 0, none⟩ 1 1 rfl rfl (by exact RA8.out.one) hlen (by exact hBz) ?_); go_loud (intro v8 w8 ho8 hg8 hk8); go_loud (obtain ⟨A8, n8, cc8, rfl, -⟩ := ho8.sl); go_loud (have hc8 := hg8.block g (by exact H8.out.lg) (fun e => H8.out.ne g e.symm rfl)); go_loud (have c8n := (World.cell?_of_block (a := ⟨g, 8, none⟩) hc8).trans (H8.out.c8)); go_loud (have f8n := frozen_of_row w8 g 8 _ _ (hc8.trans H8.out.head))))
    all_goals
      have hne8 : ∀ i, (Value.slice A8 n8 cc8).ownBlock = some i → i ≠ g := fun i hi => by
        rcases hk8 with e | e
        · exact H8.out.ne i (by rw [← e]; exact hi)
        · rw [e] at hi
          injection hi with hi
          rw [← hi]
          exact Nat.ne_of_gt H8.out.lg
      have hfin := Lib.hid (H8.out.recs (by exact hg8) ho8 hne8 (by exact HWR.out s1 HLK.out))
      have kfin := Lib.hid ((KK8.out.trans (Kp.rows (by exact hg8) (rv' := .slice A8 n8 cc8) (fun i hi hn e => by
        rcases hk8 with q | q
        · exact hn (by rw [← q]; exact e)
        · rw [q] at e
          injection e with e
          exact absurd hi (by rw [← e]; exact Nat.lt_irrefl _)))).trans (Kp.put (.slice A8 n8 cc8) 8))
      clear hg8 ho8 hne8 hk8 H8 KK8 c8n f8n hc8
      go_wp2_with fail
      go_ret
      rw [HW2.out]
      first | exact ⟨_, rfl, hfin.out.m_ (Nat.add_le_add_left (by decide : 17 ≤ 20) m), kfin.out⟩ | exact ⟨rfl, _, hfin.out.m_ (Nat.add_le_add_left (by decide : 17 ≤ 20) m), kfin.out⟩
  · have g0 : (e1 != 0) = true := by simpa using he
    have HW1 := Lib.hid (write_1 HXX.out HRR.out he)
    have H5 := Lib.hid HV
    clear he HV hbc
    go_wp2_with fail
    go_ret
    rw [HW1.out]
    have hfin : LA B W w5 d s1 (m + 17) g rv L (n + 1) := ⟨H5.out.dev, H5.out.head, H5.out.own, H5.out.low, H5.out.ok.more (Nat.le_succ n)⟩
    first | exact ⟨rv, rfl, hfin.m_ (Nat.add_le_add_left (by decide : 17 ≤ 20) m), K1.out⟩ | exact ⟨rfl, rv, hfin.m_ (Nat.add_le_add_left (by decide : 17 ≤ 20) m), K1.out⟩
end
end Go.Proofs.Ytekhpcfggbegaaa.G9
