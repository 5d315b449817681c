/- Walks: the reference of clocks: Reconcile. -/
import Derived.Test.YtncpbgmbneobiaaV9u
namespace Go.Proofs.Ytncpbgmbneobiaa.V9
open Go.RowKit Go.Proofs.Ytncpbgmbneobiaa.Mem Go.Proofs.Ytncpbgmbneobiaa.F2p Go.Proofs.Ytncpbgmbneobiaa.V7
set_option maxRecDepth 100000
set_option maxHeartbeats 4000000

theorem rec_r {w : World} {A : Option Addr} {n c : Nat} {l : List Ev} (h : ESl w A n c l) (hf : ∀ e ∈ l, e.Fit) (hn : n ≤ 1000) :
    Calls Try.prog 18 #[.slice A n c] w fun e w' => ∃ v, e = .returned (.tuple #[v, .int .i64 (rec l).2]) ∧ LOwn w.heap.size w' v (rec l).1 ∧ Below w.heap.size w w' := by
  have hmk := Lib.hid (fun x u => mark_r x u)
  have HL := Lib.hid h.len
  have hrow := h.row
  have HF := Lib.hid hf
  obtain ⟨R, hR⟩ : ∃ R, R = paired false l := ⟨_, rfl⟩
  have hrec0 : R = false → (rec l).2 = 6 := fun e => by unfold rec; rw [← hR, e]; rfl
  have hrec1 : R = false → (rec l).1 = [] := fun e => by unfold rec; rw [← hR, e]; rfl
  replace hR := Lib.hid hR
  clear h hf
  obtain ⟨r, hr⟩ : ∃ r, r = rec l := ⟨_, rfl⟩
  rw [← hr] at hrec0 hrec1 ⊢
  replace hr := Lib.hid hr
  replace hrec0 := Lib.hid hrec0
  replace hrec1 := Lib.hid hrec1
  go_enter Try.func18, Try.ntmps18
  go_wp2_with fail
  go_loopw [5] (fun i wr => ∃ j : Nat, j ≤ n ∧ i = .int .i64 (j : Int) ∧ Below w.heap.size w wr ∧ paired (af l j) (l.drop j) = R ∧ (af l j = true → ∃ h : j < l.length, mk l[j] = 2)) (fun i _ => n - (intOf i).toNat)
  case atStart => exact ⟨0, Nat.zero_le _, rfl, Below.refl _ _, by rw [hR.out]; rfl, fun e => by simp [af] at e⟩
  case round =>
    obtain ⟨j, hj, rfl, hbel, hpr, haf⟩ := hrel
    rcases Nat.lt_or_ge j n with hjn | hjn
    · have hjl : j < l.length := by rw [← HL.out]; exact hjn
      have haf1 : af l j = true → mk l[j] = 2 := fun e => (haf e).2
      obtain ⟨a, rfl, hab, ha⟩ := erow_at (Rd.below hrow hbel) hjl
      have hm1 := Lib.hid (fun u => hmk.out l[j] u)
      have hml := mk_lt l[j]
      obtain ⟨m, hm⟩ : ∃ m, m = mk l[j] := ⟨_, rfl⟩
      rw [← hm] at hm1 hml
      have HM := Lib.hid hm
      have hpr := Lib.hid hpr
      have haf1 := Lib.hid haf1
      clear hm haf
      obtain ⟨x, hx⟩ : ∃ x, x = l[j] := ⟨_, rfl⟩
      rw [← hx] at hm1 ha
      replace hx := Lib.hid hx
      have b0 : (0 : Int) ≤ (j : Int) := by omega
      have b1 : (j : Int) < (n : Int) := by omega
      have a0 := ha.c0; have a1 := ha.c1; have a2 := ha.c2; have a3 := ha.c3; have a4 := ha.c4; have a5 := ha.c5; have a6 := ha.c6; have a7 := ha.c7; have a8 := ha.c8; have a9 := ha.c9
      obtain ⟨xid, xtime, xgen, xst, xsn, xty, xde, xd0, xd1, xd2⟩ := x
      dsimp only [Ev.v, Ev.cells] at *
      clear ha
      go_wp2_with fail
      refine (hm1.out _).mono ?_
      rintro e w1 ⟨rfl, hb1⟩
      have BEL := hbel.trans (hb1.mono hbel.size)
      clear hb1 a0 a1 a2 a3 a4 a5 a6 a7 a8 a9
      have BELH := Lib.hid BEL
      rcases (show m = 0 ∨ m = 1 ∨ m = 2 by omega) with rfl | rfl | rfl
      · have hbad : badAt l j = false := by
          unfold badAt; rw [getD_at l j hjl, ← HM.out]; rfl
        have hstep := check_step l j hjl hbad haf1.out
        replace hstep := Lib.hid hstep
        clear BEL
        go_wp2_with fail
        exact ⟨⟨j + 1, by omega, by go_num, BELH.out, by rw [← hstep.out.1]; exact hpr.out, hstep.out.2⟩, by simp [intOf]; omega⟩
      · rcases Nat.lt_or_ge (j + 1) n with hj2 | hj2
        · have hne : ((j : Int) + 1 == (n : Int)) = false := by simp; omega
          have hwj : wrap64 ((j : Int) + 1) = (j : Int) + 1 := by unfold wrap64; omega
          have b2 : (0 : Int) ≤ (j : Int) + 1 := by omega
          have b3 : (j : Int) + 1 < (n : Int) := by omega
          have hlj : j + 1 < l.length := by rw [← HL.out]; exact hj2
          have hjl2 : j + 1 < l.length := by omega
          obtain ⟨a2, ha2, -, hev⟩ := erow_at (Rd.below hrow BELH.out) hjl2
          obtain rfl := Option.some.inj ha2
          have hm2 := Lib.hid (fun u => hmk.out l[j + 1] u)
          obtain ⟨m2, hm2e⟩ : ∃ m2, m2 = mk l[j + 1] := ⟨_, rfl⟩
          have hm2l := mk_lt l[j + 1]
          rw [← hm2e] at hm2 hm2l
          replace hm2e := Lib.hid hm2e
          obtain ⟨y, hy⟩ : ∃ y, y = l[j + 1] := ⟨_, rfl⟩
          rw [← hy] at hm2 hev
          clear hy ha2
          have a0 := hev.c0; have a1 := hev.c1; have a2 := hev.c2; have a3 := hev.c3; have a4 := hev.c4; have a5 := hev.c5; have a6 := hev.c6; have a7 := hev.c7; have a8 := hev.c8; have a9 := hev.c9
          obtain ⟨yid, ytime, ygen, yst, ysn, yty, yde, yd0, yd1, yd2⟩ := y
          dsimp only [Ev.v, Ev.cells] at *
          clear hev BEL
          go_wp2_with fail
          refine (hm2.out _).mono ?_
          rintro e w2 ⟨rfl, hb2⟩
          have BEL2 := Lib.hid (BELH.out.trans (hb2.mono BELH.out.size))
          clear hb2 a0 a1 a2 a3 a4 a5 a6 a7 a8 a9 hne hwj
          rcases (show m2 = 0 ∨ m2 = 1 ∨ m2 = 2 by omega) with rfl | rfl | rfl
          · have hbad : badAt l j = true := by
              unfold badAt; rw [getD_at l j hjl, getD_at l (j + 1) hjl2, ← HM.out, ← hm2e.out]; simp
            have hR0 : R = false := by rw [← hpr.out]; exact check_bad l (j) hjl hbad
            have hr0 := Lib.hid (hrec0.out hR0)
            have hr1 := Lib.hid (hrec1.out hR0)
            clear hR0 hbad
            go_wp2_with fail
            go_ret2
            exact ⟨_, by rw [hr0.out]; rfl, by rw [hr1.out]; exact LOwn.nil, BEL2.out⟩
          · have hbad : badAt l j = true := by
              unfold badAt; rw [getD_at l j hjl, getD_at l (j + 1) hjl2, ← HM.out, ← hm2e.out]; simp
            have hR0 : R = false := by rw [← hpr.out]; exact check_bad l (j) hjl hbad
            have hr0 := Lib.hid (hrec0.out hR0)
            have hr1 := Lib.hid (hrec1.out hR0)
            clear hR0 hbad
            go_wp2_with fail
            go_ret2
            exact ⟨_, by rw [hr0.out]; rfl, by rw [hr1.out]; exact LOwn.nil, BEL2.out⟩
          · have hbad : badAt l j = false := by
              unfold badAt; rw [getD_at l j hjl, getD_at l (j + 1) hjl2, ← HM.out, ← hm2e.out]; simp; omega
            have hstep := check_step l (j) hjl hbad haf1.out
            replace hstep := Lib.hid hstep
            clear hbad
            go_wp2_with fail
            exact ⟨⟨j + 1, by omega, by go_num, BEL2.out, by rw [← hstep.out.1]; exact hpr.out, hstep.out.2⟩, by simp [intOf]; omega⟩
        · have hje : j + 1 = n := by omega
          have hne : ((j : Int) + 1 == (n : Int)) = true := by simp; omega
          have hwj : wrap64 ((j : Int) + 1) = (j : Int) + 1 := by unfold wrap64; omega
          have hbad : badAt l j = true := by
            unfold badAt; rw [getD_at l j hjl, ← HM.out, ← HL.out, hje]; simp
          have hR0 : R = false := by rw [← hpr.out]; exact check_bad l j hjl hbad
          have hr0 := Lib.hid (hrec0.out hR0)
          have hr1 := Lib.hid (hrec1.out hR0)
          clear hR0 hbad BEL hje
          go_wp2_with fail
          go_ret2
          exact ⟨_, by rw [hr0.out]; rfl, by rw [hr1.out]; exact LOwn.nil, BELH.out⟩
      · rcases j with _ | i
        · have hbad : badAt l 0 = true := by
            unfold badAt; rw [getD_at l 0 hjl, ← HM.out]; simp
          have hR0 : R = false := by rw [← hpr.out]; exact check_bad l 0 hjl hbad
          have hr0 := Lib.hid (hrec0.out hR0)
          have hr1 := Lib.hid (hrec1.out hR0)
          clear hR0 hbad BEL
          go_wp2_with fail
          go_ret2
          exact ⟨_, by rw [hr0.out]; rfl, by rw [hr1.out]; exact LOwn.nil, BELH.out⟩
        · have hne : ((i : Int) + 1 == 0) = false := by simp; omega
          have hwj : wrap64 ((i : Int) + 1 - 1) = (i : Int) := by unfold wrap64; omega
          have b2 : (0 : Int) ≤ (i : Int) := by omega
          have b3 : (i : Int) < (n : Int) := by omega
          have hjl2 : i < l.length := by omega
          obtain ⟨a2, ha2, -, hev⟩ := erow_at (Rd.below hrow BELH.out) hjl2
          obtain rfl := Option.some.inj ha2
          have hm2 := Lib.hid (fun u => hmk.out l[i] u)
          obtain ⟨m2, hm2e⟩ : ∃ m2, m2 = mk l[i] := ⟨_, rfl⟩
          have hm2l := mk_lt l[i]
          rw [← hm2e] at hm2 hm2l
          replace hm2e := Lib.hid hm2e
          obtain ⟨y, hy⟩ : ∃ y, y = l[i] := ⟨_, rfl⟩
          rw [← hy] at hm2 hev
          clear hy ha2
          have a0 := hev.c0; have a1 := hev.c1; have a2 := hev.c2; have a3 := hev.c3; have a4 := hev.c4; have a5 := hev.c5; have a6 := hev.c6; have a7 := hev.c7; have a8 := hev.c8; have a9 := hev.c9
          obtain ⟨yid, ytime, ygen, yst, ysn, yty, yde, yd0, yd1, yd2⟩ := y
          dsimp only [Ev.v, Ev.cells] at *
          clear hev BEL
          go_wp2_with fail
          refine (hm2.out _).mono ?_
          rintro e w2 ⟨rfl, hb2⟩
          have BEL2 := Lib.hid (BELH.out.trans (hb2.mono BELH.out.size))
          clear hb2 a0 a1 a2 a3 a4 a5 a6 a7 a8 a9 hne hwj
          rcases (show m2 = 0 ∨ m2 = 1 ∨ m2 = 2 by omega) with rfl | rfl | rfl
          · have hbad : badAt l (i + 1) = true := by
              unfold badAt; rw [getD_at l (i + 1) hjl, show i + 1 - 1 = i from rfl, getD_at l i hjl2, ← HM.out, ← hm2e.out]; simp
            have hR0 : R = false := by rw [← hpr.out]; exact check_bad l (i + 1) hjl hbad
            have hr0 := Lib.hid (hrec0.out hR0)
            have hr1 := Lib.hid (hrec1.out hR0)
            clear hR0 hbad
            go_wp2_with fail
            go_ret2
            exact ⟨_, by rw [hr0.out]; rfl, by rw [hr1.out]; exact LOwn.nil, BEL2.out⟩
          · have hbad : badAt l (i + 1) = false := by
              unfold badAt; rw [getD_at l (i + 1) hjl, show i + 1 - 1 = i from rfl, getD_at l i hjl2, ← HM.out, ← hm2e.out]; simp
            have hstep := check_step l (i + 1) hjl hbad haf1.out
            replace hstep := Lib.hid hstep
            clear hbad
            go_wp2_with fail
            exact ⟨⟨i + 1 + 1, by omega, by go_num, BEL2.out, by rw [← hstep.out.1]; exact hpr.out, hstep.out.2⟩, by simp [intOf]; omega⟩
          · have hbad : badAt l (i + 1) = true := by
              unfold badAt; rw [getD_at l (i + 1) hjl, show i + 1 - 1 = i from rfl, getD_at l i hjl2, ← HM.out, ← hm2e.out]; simp
            have hR0 : R = false := by rw [← hpr.out]; exact check_bad l (i + 1) hjl hbad
            have hr0 := Lib.hid (hrec0.out hR0)
            have hr1 := Lib.hid (hrec1.out hR0)
            clear hR0 hbad
            go_wp2_with fail
            go_ret2
            exact ⟨_, by rw [hr0.out]; rfl, by rw [hr1.out]; exact LOwn.nil, BEL2.out⟩
    · obtain rfl : n = j := by omega
      have key : ∀ q, q = l.length → (af l q = true → ∃ h : q < l.length, mk l[q] = 2) → paired (af l q) (l.drop q) = true := by
        rintro _ rfl h; exact check_end l h
      have hk : paired false l = true := by
        rw [← hR.out, ← hpr]
        exact key n HL.out haf
      have hr2 : r = (tms l, 0) := by rw [hr.out]; unfold rec; rw [if_pos hk]
      clear key hpr haf hr hrec0 hrec1 hR
      subst hr2
      obtain ⟨M, hM, hmk9⟩ := make_l n (by omega)
      generalize wr = w1 at *
      have hb1 := hbel
      clear hbel
      go_wp2_with fail
      have hown0 : LOwn w.heap.size (w1.alloc (.cells M 2)) (.slice (some ⟨w1.heap.size, 0, none⟩) n n) (List.replicate n 0) := by
        have := World.ownsRow_lit (base := w.heap.size) (size := 1) (e := 2) w1 M n hb1.size (by unfold maxLen; omega) (by rw [Nat.mul_one, ← Array.length_toList, hM, len_ivs, List.length_replicate])
        unfold LOwn
        rw [List.length_replicate, ← hM]
        exact this
      have hbe := hb1.alloc hb1.size (.cells M 2)
      have hgz : w.heap.size ≤ w1.heap.size := hb1.size
      clear hmk9 hb1 hM
      generalize w1.alloc (.cells M 2) = w2 at *
      obtain ⟨g, hg⟩ : ∃ g, w1.heap.size = g := ⟨_, rfl⟩
      rw [hg] at hown0 hgz ⊢
      clear hg
      have HSB := Lib.hid (fun k => shf_bound l HF.out k (by rw [← HL.out]; exact hn))
      have HK := Lib.hid hk
      clear hk
      have hown0 : LOwn w.heap.size w2 (.slice (some ⟨g, 0, none⟩) n n) (List.replicate n 0 ++ (tms l).drop n) := by
        rw [List.drop_eq_nil_of_le (by rw [tms_len, ← HL.out]; exact Nat.le_refl n), List.append_nil]; exact hown0
      have hw0 : wrap64 ((n : Int) - 1) = (n : Int) - 1 := by unfold wrap64; omega
      replace hown0 := Lib.hid hown0
      replace hbe := Lib.hid hbe
      have hlen0 : shf l n = 0 := by rw [HL.out]; exact shf_end l
      go_loopw [8, 9] (fun s i wr => ∃ k : Nat, k ≤ n ∧ i = .int .i64 ((k : Int) - 1) ∧ s = .int .i64 (shf l k) ∧ LOwn w.heap.size wr (.slice (some ⟨g, 0, none⟩) n n) (List.replicate k 0 ++ (tms l).drop k) ∧ Below w.heap.size w wr) (fun _ i _ => ((intOf i) + 1).toNat)
      case atStart => exact ⟨n, Nat.le_refl _, by first | rfl | rw [hw0], by rw [hlen0], hown0.out, hbe.out⟩
      case round =>
        obtain ⟨k, hkn, rfl, rfl, hown, hbel⟩ := hrel
        rcases k with _ | j
        · simp only [List.replicate_zero, List.nil_append, List.drop_zero] at hown
          go_wp2_with fail
          go_ret2
          exact ⟨_, rfl, hown, hbel⟩
        · rw [show ((j + 1 : Nat) : Int) - 1 = (j : Int) by omega]
          have hjl : j < l.length := by rw [← HL.out]; omega
          obtain ⟨a, rfl, hab, ha⟩ := erow_at (Rd.below hrow hbel) hjl
          have hfit := HF.out _ (List.getElem_mem hjl)
          have hsb := HSB.out (j + 1)
          have hout := shf_out l j hjl
          have htm := hfit.time
          have hsn := fun u => mark_r l[j] u
          obtain ⟨S, hS⟩ : ∃ S, shf l (j + 1) = S := ⟨_, rfl⟩
          rw [hS] at hsb hout ⊢
          have hlen : n = (List.replicate (j + 1) (0 : Int) ++ (tms l).drop (j + 1)).length := by
            rw [List.length_append, List.length_replicate, List.length_drop, tms_len, ← HL.out]; omega
          obtain ⟨yj, cj⟩ : ∃ y, wr.cell? ⟨g, j, none⟩ = some (.int .i64 y) := ⟨_, lown_cell hown hlen (i := j) (by omega)⟩
          have fj := lown_frozen hown hlen j
          have hst := lown_store hown hlen j ((l[j].time : Int) + S)
          have hz := hbel.size
          have hgw : g < wr.heap.size := (World.ownsRow.lt hown g rfl).2
          have hbel2 : Below w.heap.size w (wr.setCell ⟨g, j, none⟩ (.int .i64 ((l[j].time : Int) + S))) := hbel.grown hst.2 hz (fun k hk => by injection hk; omega)
          obtain ⟨a', ha', -, hev⟩ := erow_at (Rd.below hrow hbel2) hjl
          obtain rfl := Option.some.inj ha'
          have hown2 := hst.1
          rw [hout, fill_step (tms l) j (by rw [tms_len]; exact hjl), ← hout] at hown2
          have hbo := Lib.hid hbel2
          have hwo := Lib.hid hown2
          have t1 := ha.c1
          clear hst hown hbel2 hown2 hout ha' ha
          have b0 : (0 : Int) ≤ (j : Int) := by omega
          have b1 : (j : Int) < (n : Int) := by omega
          obtain ⟨T, hT⟩ : ∃ T, l[j].time = T := ⟨_, rfl⟩
          have hT' := Lib.hid hT
          rw [hT] at t1 hbo hwo hev htm
          clear hT hlen
          have hwT : wrap64 ((T : Int) + S) = (T : Int) + S := by unfold wrap64; omega
          by_cases hm : mk l[j] = 2
          · rw [hm] at hsn
            replace hsn := Lib.hid hsn
            obtain ⟨i, rfl⟩ : ∃ i, j = i + 1 := by
              rcases j with _ | i
              · exact absurd hm (paired_head HK.out hjl)
              · exact ⟨i, rfl⟩
            have hstp := shf_step l i hjl
            rw [if_pos hm] at hstp
            have hil : i < l.length := by omega
            obtain ⟨b, hbA, -, hev0⟩ := erow_at (Rd.below hrow hbo.out) hil
            obtain rfl := Option.some.inj hbA
            have htm0 := (HF.out _ (List.getElem_mem hil)).time
            rw [show (i + 1 + 1) = i + 2 from rfl] at hS
            rw [hS, hT'.out] at hstp
            obtain ⟨T0, hT0⟩ : ∃ T0, l[i].time = T0 := ⟨_, rfl⟩
            rw [hT0] at hstp htm0
            have z1 := hev0.c1
            rw [hT0] at z1
            replace hstp := Lib.hid hstp
            clear hev0 hbA hS
            go_upto_region 14 with fail
            generalize wr.setCell ⟨g, i + 1, none⟩ (.int .i64 ((T : Int) + S)) = w4 at *
            have a0 := hev.c0; have a1 := hev.c1; have a2 := hev.c2; have a3 := hev.c3; have a4 := hev.c4; have a5 := hev.c5; have a6 := hev.c6; have a7 := hev.c7; have a8 := hev.c8; have a9 := hev.c9
            clear hev cj fj t1
            generalize hx : l[i + 1] = x at *
            obtain ⟨id, time, gen, st, sn, ty, de, d0, d1, d2⟩ := x
            dsimp only [Ev.v, Ev.cells] at *
            have hTe := hT'.out
            subst hTe
            have b2 : (0 : Int) ≤ (i : Int) := by omega
            have b3 : (i : Int) < (n : Int) := by omega
            go_wp2_with fail
            refine (hsn.out _).mono ?_
            rintro e w5 ⟨rfl, hb5⟩
            have hwo5 := Lib.hid (lown_below hwo.out hb5)
            have hbo5 := Lib.hid (hbo.out.trans (hb5.mono hbo.out.size))
            clear a0 a1 a2 a3 a4 a5 a6 a7 a8 a9 hb5 hwo hbo
            obtain ⟨b1', hb1A, -, hev1⟩ := erow_at (Rd.below hrow hbo5.out) hjl
            obtain rfl := Option.some.inj hb1A
            obtain ⟨b2', hb2A, -, hev2⟩ := erow_at (Rd.below hrow hbo5.out) hil
            obtain rfl := Option.some.inj hb2A
            have d1 := hev1.c1
            have z1 := hev2.c1
            rw [hx] at d1
            rw [hT0] at z1
            clear hev1 hev2 hb1A hb2A hT0 hx hT'
            have hix : wrap64 ((i : Int) + 1 - 1) = (i : Int) := by unfold wrap64; omega
            have hwd : wrap64 ((time : Int) - (T0 : Int)) = (time : Int) - (T0 : Int) := by unfold wrap64; omega
            have hws : wrap64 (S + ((time : Int) - (T0 : Int))) = S + ((time : Int) - (T0 : Int)) := by unfold wrap64; omega
            go_wp2_with fail
            go_quiet (fail)
            go_wp2_with fail
            have hd : Below w5.heap.size w5 (w5.drewN nq) := ⟨rfl, rfl, rfl, Nat.le_refl _, fun _ _ => rfl⟩
            refine ⟨⟨i + 1, by omega, by go_num, by rw [hstp.out, Int.add_comm], lown_below hwo5.out hd, hbo5.out.trans (hd.mono hbo5.out.size)⟩, ?_⟩
            simp only [intOf]
            omega
          · obtain ⟨mm, hmm⟩ : ∃ mm, mm = mk l[j] := ⟨_, rfl⟩
            rw [← hmm] at hsn
            have hmI : ((mm : Int) == 2) = false := by have : mm ≠ 2 := by rw [hmm]; exact hm
                                                       simp; omega
            clear hmm
            replace hsn := Lib.hid hsn
            have hsj : shf l j = S := by
              rcases j with _ | i
              · rw [shf_first l hjl hm]; exact hS
              · have := shf_step l i hjl
                rw [if_neg hm, Int.zero_add] at this
                rw [this]; exact hS
            replace hsj := Lib.hid hsj
            clear hS
            go_upto_region 14 with fail
            generalize wr.setCell ⟨g, j, none⟩ (.int .i64 ((T : Int) + S)) = w4 at *
            have a0 := hev.c0; have a1 := hev.c1; have a2 := hev.c2; have a3 := hev.c3; have a4 := hev.c4; have a5 := hev.c5; have a6 := hev.c6; have a7 := hev.c7; have a8 := hev.c8; have a9 := hev.c9
            clear hev cj fj t1
            generalize hx : l[j] = x at *
            obtain ⟨id, time, gen, st, sn, ty, de, d0, d1, d2⟩ := x
            dsimp only [Ev.v, Ev.cells] at *
            have hTe := hT'.out
            subst hTe
            go_wp2_with fail
            refine (hsn.out _).mono ?_
            rintro e w5 ⟨rfl, hb5⟩
            have hwo5 := Lib.hid (lown_below hwo.out hb5)
            have hbo5 := Lib.hid (hbo.out.trans (hb5.mono hbo.out.size))
            clear a0 a1 a2 a3 a4 a5 a6 a7 a8 a9 hb5 hwo hbo
            go_wp2_with fail
            refine ⟨⟨j, by omega, by go_num, by rw [hsj.out], hwo5.out, hbo5.out⟩, ?_⟩
            simp only [intOf]
            omega
end Go.Proofs.Ytncpbgmbneobiaa.V9
