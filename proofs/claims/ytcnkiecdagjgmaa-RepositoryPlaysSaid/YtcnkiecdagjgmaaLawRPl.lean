/- RepositoryPlays holds for every input: a repository that is told anything has the records that the chapter says, and returns what it says. No condition. -/
import Derived.Test.YtcnkiecdagjgmaaLaw11
import Derived.Test.YtcnkiecdagjgmaaLaw
import Derived.Test.YtcnkiecdagjgmaaRw
namespace Go.Proofs.Ytcnkiecdagjgmaa.repositoryPlays
open Go.RowKit Go.ChangeShapes Go.WideShapes Go.ChangeAt Go.Proofs.Ytcnkiecdagjgmaa.Mem Go.Proofs.Ytcnkiecdagjgmaa.Law Go.Proofs.Ytcnkiecdagjgmaa.Made Go.Proofs.Ytcnkiecdagjgmaa.R11
set_option maxRecDepth 100000
set_option maxHeartbeats 0

/-- What holds between two rounds. -/
structure PL (W w : World) (g h : Nat) (rv qv : Value) (S T : Rp) : Prop where
  p : RA W.heap.size W w g rv S
  r : R12.RA W.heap.size W w h qv T
  ok : S.Ok
  ok2 : T.Ok
  like : Like S T
theorem PL.step {W w w' : World} {g h : Nat} {rv qv : Value} {S T : Rp} (x : PL W w g h rv qv S T) (hb : Below w.heap.size w w') : PL W w' g h rv qv S T := ⟨x.p.step hb, x.r.step hb, x.ok, x.ok2, x.like⟩
theorem PL.left {W w w' : World} {g h : Nat} {rv rv' qv : Value} {S T : Rp} (x : PL W w g h rv qv S T) (k : Kp g rv rv' w w') : R12.RA W.heap.size W w' h qv T := ref_kp x.r x.p k
theorem below_drewN (w : World) (k : Nat) : Below w.heap.size w (w.drewN k) := by
  have h := Below.refl w.heap.size w
  exact ⟨h.os, h.tape, h.output, h.size, h.block⟩
theorem walk (q : Int) (hq : -9223372036854775808 ≤ q ∧ q ≤ 9223372036854775807) (A : Option Addr) (n c : Nat) (l : List Do2) (W : World) (hr : Scr W.heap.size W A n c l) :
    Calls Try.prog 14 #[.int .i64 q, .slice A n c] W fun e W' => e = .returned (.bool true) ∧ Below W.heap.size W W' := by
  have haw := Lib.hid (fun u => awake_any u)
  have HM := Lib.hid (fun u => mod_any q 600 u hq.1 hq.2 (by omega) (by omega))
  have HL := Lib.hid (light_any W.heap.size A n c l W hr)
  have HR := Lib.hid hr
  obtain ⟨R, hR⟩ : ∃ R, R = lightB l := ⟨_, rfl⟩
  rw [← hR] at HL
  have HRL := Lib.hid hR
  clear hr hR
  cases R
  · go_enter Try.func14, Try.ntmps14
    go_wp2_with fail
    refine HL.out.mono ?_
    rintro e w1 ⟨rfl, z, rfl⟩
    go_wp2_with fail
    refine (haw.out _).mono ?_
    rintro e w2 ⟨rfl, hb⟩
    go_wp2_with fail
    go_ret
    exact ⟨rfl, below_of_drawn.trans hb⟩
  · go_enter Try.func14, Try.ntmps14
    go_wp2_with fail
    refine HL.out.mono ?_
    rintro e w1 ⟨rfl, z, rfl⟩
    go_wp2_with fail
    have HNEW : Hid (∀ V, Below W.heap.size W V → Calls Try.prog 49 #[.int .i64 q] V fun e w' => ∃ (p : Option Addr) (er : Int), e = .returned (.tuple #[.pointer p, .int .i64 er]) ∧ Below W.heap.size W w' ∧ ((1 ≤ q ∧ q ≤ 10240 ∧ er = 0 ∧ ∃ x, p = some x) ∨ (¬ (1 ≤ q ∧ q ≤ 10240) ∧ er = 2 ∧ p = none))) := Lib.hid fun V hV => by
      by_cases hc : 1 ≤ q ∧ q ≤ 10240
      · obtain ⟨q', rfl⟩ := Int.eq_ofNat_of_zero_le (show 0 ≤ q by omega)
        refine (new_p q' V (by omega) (by omega)).mono ?_
        rintro e w' ⟨rfl, h⟩
        exact ⟨_, _, rfl, hV.trans (h.bel.mono hV.size), .inl ⟨hc.1, hc.2, rfl, _, rfl⟩⟩
      · refine (new_no q V (by omega)).mono ?_
        rintro e w' ⟨rfl, rfl⟩
        exact ⟨_, _, rfl, hV, .inr ⟨hc, rfl, rfl⟩⟩
    have HNEWR : Hid (∀ V, Below W.heap.size W V → Calls Try.prog 50 #[.int .i64 q] V fun e w' => ∃ (p : Option Addr) (er : Int), e = .returned (.tuple #[.pointer p, .int .i64 er]) ∧ Below W.heap.size W w' ∧ ((1 ≤ q ∧ q ≤ 10240 ∧ er = 0 ∧ ∃ x, p = some x) ∨ (¬ (1 ≤ q ∧ q ≤ 10240) ∧ er = 2 ∧ p = none))) := Lib.hid fun V hV => by
      by_cases hc : 1 ≤ q ∧ q ≤ 10240
      · obtain ⟨q', rfl⟩ := Int.eq_ofNat_of_zero_le (show 0 ≤ q by omega)
        refine (R12.rnew_p q' V (by omega) (by omega)).mono ?_
        rintro e w' ⟨rfl, h⟩
        exact ⟨_, _, rfl, hV.trans (h.bel.mono hV.size), .inl ⟨hc.1, hc.2, rfl, _, rfl⟩⟩
      · refine (R12.rnew_no q V (by omega)).mono ?_
        rintro e w' ⟨rfl, rfl⟩
        exact ⟨_, _, rfl, hV, .inr ⟨hc, rfl, rfl⟩⟩
    refine (HNEW.out _ below_of_drawn).mono ?_
    rintro e w2 ⟨p1, e1, rfl, hb2, hc1⟩
    have HB2 := Lib.hid hb2
    clear hb2 HNEW HL
    go_wp2_with fail
    refine (HNEWR.out _ HB2.out).mono ?_
    rintro e w3 ⟨p2, e2, rfl, hb3, hc2⟩
    have HB3 := Lib.hid hb3
    clear hb3 HNEWR HB2
    have he : e2 = e1 := by
      rcases hc1 with ⟨c1, c2, h1, -⟩ | ⟨c1, h1, -⟩ <;> rcases hc2 with ⟨d1, d2, h2, -⟩ | ⟨d1, h2, -⟩
      · rw [h1, h2]
      · exact absurd ⟨c1, c2⟩ d1
      · exact absurd ⟨d1, d2⟩ c1
      · rw [h1, h2]
    subst he
    have hp1 : (e2 == 0) = p1.isSome := by
      rcases hc1 with ⟨c1, c2, h1, x, h3⟩ | ⟨c1, h1, h3⟩ <;> (rw [h1, h3]; rfl)
    clear hc1 hc2
    all_goals
      go_wp2_with fail
      refine (HM.out _).mono ?_
      rintro e w' ⟨⟨z0, hz, rfl, -⟩, hw'⟩
      rw [← hw']
      clear hw' w'
      go_wp2_with fail
      obtain ⟨C, hC⟩ : ∃ C, C = z0 + 1 := ⟨_, rfl⟩
      have hC1 : 1 ≤ C ∧ C ≤ 600 := by omega
      rw [show (1 : Int) + (z0 : Int) = (C : Int) by omega]
      clear hC hz
      refine (new_p C w3 hC1.1 (by omega)).mono ?_
      rintro e w4 ⟨rfl, h4⟩
      have hra4 : RA W.heap.size W w4 w3.heap.size (.slice none 0 0) (R11.fresh C) := ⟨HB3.out.trans (h4.bel.mono HB3.out.size), h4.head, KOwn.nil, by simp [R11.fresh], HB3.out.size⟩
      have HRA4 := Lib.hid hra4
      obtain ⟨g, hg⟩ : ∃ g, g = w3.heap.size := ⟨_, rfl⟩
      rw [← hg] at HRA4 ⊢
      clear h4 hra4 hg
      go_wp2_with fail
      refine (R12.rnew_p C w4 hC1.1 (by omega)).mono ?_
      rintro e w5 ⟨rfl, h5⟩
      have hra5 := HRA4.out.step h5.bel
      have hrb5 : R12.RA W.heap.size W w5 w4.heap.size (.slice none 0 0) (R11.fresh C) := ⟨hra5.bel, h5.head, R12.KOwn.nil, by simp [R11.fresh], HRA4.out.base⟩
      have hpl : PL W w5 g w4.heap.size (.slice none 0 0) (.slice none 0 0) (R11.fresh C) (R11.fresh C) := ⟨hra5, hrb5, fresh_ok (by omega), fresh_ok (by omega), Like.refl _⟩
      have HPL := Lib.hid hpl
      obtain ⟨h, hh⟩ : ∃ h, h = w4.heap.size := ⟨_, rfl⟩
      rw [← hh] at HPL ⊢
      clear h5 hra5 hrb5 hpl HRA4 HB3 hh
      go_wp2_with fail
      have HRB := Lib.hid fun V (hV : Below W.heap.size W V) => HR.out.below hV
      have hmx : n ≤ 2 ^ 63 - 1 := Nat.le_trans HR.out.cap HR.out.max
      have HN := Lib.hid HR.out.len
      have HN100 : Hid (n ≤ 100 ∧ ∀ x ∈ l, x.data.length ≤ 300) := Lib.hid (by
        have h1 := HRL.out.symm
        unfold lightB at h1
        simp only [Bool.and_eq_true, decide_eq_true_eq, List.all_eq_true] at h1
        exact ⟨by rw [HN.out]; exact h1.1, h1.2⟩)
      go_loopw [13, 14] (fun kv iv wr => ∃ (j hd : Nat) (rv qv : Value) (S T : Rp), j ≤ n ∧ hd ≤ 65535 ∧ iv = .int .i64 (j : Int) ∧ kv = .int .u16 (hd : Int) ∧ PL W wr g h rv qv S T) (fun _ iv _ => n - (intOf iv).toNat)
      case atStart => exact ⟨0, 0, _, _, _, _, Nat.zero_le _, by omega, rfl, rfl, HPL.out⟩
      case round =>
        clear HPL
        obtain ⟨j, hd, rv, qv, S, T, hj, hhd, rfl, rfl, hpl⟩ := hrel
        rcases Nat.lt_or_ge j n with hlt | hge
        · have hjl : j < l.length := by rw [← HN.out]; exact hlt
          obtain ⟨a, rfl, hab, hdo⟩ := (HRB.out _ hpl.p.bel).each j hjl
          have hd300 := HN100.out.2 _ (List.getElem_mem hjl)
          have n100 := HN100.out.1
          have n1 : (j : Int) < (n : Int) := by omega
          have n2 : (0 : Int) ≤ (j : Int) := by omega
          have hslb : ∀ V, Below W.heap.size W V → Sl V l[j].A l[j].n l[j].c l[j].data := fun V hV => by
            obtain ⟨a', ha', -, hd'⟩ := (HRB.out V hV).each j hjl
            exact hd'.sl hV.size
          have hofb : ∀ B' : Option Addr → Prop, True := fun _ => trivial
          have hlow : 0 < l[j].data.length → ∀ b, l[j].A = some b → b.block < W.heap.size := fun h0 b hb => by
            obtain ⟨b', e, hlt', -⟩ := row_at hdo.row (k := 0) h0
            rw [hb] at e
            injection e with e
            rw [e]
            exact hlt'
          generalize l[j] = x at *
          obtain ⟨kd, xa, xb, xi, xo, wrong, dA, dn, dc, dd⟩ := x
          dsimp only at hd300 hslb hlow
          obtain ⟨k1, k2, a1, a2, b1, b2, i1, o1, hlen, hcap, hmax, hnil, hrow, c0, c1', c2', c3, c4, c5, c6⟩ := hdo
          dsimp only at k1 k2 a1 a2 b1 b2 i1 o1 hlen hcap hmax hnil hrow c0 c1' c2' c3 c4 c5 c6
          have HSLB := Lib.hid hslb
          have HLOW := Lib.hid hlow
          have hal : Below wr.heap.size wr (wr.alloc (.cells #[.int .i64 kd, .int .i64 xa, .int .i64 xb, .int .u16 (xi : Int), .int .u16 (xo : Int), .bool wrong, .slice dA dn dc] 88)) := (Below.refl _ _).alloc (Nat.le_refl _) _
          have HPL := Lib.hid (hpl.step hal)
          have HM6 := Lib.hid (fun u => mod_any kd 6 u k1 k2 (by omega) (by omega))
          have HMA := Lib.hid (fun u => mod_any xa 9 u a1 a2 (by omega) (by omega))
          have HMB := Lib.hid (fun u => mod_any xb 9 u b1 b2 (by omega) (by omega))
          have HDL : Hid (dn = dd.length) := Lib.hid hlen
          have hdn : dn ≤ 300 := by omega
          clear hslb hlow hofb hpl hal hrow hlen
          cases wrong
          · go_wp2_with fail
            have HBX : Hid ((wr.alloc (.cells #[.int .i64 kd, .int .i64 xa, .int .i64 xb, .int .u16 (xi : Int), .int .u16 (xo : Int), .bool false, .slice dA dn dc] 88)).heap[wr.heap.size]? = some (.cells #[.int .i64 kd, .int .i64 xa, .int .i64 xb, .int .u16 (xi : Int), .int .u16 (xo : Int), .bool false, .slice dA dn dc] 88 (0, 0))) := Lib.hid (heap_alloc_new wr _)
            have PL6 := Lib.hid HPL.out
            obtain ⟨w6, hw6⟩ : ∃ w6, w6 = wr.alloc (.cells #[.int .i64 kd, .int .i64 xa, .int .i64 xb, .int .u16 (xi : Int), .int .u16 (xo : Int), .bool false, .slice dA dn dc] 88) := ⟨_, rfl⟩
            rw [← hw6] at HBX PL6 ⊢
            clear hw6 HPL
            obtain ⟨bx, hbx⟩ : ∃ bx, bx = wr.heap.size := ⟨_, rfl⟩
            rw [← hbx] at HBX ⊢
            clear hbx
            obtain ⟨kk, hke⟩ : ∃ kk, kk = hd := ⟨_, rfl⟩
            have hkk : kk ≤ 65535 := by omega
            rw [show ((hd : Nat) : Int) = (kk : Int) by rw [hke]]
            clear hke
            obtain ⟨D, hDe⟩ : ∃ D, D = xi % 12 := ⟨_, rfl⟩
            have hD : D ≤ 65535 := by omega
            rw [show ((xi : Int) % 12) = (D : Int) by omega]
            clear hDe c0 c1' c2' c3 c4 c5 c6
            refine (HM6.out _).mono ?_
            rintro e w' ⟨⟨m6, hm6, rfl, -⟩, hw'⟩
            rw [← hw']
            clear hw' w' HM6
            rcases (show m6 = 0 ∨ m6 = 1 ∨ m6 = 2 ∨ m6 = 3 ∨ m6 = 4 ∨ m6 = 5 by omega) with rfl | rfl | rfl | rfl | rfl | rfl
            · as_aux_lemma =>
                have hE := PL6.out.like.addE dd.length
                by_cases hz : S.addE dd.length = 0
                · have hz2 : T.addE dd.length = 0 := by rw [← hE]; exact hz
                  have hoff : Off g rv dA dd := fun h0 b hb => ⟨fun e => by have := HLOW.out h0 b hb; have := PL6.out.p.low; omega, fun e => by have := HLOW.out h0 b hb; have := (PL6.out.p.r1 e).2.2; omega⟩
                  have hoff2 : R12.Off' h qv dA dd := fun h0 b hb => ⟨fun e => by have := HLOW.out h0 b hb; have := PL6.out.r.low; omega, fun e => by have := HLOW.out h0 b hb; have := (PL6.out.r.r1 e).2.2; omega⟩
                  have HA := Lib.hid (add_p PL6.out.p PL6.out.ok dA dn dc dd (HSLB.out _ PL6.out.p.bel) hoff hz)
                  have HOF2 := Lib.hid hoff2
                  have hc6 : w6.cell? ⟨bx, 6, none⟩ = some (.slice dA dn dc) := cell_of_row w6 bx 6 _ _ _ HBX.out
                  clear hE hoff hoff2
                  go_wp2_with fail
                  refine HA.out.mono ?_
                  rintro e w7 ⟨rv7, x7, y7, rfl, h7, k7, -⟩
                  have hr7 := PL6.out.left k7
                  have hfe := PL6.out.like.fid
                  have HA2 := R12.radd_p hr7 PL6.out.ok2 dA dn dc dd (HSLB.out _ h7.bel) HOF2.out hz2
                  rw [← hfe] at HA2
                  have HA2 := Lib.hid HA2
                  have hbx7 := (k7.block bx (lt_of_some HBX.out) (ne_of_types HBX.out PL6.out.p.head (by decide)) (fun e => by
                    obtain ⟨_, c', z', hk⟩ := PL6.out.p.own.blk e
                    exact ne_of_types HBX.out hk (by decide) rfl)).1.trans HBX.out
                  have hc67 : w7.cell? ⟨bx, 6, none⟩ = some (.slice dA dn dc) := cell_of_row w7 bx 6 _ _ _ hbx7
                  have H7 := Lib.hid h7
                  have HR7 := Lib.hid hr7
                  have HO7 := Lib.hid (PL6.out.ok.add x7 y7 dd hz)
                  have HT7 := Lib.hid fun x y => PL6.out.ok2.add x y dd hz2
                  have HK7 := Lib.hid fun x y => PL6.out.like.addL x7 y7 x y dd
                  clear h7 k7 hr7 hfe hbx7 HA hc6
                  generalize fid S.recs S.last = I at *
                  go_wp2_with fail
                  refine HA2.out.mono ?_
                  rintro e wx ⟨qv8, x8, y8, rfl, h8, k8, -⟩
                  have PLX := Lib.hid (PL.mk (prog_kp HR7.out H7.out k8) h8 HO7.out (HT7.out x8 y8) (HK7.out x8 y8))
                  clear h8 k8 HA2 hc67 H7 HR7 HO7 HT7 HK7
                  generalize S.add x7 y7 dd = SX at *
                  generalize T.add x8 y8 dd = TX at *
                  go_wp2_with fail
                  have HFR := Lib.hid (free_p PLX.out.p PLX.out.ok)
                  have HFQ := Lib.hid fun V (hV : Below wx.heap.size wx V) => (show Calls Try.prog 64 #[.pointer (some ⟨h, 0, none⟩)] V fun e w' => e = .returned (.int .i64 (SX.free : Int)) ∧ w' = V from by rw [PLX.out.like.free]; exact R12.rfree_p (PLX.out.r.step hV) PLX.out.ok2)
                  generalize hFX : Rp.free SX = FX at HFR HFQ
                  clear hFX
                  go_wp2_with fail
                  refine HFR.out.mono ?_
                  rintro e w7 ⟨rfl, hb7⟩
                  have PL7 := Lib.hid (PLX.out.step hb7)
                  have HQ7 := Lib.hid (HFQ.out _ hb7)
                  clear hb7 HFR HFQ
                  go_wp2_with fail
                  refine HQ7.out.mono ?_
                  rintro e w8 ⟨rfl, hw8⟩
                  rw [hw8]
                  clear hw8 w8 HQ7
                  go_wp2_with fail
                  refine (ids_p PL7.out.p PL7.out.ok).mono ?_
                  rintro e w8 ⟨v8, rfl, ho8, hb8⟩
                  have PL8 := Lib.hid (PL7.out.step hb8)
                  obtain ⟨A8, n8, c8, rfl, -, -, -⟩ := ho8.form
                  have HO8 := Lib.hid ho8
                  clear hb8 ho8
                  go_wp2_with fail
                  refine (R12.rids_p PL8.out.r PL8.out.ok2).mono ?_
                  rintro e w9 ⟨v9, rfl, ho9, hb9⟩
                  have PL9 := Lib.hid (PL8.out.step hb9)
                  obtain ⟨A9, n9, c9, rfl, -, -, -⟩ := ho9.form
                  rw [← PL7.out.like.ids] at ho9
                  have HSI := Lib.hid (sameids_p (HO8.out.step hb9) ho9 (by rw [List.length_map]; have := PL9.out.ok.len; omega))
                  clear hb9 ho9
                  go_wp2_with fail
                  refine HSI.out.mono ?_
                  rintro e w10 ⟨rfl, hb10⟩
                  have PL10 := Lib.hid (PL9.out.step hb10)
                  clear hb10 HSI HO8 PL7 PL8 PL9
                  go_wp2_with fail
                  first
                    | exact ⟨⟨j + 1, kk, _, _, _, _, by omega, hkk, by go_num, rfl, PL10.out⟩, by simp [intOf]; omega⟩
                    | (go_goals; fail)
                · have hz2 : T.addE dd.length ≠ 0 := by rw [← hE]; exact hz
                  have HA := add_no PL6.out.p PL6.out.ok dA dn dc (by rw [HDL.out]; omega) (by rw [HDL.out]; exact hz)
                  have HA2 := fun V (hV : Below w6.heap.size w6 V) => R12.radd_no (PL6.out.r.step hV) PL6.out.ok2 dA dn dc (by rw [HDL.out]; omega) (by rw [HDL.out]; exact hz2)
                  have hA1e : S.addE dn = S.addE dd.length := by rw [HDL.out]
                  rw [hA1e] at HA
                  have hA2e : T.addE dn = S.addE dd.length := by rw [HDL.out, hE]
                  rw [hA2e] at HA2
                  have HA := Lib.hid HA
                  have HA2 := Lib.hid HA2
                  have hc6 : w6.cell? ⟨bx, 6, none⟩ = some (.slice dA dn dc) := cell_of_row w6 bx 6 _ _ _ HBX.out
                  clear hE hA1e hA2e hz2
                  generalize S.addE dd.length = EE at *
                  have hq0 : ((EE : Int) != (EE : Int)) = false := by simp
                  go_wp2_with fail
                  refine HA.out.mono ?_
                  rintro e w7 ⟨rfl, hb7⟩
                  have hc67 : w7.cell? ⟨bx, 6, none⟩ = some (.slice dA dn dc) := cell_of_row w7 bx 6 _ _ _ ((hb7.block bx (lt_of_some HBX.out)).trans HBX.out)
                  have HB7 := Lib.hid hb7
                  clear hb7 hc6 HA
                  go_wp2_with fail
                  refine (HA2.out _ HB7.out).mono ?_
                  rintro e wx ⟨rfl, hb8⟩
                  have PLX := Lib.hid ((PL6.out.step HB7.out).step hb8)
                  clear hb8 HB7 hc67 HA2
                  go_wp2_with fail
                  have HFR := Lib.hid (free_p PLX.out.p PLX.out.ok)
                  have HFQ := Lib.hid fun V (hV : Below wx.heap.size wx V) => (show Calls Try.prog 64 #[.pointer (some ⟨h, 0, none⟩)] V fun e w' => e = .returned (.int .i64 (S.free : Int)) ∧ w' = V from by rw [PLX.out.like.free]; exact R12.rfree_p (PLX.out.r.step hV) PLX.out.ok2)
                  generalize hFX : Rp.free S = FX at HFR HFQ
                  clear hFX
                  go_wp2_with fail
                  refine HFR.out.mono ?_
                  rintro e w7 ⟨rfl, hb7⟩
                  have PL7 := Lib.hid (PLX.out.step hb7)
                  have HQ7 := Lib.hid (HFQ.out _ hb7)
                  clear hb7 HFR HFQ
                  go_wp2_with fail
                  refine HQ7.out.mono ?_
                  rintro e w8 ⟨rfl, hw8⟩
                  rw [hw8]
                  clear hw8 w8 HQ7
                  go_wp2_with fail
                  refine (ids_p PL7.out.p PL7.out.ok).mono ?_
                  rintro e w8 ⟨v8, rfl, ho8, hb8⟩
                  have PL8 := Lib.hid (PL7.out.step hb8)
                  obtain ⟨A8, n8, c8, rfl, -, -, -⟩ := ho8.form
                  have HO8 := Lib.hid ho8
                  clear hb8 ho8
                  go_wp2_with fail
                  refine (R12.rids_p PL8.out.r PL8.out.ok2).mono ?_
                  rintro e w9 ⟨v9, rfl, ho9, hb9⟩
                  have PL9 := Lib.hid (PL8.out.step hb9)
                  obtain ⟨A9, n9, c9, rfl, -, -, -⟩ := ho9.form
                  rw [← PL7.out.like.ids] at ho9
                  have HSI := Lib.hid (sameids_p (HO8.out.step hb9) ho9 (by rw [List.length_map]; have := PL9.out.ok.len; omega))
                  clear hb9 ho9
                  go_wp2_with fail
                  refine HSI.out.mono ?_
                  rintro e w10 ⟨rfl, hb10⟩
                  have PL10 := Lib.hid (PL9.out.step hb10)
                  clear hb10 HSI HO8 PL7 PL8 PL9
                  go_wp2_with fail
                  first
                    | exact ⟨⟨j + 1, kk, _, _, _, _, by omega, hkk, by go_num, rfl, PL10.out⟩, by simp [intOf]; omega⟩
                    | (go_goals; fail)
            · as_aux_lemma =>
                go_wp2_with fail
                refine (R12.rres_p PL6.out.r PL6.out.ok2).mono ?_
                rintro e w7 ⟨rfl, h7, k7⟩
                have hp7 := prog_kp PL6.out.r PL6.out.p k7
                have HRS := res_p hp7 PL6.out.ok
                rw [PL6.out.like.resL.resv] at HRS
                have HRS := Lib.hid HRS
                have H7 := Lib.hid h7
                have HP7 := Lib.hid hp7
                have hhd2 := PL6.out.ok2.res.resv
                have HHD := Lib.hid hhd2
                clear h7 k7 hp7 hhd2
                generalize T.res.resv = hd2 at *
                go_wp2_with fail
                refine HRS.out.mono ?_
                rintro e wx ⟨rfl, h8, k8⟩
                have PLX := Lib.hid (PL.mk h8 (ref_kp H7.out HP7.out k8) PL6.out.ok.res PL6.out.ok2.res PL6.out.like.resL)
                clear h8 k8 HRS H7 HP7
                generalize S.res = SX at *
                generalize T.res = TX at *
                go_wp2_with fail
                have HFR := Lib.hid (free_p PLX.out.p PLX.out.ok)
                have HFQ := Lib.hid fun V (hV : Below wx.heap.size wx V) => (show Calls Try.prog 64 #[.pointer (some ⟨h, 0, none⟩)] V fun e w' => e = .returned (.int .i64 (SX.free : Int)) ∧ w' = V from by rw [PLX.out.like.free]; exact R12.rfree_p (PLX.out.r.step hV) PLX.out.ok2)
                generalize hFX : Rp.free SX = FX at HFR HFQ
                clear hFX
                go_wp2_with fail
                refine HFR.out.mono ?_
                rintro e w7 ⟨rfl, hb7⟩
                have PL7 := Lib.hid (PLX.out.step hb7)
                have HQ7 := Lib.hid (HFQ.out _ hb7)
                clear hb7 HFR HFQ
                go_wp2_with fail
                refine HQ7.out.mono ?_
                rintro e w8 ⟨rfl, hw8⟩
                rw [hw8]
                clear hw8 w8 HQ7
                go_wp2_with fail
                refine (ids_p PL7.out.p PL7.out.ok).mono ?_
                rintro e w8 ⟨v8, rfl, ho8, hb8⟩
                have PL8 := Lib.hid (PL7.out.step hb8)
                obtain ⟨A8, n8, c8, rfl, -, -, -⟩ := ho8.form
                have HO8 := Lib.hid ho8
                clear hb8 ho8
                go_wp2_with fail
                refine (R12.rids_p PL8.out.r PL8.out.ok2).mono ?_
                rintro e w9 ⟨v9, rfl, ho9, hb9⟩
                have PL9 := Lib.hid (PL8.out.step hb9)
                obtain ⟨A9, n9, c9, rfl, -, -, -⟩ := ho9.form
                rw [← PL7.out.like.ids] at ho9
                have HSI := Lib.hid (sameids_p (HO8.out.step hb9) ho9 (by rw [List.length_map]; have := PL9.out.ok.len; omega))
                clear hb9 ho9
                go_wp2_with fail
                refine HSI.out.mono ?_
                rintro e w10 ⟨rfl, hb10⟩
                have PL10 := Lib.hid (PL9.out.step hb10)
                clear hb10 HSI HO8 PL7 PL8 PL9
                go_wp2_with fail
                first
                  | exact ⟨⟨j + 1, hd2, _, _, _, _, by omega, HHD.out, by go_num, rfl, PL10.out⟩, by simp [intOf]; omega⟩
                  | (go_goals; fail)
            · as_aux_lemma =>
                have HG := Lib.hid (get_p PL6.out.p PL6.out.ok D)
                have HG2 := Lib.hid fun V (hV : Below w6.heap.size w6 V) => (show Calls Try.prog 56 #[.pointer (some ⟨h, 0, none⟩), .int .u16 (D : Int)] V (Gives V (S.get D)) from by rw [PL6.out.like.get D]; exact R12.rget_p (PL6.out.r.step hV) PL6.out.ok2 D hD)
                generalize S.get D = RR at *
                obtain ⟨bb, qq, ee⟩ := RR
                go_wp2_with fail
                refine HG.out.mono ?_
                rintro e w7 ⟨A7, n7, c7, rfl, ho7, hb7⟩
                have HO7 := Lib.hid ho7
                have HB7 := Lib.hid hb7
                clear ho7 hb7 HG
                dsimp only at HO7 ⊢
                go_wp2_with fail
                refine (HG2.out _ HB7.out).mono ?_
                rintro e w8 ⟨A8, n8, c8, rfl, ho8, hb8⟩
                have ho78 := row_step HO7.out hb8
                have HSM := Lib.hid (Same.same_yes (sl_own ho78 (by
                  obtain ⟨A', c', hv, -⟩ := HO7.out.form
                  injection hv with e1 e2)) (sl_own ho8 (by
                  obtain ⟨A', c', hv, -⟩ := ho8.form
                  injection hv with e1 e2)))
                have PL8 := Lib.hid ((PL6.out.step HB7.out).step hb8)
                have hqe : ((ee : Int) != (ee : Int)) = false := by simp
                have hqq : ((qq : Int) != (qq : Int)) = false := by simp
                clear ho78 ho8 hb8 HO7 HB7 HG2
                go_wp2_with fail
                refine HSM.out.mono ?_
                rintro e wx ⟨rfl, hb9⟩
                have PLX := Lib.hid (PL8.out.step hb9)
                clear hb9 HSM PL8
                go_wp2_with fail
                have HFR := Lib.hid (free_p PLX.out.p PLX.out.ok)
                have HFQ := Lib.hid fun V (hV : Below wx.heap.size wx V) => (show Calls Try.prog 64 #[.pointer (some ⟨h, 0, none⟩)] V fun e w' => e = .returned (.int .i64 (S.free : Int)) ∧ w' = V from by rw [PLX.out.like.free]; exact R12.rfree_p (PLX.out.r.step hV) PLX.out.ok2)
                generalize hFX : Rp.free S = FX at HFR HFQ
                clear hFX
                go_wp2_with fail
                refine HFR.out.mono ?_
                rintro e w7 ⟨rfl, hb7⟩
                have PL7 := Lib.hid (PLX.out.step hb7)
                have HQ7 := Lib.hid (HFQ.out _ hb7)
                clear hb7 HFR HFQ
                go_wp2_with fail
                refine HQ7.out.mono ?_
                rintro e w8 ⟨rfl, hw8⟩
                rw [hw8]
                clear hw8 w8 HQ7
                go_wp2_with fail
                refine (ids_p PL7.out.p PL7.out.ok).mono ?_
                rintro e w8 ⟨v8, rfl, ho8, hb8⟩
                have PL8 := Lib.hid (PL7.out.step hb8)
                obtain ⟨A8, n8, c8, rfl, -, -, -⟩ := ho8.form
                have HO8 := Lib.hid ho8
                clear hb8 ho8
                go_wp2_with fail
                refine (R12.rids_p PL8.out.r PL8.out.ok2).mono ?_
                rintro e w9 ⟨v9, rfl, ho9, hb9⟩
                have PL9 := Lib.hid (PL8.out.step hb9)
                obtain ⟨A9, n9, c9, rfl, -, -, -⟩ := ho9.form
                rw [← PL7.out.like.ids] at ho9
                have HSI := Lib.hid (sameids_p (HO8.out.step hb9) ho9 (by rw [List.length_map]; have := PL9.out.ok.len; omega))
                clear hb9 ho9
                go_wp2_with fail
                refine HSI.out.mono ?_
                rintro e w10 ⟨rfl, hb10⟩
                have PL10 := Lib.hid (PL9.out.step hb10)
                clear hb10 HSI HO8 PL7 PL8 PL9
                go_wp2_with fail
                first
                  | exact ⟨⟨j + 1, kk, _, _, _, _, by omega, hkk, by go_num, rfl, PL10.out⟩, by simp [intOf]; omega⟩
                  | (go_goals; fail)
            · as_aux_lemma =>
                have hc1 : w6.cell? ⟨bx, 1, none⟩ = some (.int .i64 xa) := cell_of_row w6 bx 1 _ _ _ HBX.out
                have hc2 : w6.cell? ⟨bx, 2, none⟩ = some (.int .i64 xb) := cell_of_row w6 bx 2 _ _ _ HBX.out
                go_wp2_with fail
                go_quiet (fail)
                have PL62 := Lib.hid (PL6.out.step (show Below w6.heap.size w6 (w6.drewN nq) from below_drewN w6 nq))
                have HBX2 : Hid ((w6.drewN nq).heap[bx]? = some (.cells #[.int .i64 kd, .int .i64 xa, .int .i64 xb, .int .u16 (xi : Int), .int .u16 (xo : Int), .bool false, .slice dA dn dc] 88 (0, 0))) := Lib.hid HBX.out
                obtain ⟨w6a, hww6a⟩ : ∃ x, x = w6.drewN nq := ⟨_, rfl⟩
                rw [← hww6a] at PL62 HBX2 ⊢
                clear hww6a hc1 hc2 HBX PL6
                have HBX := Lib.hid HBX2.out
                have PL6 := Lib.hid PL62.out
                clear HBX2 PL62
                have hc5 : w6a.cell? ⟨bx, 5, none⟩ = some (.bool false) := cell_of_row w6a bx 5 _ _ _ HBX.out
                go_wp2_with fail
                have hc1 : w6a.cell? ⟨bx, 1, none⟩ = some (.int .i64 xa) := cell_of_row w6a bx 1 _ _ _ HBX.out
                have hc2 : w6a.cell? ⟨bx, 2, none⟩ = some (.int .i64 xb) := cell_of_row w6a bx 2 _ _ _ HBX.out
                have HDA : Hid (∀ u, Calls Try.prog 29 #[.int .i64 xa, .int .i64 9] u fun e w' => e = .returned (.int .i64 (xa % 9)) ∧ u = w') := Lib.hid fun u => mod_det xa 9 u a1 a2 (by omega) (by omega)
                have HDB : Hid (∀ u, Calls Try.prog 29 #[.int .i64 xb, .int .i64 9] u fun e w' => e = .returned (.int .i64 (xb % 9)) ∧ u = w') := Lib.hid fun u => mod_det xb 9 u b1 b2 (by omega) (by omega)
                go_quiet (first | (go_at_call 29; with_reducible exact quiet_same (HDA.out _)) | (go_at_call 29; with_reducible exact quiet_same (HDB.out _)))
                have PL62 := Lib.hid (PL6.out.step (show Below w6a.heap.size w6a (w6a.drewN nq) from below_drewN w6a nq))
                have HBX2 : Hid ((w6a.drewN nq).heap[bx]? = some (.cells #[.int .i64 kd, .int .i64 xa, .int .i64 xb, .int .u16 (xi : Int), .int .u16 (xo : Int), .bool false, .slice dA dn dc] 88 (0, 0))) := Lib.hid HBX.out
                obtain ⟨w6b, hww6b⟩ : ∃ x, x = w6a.drewN nq := ⟨_, rfl⟩
                rw [← hww6b] at PL62 HBX2 ⊢
                clear hww6b hc1 hc2 HBX PL6
                have HBX := Lib.hid HBX2.out
                have PL6 := Lib.hid PL62.out
                clear HBX2 PL62
                clear HDA HDB hc5
                go_wp2_with fail
                have HG := Lib.hid (read_p PL6.out.p PL6.out.ok kk D (xa % 9) (xb % 9) (by omega) (by omega))
                have HG2 := Lib.hid fun V (hV : Below w6b.heap.size w6b V) => (show Calls Try.prog 58 #[.pointer (some ⟨h, 0, none⟩), .int .u16 (kk : Int), .int .u16 (D : Int), .int .i64 (xa % 9), .int .i64 (xb % 9)] V (Gives V (S.read kk D (xa % 9) (xb % 9))) from by rw [PL6.out.like.read kk D (xa % 9) (xb % 9)]; exact R12.rread_p (PL6.out.r.step hV) PL6.out.ok2 kk D (xa % 9) (xb % 9) (by omega) (by omega) hkk hD)
                generalize S.read kk D (xa % 9) (xb % 9) = RR at *
                obtain ⟨bb, qq, ee⟩ := RR
                refine HG.out.mono ?_
                rintro e w7 ⟨A7, n7, c7, rfl, ho7, hb7⟩
                have HO7 := Lib.hid ho7
                have HB7 := Lib.hid hb7
                clear ho7 hb7 HG
                dsimp only at HO7 ⊢
                go_wp2_with fail
                refine (HG2.out _ HB7.out).mono ?_
                rintro e w8 ⟨A8, n8, c8, rfl, ho8, hb8⟩
                have ho78 := row_step HO7.out hb8
                have HSM := Lib.hid (Same.same_yes (sl_own ho78 (by
                  obtain ⟨A', c', hv, -⟩ := HO7.out.form
                  injection hv with e1 e2)) (sl_own ho8 (by
                  obtain ⟨A', c', hv, -⟩ := ho8.form
                  injection hv with e1 e2)))
                have PL8 := Lib.hid ((PL6.out.step HB7.out).step hb8)
                have hqe : ((ee : Int) != (ee : Int)) = false := by simp
                have hqq : ((qq : Int) != (qq : Int)) = false := by simp
                clear ho78 ho8 hb8 HO7 HB7 HG2
                go_wp2_with fail
                refine HSM.out.mono ?_
                rintro e wx ⟨rfl, hb9⟩
                have PLX := Lib.hid (PL8.out.step hb9)
                clear hb9 HSM PL8
                go_wp2_with fail
                have HFR := Lib.hid (free_p PLX.out.p PLX.out.ok)
                have HFQ := Lib.hid fun V (hV : Below wx.heap.size wx V) => (show Calls Try.prog 64 #[.pointer (some ⟨h, 0, none⟩)] V fun e w' => e = .returned (.int .i64 (S.free : Int)) ∧ w' = V from by rw [PLX.out.like.free]; exact R12.rfree_p (PLX.out.r.step hV) PLX.out.ok2)
                generalize hFX : Rp.free S = FX at HFR HFQ
                clear hFX
                go_wp2_with fail
                refine HFR.out.mono ?_
                rintro e w7 ⟨rfl, hb7⟩
                have PL7 := Lib.hid (PLX.out.step hb7)
                have HQ7 := Lib.hid (HFQ.out _ hb7)
                clear hb7 HFR HFQ
                go_wp2_with fail
                refine HQ7.out.mono ?_
                rintro e w8 ⟨rfl, hw8⟩
                rw [hw8]
                clear hw8 w8 HQ7
                go_wp2_with fail
                refine (ids_p PL7.out.p PL7.out.ok).mono ?_
                rintro e w8 ⟨v8, rfl, ho8, hb8⟩
                have PL8 := Lib.hid (PL7.out.step hb8)
                obtain ⟨A8, n8, c8, rfl, -, -, -⟩ := ho8.form
                have HO8 := Lib.hid ho8
                clear hb8 ho8
                go_wp2_with fail
                refine (R12.rids_p PL8.out.r PL8.out.ok2).mono ?_
                rintro e w9 ⟨v9, rfl, ho9, hb9⟩
                have PL9 := Lib.hid (PL8.out.step hb9)
                obtain ⟨A9, n9, c9, rfl, -, -, -⟩ := ho9.form
                rw [← PL7.out.like.ids] at ho9
                have HSI := Lib.hid (sameids_p (HO8.out.step hb9) ho9 (by rw [List.length_map]; have := PL9.out.ok.len; omega))
                clear hb9 ho9
                go_wp2_with fail
                refine HSI.out.mono ?_
                rintro e w10 ⟨rfl, hb10⟩
                have PL10 := Lib.hid (PL9.out.step hb10)
                clear hb10 HSI HO8 PL7 PL8 PL9
                go_wp2_with fail
                first
                  | exact ⟨⟨j + 1, kk, _, _, _, _, by omega, hkk, by go_num, rfl, PL10.out⟩, by simp [intOf]; omega⟩
                  | (go_goals; fail)
            · as_aux_lemma =>
                have hE := PL6.out.like.delE kk D
                by_cases hz : S.delE kk D = 0
                · have hz2 : T.delE kk D = 0 := by rw [← hE]; exact hz
                  have HA := Lib.hid (del_p PL6.out.p PL6.out.ok kk D hz)
                  clear hE
                  go_wp2_with fail
                  refine HA.out.mono ?_
                  rintro e w7 ⟨rv7, rfl, h7, k7⟩
                  have hr7 := PL6.out.left k7
                  have HA2 := R12.rdel_p hr7 PL6.out.ok2 kk D hkk hD hz2
                  rw [← PL6.out.like.findE D] at HA2
                  have HA2 := Lib.hid HA2
                  have H7 := Lib.hid h7
                  have HR7 := Lib.hid hr7
                  have HO7 := Lib.hid fun f => PL6.out.ok.gone f
                  have HT7 := Lib.hid fun f => PL6.out.ok2.gone f
                  have HK7 := Lib.hid fun f => PL6.out.like.goneL f
                  clear h7 k7 hr7 HA
                  generalize (S.recs.findIdx fun r => decide (r.id = D)) = f at *
                  go_wp2_with fail
                  refine HA2.out.mono ?_
                  rintro e wx ⟨qv8, rfl, h8, k8⟩
                  have PLX := Lib.hid (PL.mk (prog_kp HR7.out H7.out k8) h8 (HO7.out f) (HT7.out f) (HK7.out f))
                  clear h8 k8 HA2 H7 HR7 HO7 HT7 HK7
                  generalize S.gone f = SX at *
                  generalize T.gone f = TX at *
                  go_wp2_with fail
                  have HFR := Lib.hid (free_p PLX.out.p PLX.out.ok)
                  have HFQ := Lib.hid fun V (hV : Below wx.heap.size wx V) => (show Calls Try.prog 64 #[.pointer (some ⟨h, 0, none⟩)] V fun e w' => e = .returned (.int .i64 (SX.free : Int)) ∧ w' = V from by rw [PLX.out.like.free]; exact R12.rfree_p (PLX.out.r.step hV) PLX.out.ok2)
                  generalize hFX : Rp.free SX = FX at HFR HFQ
                  clear hFX
                  go_wp2_with fail
                  refine HFR.out.mono ?_
                  rintro e w7 ⟨rfl, hb7⟩
                  have PL7 := Lib.hid (PLX.out.step hb7)
                  have HQ7 := Lib.hid (HFQ.out _ hb7)
                  clear hb7 HFR HFQ
                  go_wp2_with fail
                  refine HQ7.out.mono ?_
                  rintro e w8 ⟨rfl, hw8⟩
                  rw [hw8]
                  clear hw8 w8 HQ7
                  go_wp2_with fail
                  refine (ids_p PL7.out.p PL7.out.ok).mono ?_
                  rintro e w8 ⟨v8, rfl, ho8, hb8⟩
                  have PL8 := Lib.hid (PL7.out.step hb8)
                  obtain ⟨A8, n8, c8, rfl, -, -, -⟩ := ho8.form
                  have HO8 := Lib.hid ho8
                  clear hb8 ho8
                  go_wp2_with fail
                  refine (R12.rids_p PL8.out.r PL8.out.ok2).mono ?_
                  rintro e w9 ⟨v9, rfl, ho9, hb9⟩
                  have PL9 := Lib.hid (PL8.out.step hb9)
                  obtain ⟨A9, n9, c9, rfl, -, -, -⟩ := ho9.form
                  rw [← PL7.out.like.ids] at ho9
                  have HSI := Lib.hid (sameids_p (HO8.out.step hb9) ho9 (by rw [List.length_map]; have := PL9.out.ok.len; omega))
                  clear hb9 ho9
                  go_wp2_with fail
                  refine HSI.out.mono ?_
                  rintro e w10 ⟨rfl, hb10⟩
                  have PL10 := Lib.hid (PL9.out.step hb10)
                  clear hb10 HSI HO8 PL7 PL8 PL9
                  go_wp2_with fail
                  first
                    | exact ⟨⟨j + 1, kk, _, _, _, _, by omega, hkk, by go_num, rfl, PL10.out⟩, by simp [intOf]; omega⟩
                    | (go_goals; fail)
                · have hz2 : T.delE kk D ≠ 0 := by rw [← hE]; exact hz
                  have HA := Lib.hid (del_no PL6.out.p kk D hz)
                  have HA2 := fun V (hV : Below w6.heap.size w6 V) => R12.rdel_no (PL6.out.r.step hV) PL6.out.ok2 kk D hkk hz2 hD
                  rw [← hE] at HA2
                  have HA2 := Lib.hid HA2
                  clear hE hz2
                  generalize S.delE kk D = EE at *
                  have hq0 : ((EE : Int) != (EE : Int)) = false := by simp
                  go_wp2_with fail
                  refine HA.out.mono ?_
                  rintro e w7 ⟨rfl, hb7⟩
                  have HB7 := Lib.hid hb7
                  clear hb7 HA
                  go_wp2_with fail
                  refine (HA2.out _ HB7.out).mono ?_
                  rintro e wx ⟨rfl, hb8⟩
                  have PLX := Lib.hid ((PL6.out.step HB7.out).step hb8)
                  clear hb8 HB7 HA2
                  go_wp2_with fail
                  have HFR := Lib.hid (free_p PLX.out.p PLX.out.ok)
                  have HFQ := Lib.hid fun V (hV : Below wx.heap.size wx V) => (show Calls Try.prog 64 #[.pointer (some ⟨h, 0, none⟩)] V fun e w' => e = .returned (.int .i64 (S.free : Int)) ∧ w' = V from by rw [PLX.out.like.free]; exact R12.rfree_p (PLX.out.r.step hV) PLX.out.ok2)
                  generalize hFX : Rp.free S = FX at HFR HFQ
                  clear hFX
                  go_wp2_with fail
                  refine HFR.out.mono ?_
                  rintro e w7 ⟨rfl, hb7⟩
                  have PL7 := Lib.hid (PLX.out.step hb7)
                  have HQ7 := Lib.hid (HFQ.out _ hb7)
                  clear hb7 HFR HFQ
                  go_wp2_with fail
                  refine HQ7.out.mono ?_
                  rintro e w8 ⟨rfl, hw8⟩
                  rw [hw8]
                  clear hw8 w8 HQ7
                  go_wp2_with fail
                  refine (ids_p PL7.out.p PL7.out.ok).mono ?_
                  rintro e w8 ⟨v8, rfl, ho8, hb8⟩
                  have PL8 := Lib.hid (PL7.out.step hb8)
                  obtain ⟨A8, n8, c8, rfl, -, -, -⟩ := ho8.form
                  have HO8 := Lib.hid ho8
                  clear hb8 ho8
                  go_wp2_with fail
                  refine (R12.rids_p PL8.out.r PL8.out.ok2).mono ?_
                  rintro e w9 ⟨v9, rfl, ho9, hb9⟩
                  have PL9 := Lib.hid (PL8.out.step hb9)
                  obtain ⟨A9, n9, c9, rfl, -, -, -⟩ := ho9.form
                  rw [← PL7.out.like.ids] at ho9
                  have HSI := Lib.hid (sameids_p (HO8.out.step hb9) ho9 (by rw [List.length_map]; have := PL9.out.ok.len; omega))
                  clear hb9 ho9
                  go_wp2_with fail
                  refine HSI.out.mono ?_
                  rintro e w10 ⟨rfl, hb10⟩
                  have PL10 := Lib.hid (PL9.out.step hb10)
                  clear hb10 HSI HO8 PL7 PL8 PL9
                  go_wp2_with fail
                  first
                    | exact ⟨⟨j + 1, kk, _, _, _, _, by omega, hkk, by go_num, rfl, PL10.out⟩, by simp [intOf]; omega⟩
                    | (go_goals; fail)
            · as_aux_lemma =>
                rcases hv : S.valid kk with _ | _
                · have hv2 : T.valid kk = false := by rw [← PL6.out.like.valid kk]; exact hv
                  have HA := Lib.hid (clr_no PL6.out.p kk hv)
                  have HA2 := Lib.hid (R12.rclr_no PL6.out.r kk hkk hv2)
                  clear hv hv2
                  go_wp2_with fail
                  refine HA.out.mono ?_
                  rintro e w7 ⟨rfl, hw7⟩
                  rw [hw7]
                  clear hw7 w7
                  go_wp2_with fail
                  refine HA2.out.mono ?_
                  rintro e w7 ⟨rfl, hw7⟩
                  rw [hw7]
                  clear hw7 w7 HA HA2
                  have PLX := Lib.hid PL6.out
                  obtain ⟨wx, hwx⟩ : ∃ wx, wx = w6 := ⟨_, rfl⟩
                  rw [← hwx] at PLX ⊢
                  clear hwx
                  go_wp2_with fail
                  have HFR := Lib.hid (free_p PLX.out.p PLX.out.ok)
                  have HFQ := Lib.hid fun V (hV : Below wx.heap.size wx V) => (show Calls Try.prog 64 #[.pointer (some ⟨h, 0, none⟩)] V fun e w' => e = .returned (.int .i64 (S.free : Int)) ∧ w' = V from by rw [PLX.out.like.free]; exact R12.rfree_p (PLX.out.r.step hV) PLX.out.ok2)
                  generalize hFX : Rp.free S = FX at HFR HFQ
                  clear hFX
                  go_wp2_with fail
                  refine HFR.out.mono ?_
                  rintro e w7 ⟨rfl, hb7⟩
                  have PL7 := Lib.hid (PLX.out.step hb7)
                  have HQ7 := Lib.hid (HFQ.out _ hb7)
                  clear hb7 HFR HFQ
                  go_wp2_with fail
                  refine HQ7.out.mono ?_
                  rintro e w8 ⟨rfl, hw8⟩
                  rw [hw8]
                  clear hw8 w8 HQ7
                  go_wp2_with fail
                  refine (ids_p PL7.out.p PL7.out.ok).mono ?_
                  rintro e w8 ⟨v8, rfl, ho8, hb8⟩
                  have PL8 := Lib.hid (PL7.out.step hb8)
                  obtain ⟨A8, n8, c8, rfl, -, -, -⟩ := ho8.form
                  have HO8 := Lib.hid ho8
                  clear hb8 ho8
                  go_wp2_with fail
                  refine (R12.rids_p PL8.out.r PL8.out.ok2).mono ?_
                  rintro e w9 ⟨v9, rfl, ho9, hb9⟩
                  have PL9 := Lib.hid (PL8.out.step hb9)
                  obtain ⟨A9, n9, c9, rfl, -, -, -⟩ := ho9.form
                  rw [← PL7.out.like.ids] at ho9
                  have HSI := Lib.hid (sameids_p (HO8.out.step hb9) ho9 (by rw [List.length_map]; have := PL9.out.ok.len; omega))
                  clear hb9 ho9
                  go_wp2_with fail
                  refine HSI.out.mono ?_
                  rintro e w10 ⟨rfl, hb10⟩
                  have PL10 := Lib.hid (PL9.out.step hb10)
                  clear hb10 HSI HO8 PL7 PL8 PL9
                  go_wp2_with fail
                  first
                    | exact ⟨⟨j + 1, kk, _, _, _, _, by omega, hkk, by go_num, rfl, PL10.out⟩, by simp [intOf]; omega⟩
                    | (go_goals; fail)
                · have hv2 : T.valid kk = true := by rw [← PL6.out.like.valid kk]; exact hv
                  have HA := Lib.hid (clr_p PL6.out.p kk hv)
                  clear hv
                  go_wp2_with fail
                  refine HA.out.mono ?_
                  rintro e w7 ⟨rfl, h7, k7⟩
                  have hr7 := PL6.out.left k7
                  have HA2 := Lib.hid (R12.rclr_p hr7 kk hkk hv2)
                  have H7 := Lib.hid h7
                  have HR7 := Lib.hid hr7
                  clear h7 k7 hr7 hv2 HA
                  go_wp2_with fail
                  refine HA2.out.mono ?_
                  rintro e wx ⟨rfl, h8, k8⟩
                  have PLX := Lib.hid (PL.mk (prog_kp HR7.out H7.out k8) h8 PL6.out.ok.clr PL6.out.ok2.clr PL6.out.like.clrL)
                  clear h8 k8 HA2 H7 HR7
                  generalize S.clr = SX at *
                  generalize T.clr = TX at *
                  go_wp2_with fail
                  have HFR := Lib.hid (free_p PLX.out.p PLX.out.ok)
                  have HFQ := Lib.hid fun V (hV : Below wx.heap.size wx V) => (show Calls Try.prog 64 #[.pointer (some ⟨h, 0, none⟩)] V fun e w' => e = .returned (.int .i64 (SX.free : Int)) ∧ w' = V from by rw [PLX.out.like.free]; exact R12.rfree_p (PLX.out.r.step hV) PLX.out.ok2)
                  generalize hFX : Rp.free SX = FX at HFR HFQ
                  clear hFX
                  go_wp2_with fail
                  refine HFR.out.mono ?_
                  rintro e w7 ⟨rfl, hb7⟩
                  have PL7 := Lib.hid (PLX.out.step hb7)
                  have HQ7 := Lib.hid (HFQ.out _ hb7)
                  clear hb7 HFR HFQ
                  go_wp2_with fail
                  refine HQ7.out.mono ?_
                  rintro e w8 ⟨rfl, hw8⟩
                  rw [hw8]
                  clear hw8 w8 HQ7
                  go_wp2_with fail
                  refine (ids_p PL7.out.p PL7.out.ok).mono ?_
                  rintro e w8 ⟨v8, rfl, ho8, hb8⟩
                  have PL8 := Lib.hid (PL7.out.step hb8)
                  obtain ⟨A8, n8, c8, rfl, -, -, -⟩ := ho8.form
                  have HO8 := Lib.hid ho8
                  clear hb8 ho8
                  go_wp2_with fail
                  refine (R12.rids_p PL8.out.r PL8.out.ok2).mono ?_
                  rintro e w9 ⟨v9, rfl, ho9, hb9⟩
                  have PL9 := Lib.hid (PL8.out.step hb9)
                  obtain ⟨A9, n9, c9, rfl, -, -, -⟩ := ho9.form
                  rw [← PL7.out.like.ids] at ho9
                  have HSI := Lib.hid (sameids_p (HO8.out.step hb9) ho9 (by rw [List.length_map]; have := PL9.out.ok.len; omega))
                  clear hb9 ho9
                  go_wp2_with fail
                  refine HSI.out.mono ?_
                  rintro e w10 ⟨rfl, hb10⟩
                  have PL10 := Lib.hid (PL9.out.step hb10)
                  clear hb10 HSI HO8 PL7 PL8 PL9
                  go_wp2_with fail
                  first
                    | exact ⟨⟨j + 1, kk, _, _, _, _, by omega, hkk, by go_num, rfl, PL10.out⟩, by simp [intOf]; omega⟩
                    | (go_goals; fail)
          · rcases Nat.mod_two_eq_zero_or_one j with hpar | hpar
            · go_wp2_with fail
              have HBX : Hid ((wr.alloc (.cells #[.int .i64 kd, .int .i64 xa, .int .i64 xb, .int .u16 (xi : Int), .int .u16 (xo : Int), .bool true, .slice dA dn dc] 88)).heap[wr.heap.size]? = some (.cells #[.int .i64 kd, .int .i64 xa, .int .i64 xb, .int .u16 (xi : Int), .int .u16 (xo : Int), .bool true, .slice dA dn dc] 88 (0, 0))) := Lib.hid (heap_alloc_new wr _)
              have PL6 := Lib.hid HPL.out
              obtain ⟨w6, hw6⟩ : ∃ w6, w6 = wr.alloc (.cells #[.int .i64 kd, .int .i64 xa, .int .i64 xb, .int .u16 (xi : Int), .int .u16 (xo : Int), .bool true, .slice dA dn dc] 88) := ⟨_, rfl⟩
              rw [← hw6] at HBX PL6 ⊢
              clear hw6 HPL
              obtain ⟨bx, hbx⟩ : ∃ bx, bx = wr.heap.size := ⟨_, rfl⟩
              rw [← hbx] at HBX ⊢
              clear hbx
              obtain ⟨kk, hke⟩ : ∃ kk, kk = xo := ⟨_, rfl⟩
              have hkk : kk ≤ 65535 := by omega
              rw [show ((xo : Nat) : Int) = (kk : Int) by rw [hke]]
              clear hke
              obtain ⟨D, hDe⟩ : ∃ D, D = xi := ⟨_, rfl⟩
              have hD : D ≤ 65535 := by omega
              rw [show ((xi : Nat) : Int) = (D : Int) by rw [hDe]]
              clear hDe c0 c1' c2' c3 c4 c5 c6
              refine (HM6.out _).mono ?_
              rintro e w' ⟨⟨m6, hm6, rfl, -⟩, hw'⟩
              rw [← hw']
              clear hw' w' HM6
              rcases (show m6 = 0 ∨ m6 = 1 ∨ m6 = 2 ∨ m6 = 3 ∨ m6 = 4 ∨ m6 = 5 by omega) with rfl | rfl | rfl | rfl | rfl | rfl
              · as_aux_lemma =>
                  have hE := PL6.out.like.addE dd.length
                  by_cases hz : S.addE dd.length = 0
                  · have hz2 : T.addE dd.length = 0 := by rw [← hE]; exact hz
                    have hoff : Off g rv dA dd := fun h0 b hb => ⟨fun e => by have := HLOW.out h0 b hb; have := PL6.out.p.low; omega, fun e => by have := HLOW.out h0 b hb; have := (PL6.out.p.r1 e).2.2; omega⟩
                    have hoff2 : R12.Off' h qv dA dd := fun h0 b hb => ⟨fun e => by have := HLOW.out h0 b hb; have := PL6.out.r.low; omega, fun e => by have := HLOW.out h0 b hb; have := (PL6.out.r.r1 e).2.2; omega⟩
                    have HA := Lib.hid (add_p PL6.out.p PL6.out.ok dA dn dc dd (HSLB.out _ PL6.out.p.bel) hoff hz)
                    have HOF2 := Lib.hid hoff2
                    have hc6 : w6.cell? ⟨bx, 6, none⟩ = some (.slice dA dn dc) := cell_of_row w6 bx 6 _ _ _ HBX.out
                    clear hE hoff hoff2
                    go_wp2_with fail
                    refine HA.out.mono ?_
                    rintro e w7 ⟨rv7, x7, y7, rfl, h7, k7, -⟩
                    have hr7 := PL6.out.left k7
                    have hfe := PL6.out.like.fid
                    have HA2 := R12.radd_p hr7 PL6.out.ok2 dA dn dc dd (HSLB.out _ h7.bel) HOF2.out hz2
                    rw [← hfe] at HA2
                    have HA2 := Lib.hid HA2
                    have hbx7 := (k7.block bx (lt_of_some HBX.out) (ne_of_types HBX.out PL6.out.p.head (by decide)) (fun e => by
                      obtain ⟨_, c', z', hk⟩ := PL6.out.p.own.blk e
                      exact ne_of_types HBX.out hk (by decide) rfl)).1.trans HBX.out
                    have hc67 : w7.cell? ⟨bx, 6, none⟩ = some (.slice dA dn dc) := cell_of_row w7 bx 6 _ _ _ hbx7
                    have H7 := Lib.hid h7
                    have HR7 := Lib.hid hr7
                    have HO7 := Lib.hid (PL6.out.ok.add x7 y7 dd hz)
                    have HT7 := Lib.hid fun x y => PL6.out.ok2.add x y dd hz2
                    have HK7 := Lib.hid fun x y => PL6.out.like.addL x7 y7 x y dd
                    clear h7 k7 hr7 hfe hbx7 HA hc6
                    generalize fid S.recs S.last = I at *
                    go_wp2_with fail
                    refine HA2.out.mono ?_
                    rintro e wx ⟨qv8, x8, y8, rfl, h8, k8, -⟩
                    have PLX := Lib.hid (PL.mk (prog_kp HR7.out H7.out k8) h8 HO7.out (HT7.out x8 y8) (HK7.out x8 y8))
                    clear h8 k8 HA2 hc67 H7 HR7 HO7 HT7 HK7
                    generalize S.add x7 y7 dd = SX at *
                    generalize T.add x8 y8 dd = TX at *
                    go_wp2_with fail
                    have HFR := Lib.hid (free_p PLX.out.p PLX.out.ok)
                    have HFQ := Lib.hid fun V (hV : Below wx.heap.size wx V) => (show Calls Try.prog 64 #[.pointer (some ⟨h, 0, none⟩)] V fun e w' => e = .returned (.int .i64 (SX.free : Int)) ∧ w' = V from by rw [PLX.out.like.free]; exact R12.rfree_p (PLX.out.r.step hV) PLX.out.ok2)
                    generalize hFX : Rp.free SX = FX at HFR HFQ
                    clear hFX
                    go_wp2_with fail
                    refine HFR.out.mono ?_
                    rintro e w7 ⟨rfl, hb7⟩
                    have PL7 := Lib.hid (PLX.out.step hb7)
                    have HQ7 := Lib.hid (HFQ.out _ hb7)
                    clear hb7 HFR HFQ
                    go_wp2_with fail
                    refine HQ7.out.mono ?_
                    rintro e w8 ⟨rfl, hw8⟩
                    rw [hw8]
                    clear hw8 w8 HQ7
                    go_wp2_with fail
                    refine (ids_p PL7.out.p PL7.out.ok).mono ?_
                    rintro e w8 ⟨v8, rfl, ho8, hb8⟩
                    have PL8 := Lib.hid (PL7.out.step hb8)
                    obtain ⟨A8, n8, c8, rfl, -, -, -⟩ := ho8.form
                    have HO8 := Lib.hid ho8
                    clear hb8 ho8
                    go_wp2_with fail
                    refine (R12.rids_p PL8.out.r PL8.out.ok2).mono ?_
                    rintro e w9 ⟨v9, rfl, ho9, hb9⟩
                    have PL9 := Lib.hid (PL8.out.step hb9)
                    obtain ⟨A9, n9, c9, rfl, -, -, -⟩ := ho9.form
                    rw [← PL7.out.like.ids] at ho9
                    have HSI := Lib.hid (sameids_p (HO8.out.step hb9) ho9 (by rw [List.length_map]; have := PL9.out.ok.len; omega))
                    clear hb9 ho9
                    go_wp2_with fail
                    refine HSI.out.mono ?_
                    rintro e w10 ⟨rfl, hb10⟩
                    have PL10 := Lib.hid (PL9.out.step hb10)
                    clear hb10 HSI HO8 PL7 PL8 PL9
                    go_wp2_with fail
                    first
                      | exact ⟨⟨j + 1, hd, _, _, _, _, by omega, hhd, by go_num, rfl, PL10.out⟩, by simp [intOf]; omega⟩
                      | (go_goals; fail)
                  · have hz2 : T.addE dd.length ≠ 0 := by rw [← hE]; exact hz
                    have HA := add_no PL6.out.p PL6.out.ok dA dn dc (by rw [HDL.out]; omega) (by rw [HDL.out]; exact hz)
                    have HA2 := fun V (hV : Below w6.heap.size w6 V) => R12.radd_no (PL6.out.r.step hV) PL6.out.ok2 dA dn dc (by rw [HDL.out]; omega) (by rw [HDL.out]; exact hz2)
                    have hA1e : S.addE dn = S.addE dd.length := by rw [HDL.out]
                    rw [hA1e] at HA
                    have hA2e : T.addE dn = S.addE dd.length := by rw [HDL.out, hE]
                    rw [hA2e] at HA2
                    have HA := Lib.hid HA
                    have HA2 := Lib.hid HA2
                    have hc6 : w6.cell? ⟨bx, 6, none⟩ = some (.slice dA dn dc) := cell_of_row w6 bx 6 _ _ _ HBX.out
                    clear hE hA1e hA2e hz2
                    generalize S.addE dd.length = EE at *
                    have hq0 : ((EE : Int) != (EE : Int)) = false := by simp
                    go_wp2_with fail
                    refine HA.out.mono ?_
                    rintro e w7 ⟨rfl, hb7⟩
                    have hc67 : w7.cell? ⟨bx, 6, none⟩ = some (.slice dA dn dc) := cell_of_row w7 bx 6 _ _ _ ((hb7.block bx (lt_of_some HBX.out)).trans HBX.out)
                    have HB7 := Lib.hid hb7
                    clear hb7 hc6 HA
                    go_wp2_with fail
                    refine (HA2.out _ HB7.out).mono ?_
                    rintro e wx ⟨rfl, hb8⟩
                    have PLX := Lib.hid ((PL6.out.step HB7.out).step hb8)
                    clear hb8 HB7 hc67 HA2
                    go_wp2_with fail
                    have HFR := Lib.hid (free_p PLX.out.p PLX.out.ok)
                    have HFQ := Lib.hid fun V (hV : Below wx.heap.size wx V) => (show Calls Try.prog 64 #[.pointer (some ⟨h, 0, none⟩)] V fun e w' => e = .returned (.int .i64 (S.free : Int)) ∧ w' = V from by rw [PLX.out.like.free]; exact R12.rfree_p (PLX.out.r.step hV) PLX.out.ok2)
                    generalize hFX : Rp.free S = FX at HFR HFQ
                    clear hFX
                    go_wp2_with fail
                    refine HFR.out.mono ?_
                    rintro e w7 ⟨rfl, hb7⟩
                    have PL7 := Lib.hid (PLX.out.step hb7)
                    have HQ7 := Lib.hid (HFQ.out _ hb7)
                    clear hb7 HFR HFQ
                    go_wp2_with fail
                    refine HQ7.out.mono ?_
                    rintro e w8 ⟨rfl, hw8⟩
                    rw [hw8]
                    clear hw8 w8 HQ7
                    go_wp2_with fail
                    refine (ids_p PL7.out.p PL7.out.ok).mono ?_
                    rintro e w8 ⟨v8, rfl, ho8, hb8⟩
                    have PL8 := Lib.hid (PL7.out.step hb8)
                    obtain ⟨A8, n8, c8, rfl, -, -, -⟩ := ho8.form
                    have HO8 := Lib.hid ho8
                    clear hb8 ho8
                    go_wp2_with fail
                    refine (R12.rids_p PL8.out.r PL8.out.ok2).mono ?_
                    rintro e w9 ⟨v9, rfl, ho9, hb9⟩
                    have PL9 := Lib.hid (PL8.out.step hb9)
                    obtain ⟨A9, n9, c9, rfl, -, -, -⟩ := ho9.form
                    rw [← PL7.out.like.ids] at ho9
                    have HSI := Lib.hid (sameids_p (HO8.out.step hb9) ho9 (by rw [List.length_map]; have := PL9.out.ok.len; omega))
                    clear hb9 ho9
                    go_wp2_with fail
                    refine HSI.out.mono ?_
                    rintro e w10 ⟨rfl, hb10⟩
                    have PL10 := Lib.hid (PL9.out.step hb10)
                    clear hb10 HSI HO8 PL7 PL8 PL9
                    go_wp2_with fail
                    first
                      | exact ⟨⟨j + 1, hd, _, _, _, _, by omega, hhd, by go_num, rfl, PL10.out⟩, by simp [intOf]; omega⟩
                      | (go_goals; fail)
              · as_aux_lemma =>
                  go_wp2_with fail
                  refine (R12.rres_p PL6.out.r PL6.out.ok2).mono ?_
                  rintro e w7 ⟨rfl, h7, k7⟩
                  have hp7 := prog_kp PL6.out.r PL6.out.p k7
                  have HRS := res_p hp7 PL6.out.ok
                  rw [PL6.out.like.resL.resv] at HRS
                  have HRS := Lib.hid HRS
                  have H7 := Lib.hid h7
                  have HP7 := Lib.hid hp7
                  have hhd2 := PL6.out.ok2.res.resv
                  have HHD := Lib.hid hhd2
                  clear h7 k7 hp7 hhd2
                  generalize T.res.resv = hd2 at *
                  go_wp2_with fail
                  refine HRS.out.mono ?_
                  rintro e wx ⟨rfl, h8, k8⟩
                  have PLX := Lib.hid (PL.mk h8 (ref_kp H7.out HP7.out k8) PL6.out.ok.res PL6.out.ok2.res PL6.out.like.resL)
                  clear h8 k8 HRS H7 HP7
                  generalize S.res = SX at *
                  generalize T.res = TX at *
                  go_wp2_with fail
                  have HFR := Lib.hid (free_p PLX.out.p PLX.out.ok)
                  have HFQ := Lib.hid fun V (hV : Below wx.heap.size wx V) => (show Calls Try.prog 64 #[.pointer (some ⟨h, 0, none⟩)] V fun e w' => e = .returned (.int .i64 (SX.free : Int)) ∧ w' = V from by rw [PLX.out.like.free]; exact R12.rfree_p (PLX.out.r.step hV) PLX.out.ok2)
                  generalize hFX : Rp.free SX = FX at HFR HFQ
                  clear hFX
                  go_wp2_with fail
                  refine HFR.out.mono ?_
                  rintro e w7 ⟨rfl, hb7⟩
                  have PL7 := Lib.hid (PLX.out.step hb7)
                  have HQ7 := Lib.hid (HFQ.out _ hb7)
                  clear hb7 HFR HFQ
                  go_wp2_with fail
                  refine HQ7.out.mono ?_
                  rintro e w8 ⟨rfl, hw8⟩
                  rw [hw8]
                  clear hw8 w8 HQ7
                  go_wp2_with fail
                  refine (ids_p PL7.out.p PL7.out.ok).mono ?_
                  rintro e w8 ⟨v8, rfl, ho8, hb8⟩
                  have PL8 := Lib.hid (PL7.out.step hb8)
                  obtain ⟨A8, n8, c8, rfl, -, -, -⟩ := ho8.form
                  have HO8 := Lib.hid ho8
                  clear hb8 ho8
                  go_wp2_with fail
                  refine (R12.rids_p PL8.out.r PL8.out.ok2).mono ?_
                  rintro e w9 ⟨v9, rfl, ho9, hb9⟩
                  have PL9 := Lib.hid (PL8.out.step hb9)
                  obtain ⟨A9, n9, c9, rfl, -, -, -⟩ := ho9.form
                  rw [← PL7.out.like.ids] at ho9
                  have HSI := Lib.hid (sameids_p (HO8.out.step hb9) ho9 (by rw [List.length_map]; have := PL9.out.ok.len; omega))
                  clear hb9 ho9
                  go_wp2_with fail
                  refine HSI.out.mono ?_
                  rintro e w10 ⟨rfl, hb10⟩
                  have PL10 := Lib.hid (PL9.out.step hb10)
                  clear hb10 HSI HO8 PL7 PL8 PL9
                  go_wp2_with fail
                  first
                    | exact ⟨⟨j + 1, hd2, _, _, _, _, by omega, HHD.out, by go_num, rfl, PL10.out⟩, by simp [intOf]; omega⟩
                    | (go_goals; fail)
              · as_aux_lemma =>
                  have HG := Lib.hid (get_p PL6.out.p PL6.out.ok D)
                  have HG2 := Lib.hid fun V (hV : Below w6.heap.size w6 V) => (show Calls Try.prog 56 #[.pointer (some ⟨h, 0, none⟩), .int .u16 (D : Int)] V (Gives V (S.get D)) from by rw [PL6.out.like.get D]; exact R12.rget_p (PL6.out.r.step hV) PL6.out.ok2 D hD)
                  generalize S.get D = RR at *
                  obtain ⟨bb, qq, ee⟩ := RR
                  go_wp2_with fail
                  refine HG.out.mono ?_
                  rintro e w7 ⟨A7, n7, c7, rfl, ho7, hb7⟩
                  have HO7 := Lib.hid ho7
                  have HB7 := Lib.hid hb7
                  clear ho7 hb7 HG
                  dsimp only at HO7 ⊢
                  go_wp2_with fail
                  refine (HG2.out _ HB7.out).mono ?_
                  rintro e w8 ⟨A8, n8, c8, rfl, ho8, hb8⟩
                  have ho78 := row_step HO7.out hb8
                  have HSM := Lib.hid (Same.same_yes (sl_own ho78 (by
                    obtain ⟨A', c', hv, -⟩ := HO7.out.form
                    injection hv with e1 e2)) (sl_own ho8 (by
                    obtain ⟨A', c', hv, -⟩ := ho8.form
                    injection hv with e1 e2)))
                  have PL8 := Lib.hid ((PL6.out.step HB7.out).step hb8)
                  have hqe : ((ee : Int) != (ee : Int)) = false := by simp
                  have hqq : ((qq : Int) != (qq : Int)) = false := by simp
                  clear ho78 ho8 hb8 HO7 HB7 HG2
                  go_wp2_with fail
                  refine HSM.out.mono ?_
                  rintro e wx ⟨rfl, hb9⟩
                  have PLX := Lib.hid (PL8.out.step hb9)
                  clear hb9 HSM PL8
                  go_wp2_with fail
                  have HFR := Lib.hid (free_p PLX.out.p PLX.out.ok)
                  have HFQ := Lib.hid fun V (hV : Below wx.heap.size wx V) => (show Calls Try.prog 64 #[.pointer (some ⟨h, 0, none⟩)] V fun e w' => e = .returned (.int .i64 (S.free : Int)) ∧ w' = V from by rw [PLX.out.like.free]; exact R12.rfree_p (PLX.out.r.step hV) PLX.out.ok2)
                  generalize hFX : Rp.free S = FX at HFR HFQ
                  clear hFX
                  go_wp2_with fail
                  refine HFR.out.mono ?_
                  rintro e w7 ⟨rfl, hb7⟩
                  have PL7 := Lib.hid (PLX.out.step hb7)
                  have HQ7 := Lib.hid (HFQ.out _ hb7)
                  clear hb7 HFR HFQ
                  go_wp2_with fail
                  refine HQ7.out.mono ?_
                  rintro e w8 ⟨rfl, hw8⟩
                  rw [hw8]
                  clear hw8 w8 HQ7
                  go_wp2_with fail
                  refine (ids_p PL7.out.p PL7.out.ok).mono ?_
                  rintro e w8 ⟨v8, rfl, ho8, hb8⟩
                  have PL8 := Lib.hid (PL7.out.step hb8)
                  obtain ⟨A8, n8, c8, rfl, -, -, -⟩ := ho8.form
                  have HO8 := Lib.hid ho8
                  clear hb8 ho8
                  go_wp2_with fail
                  refine (R12.rids_p PL8.out.r PL8.out.ok2).mono ?_
                  rintro e w9 ⟨v9, rfl, ho9, hb9⟩
                  have PL9 := Lib.hid (PL8.out.step hb9)
                  obtain ⟨A9, n9, c9, rfl, -, -, -⟩ := ho9.form
                  rw [← PL7.out.like.ids] at ho9
                  have HSI := Lib.hid (sameids_p (HO8.out.step hb9) ho9 (by rw [List.length_map]; have := PL9.out.ok.len; omega))
                  clear hb9 ho9
                  go_wp2_with fail
                  refine HSI.out.mono ?_
                  rintro e w10 ⟨rfl, hb10⟩
                  have PL10 := Lib.hid (PL9.out.step hb10)
                  clear hb10 HSI HO8 PL7 PL8 PL9
                  go_wp2_with fail
                  first
                    | exact ⟨⟨j + 1, hd, _, _, _, _, by omega, hhd, by go_num, rfl, PL10.out⟩, by simp [intOf]; omega⟩
                    | (go_goals; fail)
              · as_aux_lemma =>
                  have hc1 : w6.cell? ⟨bx, 1, none⟩ = some (.int .i64 xa) := cell_of_row w6 bx 1 _ _ _ HBX.out
                  have hc2 : w6.cell? ⟨bx, 2, none⟩ = some (.int .i64 xb) := cell_of_row w6 bx 2 _ _ _ HBX.out
                  go_wp2_with fail
                  go_quiet (fail)
                  have PL62 := Lib.hid (PL6.out.step (show Below w6.heap.size w6 (w6.drewN nq) from below_drewN w6 nq))
                  have HBX2 : Hid ((w6.drewN nq).heap[bx]? = some (.cells #[.int .i64 kd, .int .i64 xa, .int .i64 xb, .int .u16 (xi : Int), .int .u16 (xo : Int), .bool true, .slice dA dn dc] 88 (0, 0))) := Lib.hid HBX.out
                  obtain ⟨w6a, hww6a⟩ : ∃ x, x = w6.drewN nq := ⟨_, rfl⟩
                  rw [← hww6a] at PL62 HBX2 ⊢
                  clear hww6a hc1 hc2 HBX PL6
                  have HBX := Lib.hid HBX2.out
                  have PL6 := Lib.hid PL62.out
                  clear HBX2 PL62
                  have hc5 : w6a.cell? ⟨bx, 5, none⟩ = some (.bool true) := cell_of_row w6a bx 5 _ _ _ HBX.out
                  go_wp2_with fail
                  have HG := Lib.hid (read_p PL6.out.p PL6.out.ok kk D xa xb ⟨a1, a2⟩ ⟨b1, b2⟩)
                  have HG2 := Lib.hid fun V (hV : Below w6a.heap.size w6a V) => (show Calls Try.prog 58 #[.pointer (some ⟨h, 0, none⟩), .int .u16 (kk : Int), .int .u16 (D : Int), .int .i64 xa, .int .i64 xb] V (Gives V (S.read kk D xa xb)) from by rw [PL6.out.like.read kk D xa xb]; exact R12.rread_p (PL6.out.r.step hV) PL6.out.ok2 kk D xa xb ⟨a1, a2⟩ ⟨b1, b2⟩ hkk hD)
                  generalize S.read kk D xa xb = RR at *
                  obtain ⟨bb, qq, ee⟩ := RR
                  refine HG.out.mono ?_
                  rintro e w7 ⟨A7, n7, c7, rfl, ho7, hb7⟩
                  have HO7 := Lib.hid ho7
                  have HB7 := Lib.hid hb7
                  clear ho7 hb7 HG
                  dsimp only at HO7 ⊢
                  go_wp2_with fail
                  refine (HG2.out _ HB7.out).mono ?_
                  rintro e w8 ⟨A8, n8, c8, rfl, ho8, hb8⟩
                  have ho78 := row_step HO7.out hb8
                  have HSM := Lib.hid (Same.same_yes (sl_own ho78 (by
                    obtain ⟨A', c', hv, -⟩ := HO7.out.form
                    injection hv with e1 e2)) (sl_own ho8 (by
                    obtain ⟨A', c', hv, -⟩ := ho8.form
                    injection hv with e1 e2)))
                  have PL8 := Lib.hid ((PL6.out.step HB7.out).step hb8)
                  have hqe : ((ee : Int) != (ee : Int)) = false := by simp
                  have hqq : ((qq : Int) != (qq : Int)) = false := by simp
                  clear ho78 ho8 hb8 HO7 HB7 HG2
                  go_wp2_with fail
                  refine HSM.out.mono ?_
                  rintro e wx ⟨rfl, hb9⟩
                  have PLX := Lib.hid (PL8.out.step hb9)
                  clear hb9 HSM PL8
                  go_wp2_with fail
                  have HFR := Lib.hid (free_p PLX.out.p PLX.out.ok)
                  have HFQ := Lib.hid fun V (hV : Below wx.heap.size wx V) => (show Calls Try.prog 64 #[.pointer (some ⟨h, 0, none⟩)] V fun e w' => e = .returned (.int .i64 (S.free : Int)) ∧ w' = V from by rw [PLX.out.like.free]; exact R12.rfree_p (PLX.out.r.step hV) PLX.out.ok2)
                  generalize hFX : Rp.free S = FX at HFR HFQ
                  clear hFX
                  go_wp2_with fail
                  refine HFR.out.mono ?_
                  rintro e w7 ⟨rfl, hb7⟩
                  have PL7 := Lib.hid (PLX.out.step hb7)
                  have HQ7 := Lib.hid (HFQ.out _ hb7)
                  clear hb7 HFR HFQ
                  go_wp2_with fail
                  refine HQ7.out.mono ?_
                  rintro e w8 ⟨rfl, hw8⟩
                  rw [hw8]
                  clear hw8 w8 HQ7
                  go_wp2_with fail
                  refine (ids_p PL7.out.p PL7.out.ok).mono ?_
                  rintro e w8 ⟨v8, rfl, ho8, hb8⟩
                  have PL8 := Lib.hid (PL7.out.step hb8)
                  obtain ⟨A8, n8, c8, rfl, -, -, -⟩ := ho8.form
                  have HO8 := Lib.hid ho8
                  clear hb8 ho8
                  go_wp2_with fail
                  refine (R12.rids_p PL8.out.r PL8.out.ok2).mono ?_
                  rintro e w9 ⟨v9, rfl, ho9, hb9⟩
                  have PL9 := Lib.hid (PL8.out.step hb9)
                  obtain ⟨A9, n9, c9, rfl, -, -, -⟩ := ho9.form
                  rw [← PL7.out.like.ids] at ho9
                  have HSI := Lib.hid (sameids_p (HO8.out.step hb9) ho9 (by rw [List.length_map]; have := PL9.out.ok.len; omega))
                  clear hb9 ho9
                  go_wp2_with fail
                  refine HSI.out.mono ?_
                  rintro e w10 ⟨rfl, hb10⟩
                  have PL10 := Lib.hid (PL9.out.step hb10)
                  clear hb10 HSI HO8 PL7 PL8 PL9
                  go_wp2_with fail
                  first
                    | exact ⟨⟨j + 1, hd, _, _, _, _, by omega, hhd, by go_num, rfl, PL10.out⟩, by simp [intOf]; omega⟩
                    | (go_goals; fail)
              · as_aux_lemma =>
                  have hE := PL6.out.like.delE kk D
                  by_cases hz : S.delE kk D = 0
                  · have hz2 : T.delE kk D = 0 := by rw [← hE]; exact hz
                    have HA := Lib.hid (del_p PL6.out.p PL6.out.ok kk D hz)
                    clear hE
                    go_wp2_with fail
                    refine HA.out.mono ?_
                    rintro e w7 ⟨rv7, rfl, h7, k7⟩
                    have hr7 := PL6.out.left k7
                    have HA2 := R12.rdel_p hr7 PL6.out.ok2 kk D hkk hD hz2
                    rw [← PL6.out.like.findE D] at HA2
                    have HA2 := Lib.hid HA2
                    have H7 := Lib.hid h7
                    have HR7 := Lib.hid hr7
                    have HO7 := Lib.hid fun f => PL6.out.ok.gone f
                    have HT7 := Lib.hid fun f => PL6.out.ok2.gone f
                    have HK7 := Lib.hid fun f => PL6.out.like.goneL f
                    clear h7 k7 hr7 HA
                    generalize (S.recs.findIdx fun r => decide (r.id = D)) = f at *
                    go_wp2_with fail
                    refine HA2.out.mono ?_
                    rintro e wx ⟨qv8, rfl, h8, k8⟩
                    have PLX := Lib.hid (PL.mk (prog_kp HR7.out H7.out k8) h8 (HO7.out f) (HT7.out f) (HK7.out f))
                    clear h8 k8 HA2 H7 HR7 HO7 HT7 HK7
                    generalize S.gone f = SX at *
                    generalize T.gone f = TX at *
                    go_wp2_with fail
                    have HFR := Lib.hid (free_p PLX.out.p PLX.out.ok)
                    have HFQ := Lib.hid fun V (hV : Below wx.heap.size wx V) => (show Calls Try.prog 64 #[.pointer (some ⟨h, 0, none⟩)] V fun e w' => e = .returned (.int .i64 (SX.free : Int)) ∧ w' = V from by rw [PLX.out.like.free]; exact R12.rfree_p (PLX.out.r.step hV) PLX.out.ok2)
                    generalize hFX : Rp.free SX = FX at HFR HFQ
                    clear hFX
                    go_wp2_with fail
                    refine HFR.out.mono ?_
                    rintro e w7 ⟨rfl, hb7⟩
                    have PL7 := Lib.hid (PLX.out.step hb7)
                    have HQ7 := Lib.hid (HFQ.out _ hb7)
                    clear hb7 HFR HFQ
                    go_wp2_with fail
                    refine HQ7.out.mono ?_
                    rintro e w8 ⟨rfl, hw8⟩
                    rw [hw8]
                    clear hw8 w8 HQ7
                    go_wp2_with fail
                    refine (ids_p PL7.out.p PL7.out.ok).mono ?_
                    rintro e w8 ⟨v8, rfl, ho8, hb8⟩
                    have PL8 := Lib.hid (PL7.out.step hb8)
                    obtain ⟨A8, n8, c8, rfl, -, -, -⟩ := ho8.form
                    have HO8 := Lib.hid ho8
                    clear hb8 ho8
                    go_wp2_with fail
                    refine (R12.rids_p PL8.out.r PL8.out.ok2).mono ?_
                    rintro e w9 ⟨v9, rfl, ho9, hb9⟩
                    have PL9 := Lib.hid (PL8.out.step hb9)
                    obtain ⟨A9, n9, c9, rfl, -, -, -⟩ := ho9.form
                    rw [← PL7.out.like.ids] at ho9
                    have HSI := Lib.hid (sameids_p (HO8.out.step hb9) ho9 (by rw [List.length_map]; have := PL9.out.ok.len; omega))
                    clear hb9 ho9
                    go_wp2_with fail
                    refine HSI.out.mono ?_
                    rintro e w10 ⟨rfl, hb10⟩
                    have PL10 := Lib.hid (PL9.out.step hb10)
                    clear hb10 HSI HO8 PL7 PL8 PL9
                    go_wp2_with fail
                    first
                      | exact ⟨⟨j + 1, hd, _, _, _, _, by omega, hhd, by go_num, rfl, PL10.out⟩, by simp [intOf]; omega⟩
                      | (go_goals; fail)
                  · have hz2 : T.delE kk D ≠ 0 := by rw [← hE]; exact hz
                    have HA := Lib.hid (del_no PL6.out.p kk D hz)
                    have HA2 := fun V (hV : Below w6.heap.size w6 V) => R12.rdel_no (PL6.out.r.step hV) PL6.out.ok2 kk D hkk hz2 hD
                    rw [← hE] at HA2
                    have HA2 := Lib.hid HA2
                    clear hE hz2
                    generalize S.delE kk D = EE at *
                    have hq0 : ((EE : Int) != (EE : Int)) = false := by simp
                    go_wp2_with fail
                    refine HA.out.mono ?_
                    rintro e w7 ⟨rfl, hb7⟩
                    have HB7 := Lib.hid hb7
                    clear hb7 HA
                    go_wp2_with fail
                    refine (HA2.out _ HB7.out).mono ?_
                    rintro e wx ⟨rfl, hb8⟩
                    have PLX := Lib.hid ((PL6.out.step HB7.out).step hb8)
                    clear hb8 HB7 HA2
                    go_wp2_with fail
                    have HFR := Lib.hid (free_p PLX.out.p PLX.out.ok)
                    have HFQ := Lib.hid fun V (hV : Below wx.heap.size wx V) => (show Calls Try.prog 64 #[.pointer (some ⟨h, 0, none⟩)] V fun e w' => e = .returned (.int .i64 (S.free : Int)) ∧ w' = V from by rw [PLX.out.like.free]; exact R12.rfree_p (PLX.out.r.step hV) PLX.out.ok2)
                    generalize hFX : Rp.free S = FX at HFR HFQ
                    clear hFX
                    go_wp2_with fail
                    refine HFR.out.mono ?_
                    rintro e w7 ⟨rfl, hb7⟩
                    have PL7 := Lib.hid (PLX.out.step hb7)
                    have HQ7 := Lib.hid (HFQ.out _ hb7)
                    clear hb7 HFR HFQ
                    go_wp2_with fail
                    refine HQ7.out.mono ?_
                    rintro e w8 ⟨rfl, hw8⟩
                    rw [hw8]
                    clear hw8 w8 HQ7
                    go_wp2_with fail
                    refine (ids_p PL7.out.p PL7.out.ok).mono ?_
                    rintro e w8 ⟨v8, rfl, ho8, hb8⟩
                    have PL8 := Lib.hid (PL7.out.step hb8)
                    obtain ⟨A8, n8, c8, rfl, -, -, -⟩ := ho8.form
                    have HO8 := Lib.hid ho8
                    clear hb8 ho8
                    go_wp2_with fail
                    refine (R12.rids_p PL8.out.r PL8.out.ok2).mono ?_
                    rintro e w9 ⟨v9, rfl, ho9, hb9⟩
                    have PL9 := Lib.hid (PL8.out.step hb9)
                    obtain ⟨A9, n9, c9, rfl, -, -, -⟩ := ho9.form
                    rw [← PL7.out.like.ids] at ho9
                    have HSI := Lib.hid (sameids_p (HO8.out.step hb9) ho9 (by rw [List.length_map]; have := PL9.out.ok.len; omega))
                    clear hb9 ho9
                    go_wp2_with fail
                    refine HSI.out.mono ?_
                    rintro e w10 ⟨rfl, hb10⟩
                    have PL10 := Lib.hid (PL9.out.step hb10)
                    clear hb10 HSI HO8 PL7 PL8 PL9
                    go_wp2_with fail
                    first
                      | exact ⟨⟨j + 1, hd, _, _, _, _, by omega, hhd, by go_num, rfl, PL10.out⟩, by simp [intOf]; omega⟩
                      | (go_goals; fail)
              · as_aux_lemma =>
                  rcases hv : S.valid kk with _ | _
                  · have hv2 : T.valid kk = false := by rw [← PL6.out.like.valid kk]; exact hv
                    have HA := Lib.hid (clr_no PL6.out.p kk hv)
                    have HA2 := Lib.hid (R12.rclr_no PL6.out.r kk hkk hv2)
                    clear hv hv2
                    go_wp2_with fail
                    refine HA.out.mono ?_
                    rintro e w7 ⟨rfl, hw7⟩
                    rw [hw7]
                    clear hw7 w7
                    go_wp2_with fail
                    refine HA2.out.mono ?_
                    rintro e w7 ⟨rfl, hw7⟩
                    rw [hw7]
                    clear hw7 w7 HA HA2
                    have PLX := Lib.hid PL6.out
                    obtain ⟨wx, hwx⟩ : ∃ wx, wx = w6 := ⟨_, rfl⟩
                    rw [← hwx] at PLX ⊢
                    clear hwx
                    go_wp2_with fail
                    have HFR := Lib.hid (free_p PLX.out.p PLX.out.ok)
                    have HFQ := Lib.hid fun V (hV : Below wx.heap.size wx V) => (show Calls Try.prog 64 #[.pointer (some ⟨h, 0, none⟩)] V fun e w' => e = .returned (.int .i64 (S.free : Int)) ∧ w' = V from by rw [PLX.out.like.free]; exact R12.rfree_p (PLX.out.r.step hV) PLX.out.ok2)
                    generalize hFX : Rp.free S = FX at HFR HFQ
                    clear hFX
                    go_wp2_with fail
                    refine HFR.out.mono ?_
                    rintro e w7 ⟨rfl, hb7⟩
                    have PL7 := Lib.hid (PLX.out.step hb7)
                    have HQ7 := Lib.hid (HFQ.out _ hb7)
                    clear hb7 HFR HFQ
                    go_wp2_with fail
                    refine HQ7.out.mono ?_
                    rintro e w8 ⟨rfl, hw8⟩
                    rw [hw8]
                    clear hw8 w8 HQ7
                    go_wp2_with fail
                    refine (ids_p PL7.out.p PL7.out.ok).mono ?_
                    rintro e w8 ⟨v8, rfl, ho8, hb8⟩
                    have PL8 := Lib.hid (PL7.out.step hb8)
                    obtain ⟨A8, n8, c8, rfl, -, -, -⟩ := ho8.form
                    have HO8 := Lib.hid ho8
                    clear hb8 ho8
                    go_wp2_with fail
                    refine (R12.rids_p PL8.out.r PL8.out.ok2).mono ?_
                    rintro e w9 ⟨v9, rfl, ho9, hb9⟩
                    have PL9 := Lib.hid (PL8.out.step hb9)
                    obtain ⟨A9, n9, c9, rfl, -, -, -⟩ := ho9.form
                    rw [← PL7.out.like.ids] at ho9
                    have HSI := Lib.hid (sameids_p (HO8.out.step hb9) ho9 (by rw [List.length_map]; have := PL9.out.ok.len; omega))
                    clear hb9 ho9
                    go_wp2_with fail
                    refine HSI.out.mono ?_
                    rintro e w10 ⟨rfl, hb10⟩
                    have PL10 := Lib.hid (PL9.out.step hb10)
                    clear hb10 HSI HO8 PL7 PL8 PL9
                    go_wp2_with fail
                    first
                      | exact ⟨⟨j + 1, hd, _, _, _, _, by omega, hhd, by go_num, rfl, PL10.out⟩, by simp [intOf]; omega⟩
                      | (go_goals; fail)
                  · have hv2 : T.valid kk = true := by rw [← PL6.out.like.valid kk]; exact hv
                    have HA := Lib.hid (clr_p PL6.out.p kk hv)
                    clear hv
                    go_wp2_with fail
                    refine HA.out.mono ?_
                    rintro e w7 ⟨rfl, h7, k7⟩
                    have hr7 := PL6.out.left k7
                    have HA2 := Lib.hid (R12.rclr_p hr7 kk hkk hv2)
                    have H7 := Lib.hid h7
                    have HR7 := Lib.hid hr7
                    clear h7 k7 hr7 hv2 HA
                    go_wp2_with fail
                    refine HA2.out.mono ?_
                    rintro e wx ⟨rfl, h8, k8⟩
                    have PLX := Lib.hid (PL.mk (prog_kp HR7.out H7.out k8) h8 PL6.out.ok.clr PL6.out.ok2.clr PL6.out.like.clrL)
                    clear h8 k8 HA2 H7 HR7
                    generalize S.clr = SX at *
                    generalize T.clr = TX at *
                    go_wp2_with fail
                    have HFR := Lib.hid (free_p PLX.out.p PLX.out.ok)
                    have HFQ := Lib.hid fun V (hV : Below wx.heap.size wx V) => (show Calls Try.prog 64 #[.pointer (some ⟨h, 0, none⟩)] V fun e w' => e = .returned (.int .i64 (SX.free : Int)) ∧ w' = V from by rw [PLX.out.like.free]; exact R12.rfree_p (PLX.out.r.step hV) PLX.out.ok2)
                    generalize hFX : Rp.free SX = FX at HFR HFQ
                    clear hFX
                    go_wp2_with fail
                    refine HFR.out.mono ?_
                    rintro e w7 ⟨rfl, hb7⟩
                    have PL7 := Lib.hid (PLX.out.step hb7)
                    have HQ7 := Lib.hid (HFQ.out _ hb7)
                    clear hb7 HFR HFQ
                    go_wp2_with fail
                    refine HQ7.out.mono ?_
                    rintro e w8 ⟨rfl, hw8⟩
                    rw [hw8]
                    clear hw8 w8 HQ7
                    go_wp2_with fail
                    refine (ids_p PL7.out.p PL7.out.ok).mono ?_
                    rintro e w8 ⟨v8, rfl, ho8, hb8⟩
                    have PL8 := Lib.hid (PL7.out.step hb8)
                    obtain ⟨A8, n8, c8, rfl, -, -, -⟩ := ho8.form
                    have HO8 := Lib.hid ho8
                    clear hb8 ho8
                    go_wp2_with fail
                    refine (R12.rids_p PL8.out.r PL8.out.ok2).mono ?_
                    rintro e w9 ⟨v9, rfl, ho9, hb9⟩
                    have PL9 := Lib.hid (PL8.out.step hb9)
                    obtain ⟨A9, n9, c9, rfl, -, -, -⟩ := ho9.form
                    rw [← PL7.out.like.ids] at ho9
                    have HSI := Lib.hid (sameids_p (HO8.out.step hb9) ho9 (by rw [List.length_map]; have := PL9.out.ok.len; omega))
                    clear hb9 ho9
                    go_wp2_with fail
                    refine HSI.out.mono ?_
                    rintro e w10 ⟨rfl, hb10⟩
                    have PL10 := Lib.hid (PL9.out.step hb10)
                    clear hb10 HSI HO8 PL7 PL8 PL9
                    go_wp2_with fail
                    first
                      | exact ⟨⟨j + 1, hd, _, _, _, _, by omega, hhd, by go_num, rfl, PL10.out⟩, by simp [intOf]; omega⟩
                      | (go_goals; fail)
            · go_wp2_with fail
              have HBX : Hid ((wr.alloc (.cells #[.int .i64 kd, .int .i64 xa, .int .i64 xb, .int .u16 (xi : Int), .int .u16 (xo : Int), .bool true, .slice dA dn dc] 88)).heap[wr.heap.size]? = some (.cells #[.int .i64 kd, .int .i64 xa, .int .i64 xb, .int .u16 (xi : Int), .int .u16 (xo : Int), .bool true, .slice dA dn dc] 88 (0, 0))) := Lib.hid (heap_alloc_new wr _)
              have PL6 := Lib.hid HPL.out
              obtain ⟨w6, hw6⟩ : ∃ w6, w6 = wr.alloc (.cells #[.int .i64 kd, .int .i64 xa, .int .i64 xb, .int .u16 (xi : Int), .int .u16 (xo : Int), .bool true, .slice dA dn dc] 88) := ⟨_, rfl⟩
              rw [← hw6] at HBX PL6 ⊢
              clear hw6 HPL
              obtain ⟨bx, hbx⟩ : ∃ bx, bx = wr.heap.size := ⟨_, rfl⟩
              rw [← hbx] at HBX ⊢
              clear hbx
              obtain ⟨kk, hke⟩ : ∃ kk, kk = xo := ⟨_, rfl⟩
              have hkk : kk ≤ 65535 := by omega
              rw [show ((xo : Nat) : Int) = (kk : Int) by rw [hke]]
              clear hke
              obtain ⟨D, hDe⟩ : ∃ D, D = xi % 12 := ⟨_, rfl⟩
              have hD : D ≤ 65535 := by omega
              rw [show ((xi : Int) % 12) = (D : Int) by omega]
              clear hDe c0 c1' c2' c3 c4 c5 c6
              refine (HM6.out _).mono ?_
              rintro e w' ⟨⟨m6, hm6, rfl, -⟩, hw'⟩
              rw [← hw']
              clear hw' w' HM6
              rcases (show m6 = 0 ∨ m6 = 1 ∨ m6 = 2 ∨ m6 = 3 ∨ m6 = 4 ∨ m6 = 5 by omega) with rfl | rfl | rfl | rfl | rfl | rfl
              · as_aux_lemma =>
                  have hE := PL6.out.like.addE dd.length
                  by_cases hz : S.addE dd.length = 0
                  · have hz2 : T.addE dd.length = 0 := by rw [← hE]; exact hz
                    have hoff : Off g rv dA dd := fun h0 b hb => ⟨fun e => by have := HLOW.out h0 b hb; have := PL6.out.p.low; omega, fun e => by have := HLOW.out h0 b hb; have := (PL6.out.p.r1 e).2.2; omega⟩
                    have hoff2 : R12.Off' h qv dA dd := fun h0 b hb => ⟨fun e => by have := HLOW.out h0 b hb; have := PL6.out.r.low; omega, fun e => by have := HLOW.out h0 b hb; have := (PL6.out.r.r1 e).2.2; omega⟩
                    have HA := Lib.hid (add_p PL6.out.p PL6.out.ok dA dn dc dd (HSLB.out _ PL6.out.p.bel) hoff hz)
                    have HOF2 := Lib.hid hoff2
                    have hc6 : w6.cell? ⟨bx, 6, none⟩ = some (.slice dA dn dc) := cell_of_row w6 bx 6 _ _ _ HBX.out
                    clear hE hoff hoff2
                    go_wp2_with fail
                    refine HA.out.mono ?_
                    rintro e w7 ⟨rv7, x7, y7, rfl, h7, k7, -⟩
                    have hr7 := PL6.out.left k7
                    have hfe := PL6.out.like.fid
                    have HA2 := R12.radd_p hr7 PL6.out.ok2 dA dn dc dd (HSLB.out _ h7.bel) HOF2.out hz2
                    rw [← hfe] at HA2
                    have HA2 := Lib.hid HA2
                    have hbx7 := (k7.block bx (lt_of_some HBX.out) (ne_of_types HBX.out PL6.out.p.head (by decide)) (fun e => by
                      obtain ⟨_, c', z', hk⟩ := PL6.out.p.own.blk e
                      exact ne_of_types HBX.out hk (by decide) rfl)).1.trans HBX.out
                    have hc67 : w7.cell? ⟨bx, 6, none⟩ = some (.slice dA dn dc) := cell_of_row w7 bx 6 _ _ _ hbx7
                    have H7 := Lib.hid h7
                    have HR7 := Lib.hid hr7
                    have HO7 := Lib.hid (PL6.out.ok.add x7 y7 dd hz)
                    have HT7 := Lib.hid fun x y => PL6.out.ok2.add x y dd hz2
                    have HK7 := Lib.hid fun x y => PL6.out.like.addL x7 y7 x y dd
                    clear h7 k7 hr7 hfe hbx7 HA hc6
                    generalize fid S.recs S.last = I at *
                    go_wp2_with fail
                    refine HA2.out.mono ?_
                    rintro e wx ⟨qv8, x8, y8, rfl, h8, k8, -⟩
                    have PLX := Lib.hid (PL.mk (prog_kp HR7.out H7.out k8) h8 HO7.out (HT7.out x8 y8) (HK7.out x8 y8))
                    clear h8 k8 HA2 hc67 H7 HR7 HO7 HT7 HK7
                    generalize S.add x7 y7 dd = SX at *
                    generalize T.add x8 y8 dd = TX at *
                    go_wp2_with fail
                    have HFR := Lib.hid (free_p PLX.out.p PLX.out.ok)
                    have HFQ := Lib.hid fun V (hV : Below wx.heap.size wx V) => (show Calls Try.prog 64 #[.pointer (some ⟨h, 0, none⟩)] V fun e w' => e = .returned (.int .i64 (SX.free : Int)) ∧ w' = V from by rw [PLX.out.like.free]; exact R12.rfree_p (PLX.out.r.step hV) PLX.out.ok2)
                    generalize hFX : Rp.free SX = FX at HFR HFQ
                    clear hFX
                    go_wp2_with fail
                    refine HFR.out.mono ?_
                    rintro e w7 ⟨rfl, hb7⟩
                    have PL7 := Lib.hid (PLX.out.step hb7)
                    have HQ7 := Lib.hid (HFQ.out _ hb7)
                    clear hb7 HFR HFQ
                    go_wp2_with fail
                    refine HQ7.out.mono ?_
                    rintro e w8 ⟨rfl, hw8⟩
                    rw [hw8]
                    clear hw8 w8 HQ7
                    go_wp2_with fail
                    refine (ids_p PL7.out.p PL7.out.ok).mono ?_
                    rintro e w8 ⟨v8, rfl, ho8, hb8⟩
                    have PL8 := Lib.hid (PL7.out.step hb8)
                    obtain ⟨A8, n8, c8, rfl, -, -, -⟩ := ho8.form
                    have HO8 := Lib.hid ho8
                    clear hb8 ho8
                    go_wp2_with fail
                    refine (R12.rids_p PL8.out.r PL8.out.ok2).mono ?_
                    rintro e w9 ⟨v9, rfl, ho9, hb9⟩
                    have PL9 := Lib.hid (PL8.out.step hb9)
                    obtain ⟨A9, n9, c9, rfl, -, -, -⟩ := ho9.form
                    rw [← PL7.out.like.ids] at ho9
                    have HSI := Lib.hid (sameids_p (HO8.out.step hb9) ho9 (by rw [List.length_map]; have := PL9.out.ok.len; omega))
                    clear hb9 ho9
                    go_wp2_with fail
                    refine HSI.out.mono ?_
                    rintro e w10 ⟨rfl, hb10⟩
                    have PL10 := Lib.hid (PL9.out.step hb10)
                    clear hb10 HSI HO8 PL7 PL8 PL9
                    go_wp2_with fail
                    first
                      | exact ⟨⟨j + 1, hd, _, _, _, _, by omega, hhd, by go_num, rfl, PL10.out⟩, by simp [intOf]; omega⟩
                      | (go_goals; fail)
                  · have hz2 : T.addE dd.length ≠ 0 := by rw [← hE]; exact hz
                    have HA := add_no PL6.out.p PL6.out.ok dA dn dc (by rw [HDL.out]; omega) (by rw [HDL.out]; exact hz)
                    have HA2 := fun V (hV : Below w6.heap.size w6 V) => R12.radd_no (PL6.out.r.step hV) PL6.out.ok2 dA dn dc (by rw [HDL.out]; omega) (by rw [HDL.out]; exact hz2)
                    have hA1e : S.addE dn = S.addE dd.length := by rw [HDL.out]
                    rw [hA1e] at HA
                    have hA2e : T.addE dn = S.addE dd.length := by rw [HDL.out, hE]
                    rw [hA2e] at HA2
                    have HA := Lib.hid HA
                    have HA2 := Lib.hid HA2
                    have hc6 : w6.cell? ⟨bx, 6, none⟩ = some (.slice dA dn dc) := cell_of_row w6 bx 6 _ _ _ HBX.out
                    clear hE hA1e hA2e hz2
                    generalize S.addE dd.length = EE at *
                    have hq0 : ((EE : Int) != (EE : Int)) = false := by simp
                    go_wp2_with fail
                    refine HA.out.mono ?_
                    rintro e w7 ⟨rfl, hb7⟩
                    have hc67 : w7.cell? ⟨bx, 6, none⟩ = some (.slice dA dn dc) := cell_of_row w7 bx 6 _ _ _ ((hb7.block bx (lt_of_some HBX.out)).trans HBX.out)
                    have HB7 := Lib.hid hb7
                    clear hb7 hc6 HA
                    go_wp2_with fail
                    refine (HA2.out _ HB7.out).mono ?_
                    rintro e wx ⟨rfl, hb8⟩
                    have PLX := Lib.hid ((PL6.out.step HB7.out).step hb8)
                    clear hb8 HB7 hc67 HA2
                    go_wp2_with fail
                    have HFR := Lib.hid (free_p PLX.out.p PLX.out.ok)
                    have HFQ := Lib.hid fun V (hV : Below wx.heap.size wx V) => (show Calls Try.prog 64 #[.pointer (some ⟨h, 0, none⟩)] V fun e w' => e = .returned (.int .i64 (S.free : Int)) ∧ w' = V from by rw [PLX.out.like.free]; exact R12.rfree_p (PLX.out.r.step hV) PLX.out.ok2)
                    generalize hFX : Rp.free S = FX at HFR HFQ
                    clear hFX
                    go_wp2_with fail
                    refine HFR.out.mono ?_
                    rintro e w7 ⟨rfl, hb7⟩
                    have PL7 := Lib.hid (PLX.out.step hb7)
                    have HQ7 := Lib.hid (HFQ.out _ hb7)
                    clear hb7 HFR HFQ
                    go_wp2_with fail
                    refine HQ7.out.mono ?_
                    rintro e w8 ⟨rfl, hw8⟩
                    rw [hw8]
                    clear hw8 w8 HQ7
                    go_wp2_with fail
                    refine (ids_p PL7.out.p PL7.out.ok).mono ?_
                    rintro e w8 ⟨v8, rfl, ho8, hb8⟩
                    have PL8 := Lib.hid (PL7.out.step hb8)
                    obtain ⟨A8, n8, c8, rfl, -, -, -⟩ := ho8.form
                    have HO8 := Lib.hid ho8
                    clear hb8 ho8
                    go_wp2_with fail
                    refine (R12.rids_p PL8.out.r PL8.out.ok2).mono ?_
                    rintro e w9 ⟨v9, rfl, ho9, hb9⟩
                    have PL9 := Lib.hid (PL8.out.step hb9)
                    obtain ⟨A9, n9, c9, rfl, -, -, -⟩ := ho9.form
                    rw [← PL7.out.like.ids] at ho9
                    have HSI := Lib.hid (sameids_p (HO8.out.step hb9) ho9 (by rw [List.length_map]; have := PL9.out.ok.len; omega))
                    clear hb9 ho9
                    go_wp2_with fail
                    refine HSI.out.mono ?_
                    rintro e w10 ⟨rfl, hb10⟩
                    have PL10 := Lib.hid (PL9.out.step hb10)
                    clear hb10 HSI HO8 PL7 PL8 PL9
                    go_wp2_with fail
                    first
                      | exact ⟨⟨j + 1, hd, _, _, _, _, by omega, hhd, by go_num, rfl, PL10.out⟩, by simp [intOf]; omega⟩
                      | (go_goals; fail)
              · as_aux_lemma =>
                  go_wp2_with fail
                  refine (R12.rres_p PL6.out.r PL6.out.ok2).mono ?_
                  rintro e w7 ⟨rfl, h7, k7⟩
                  have hp7 := prog_kp PL6.out.r PL6.out.p k7
                  have HRS := res_p hp7 PL6.out.ok
                  rw [PL6.out.like.resL.resv] at HRS
                  have HRS := Lib.hid HRS
                  have H7 := Lib.hid h7
                  have HP7 := Lib.hid hp7
                  have hhd2 := PL6.out.ok2.res.resv
                  have HHD := Lib.hid hhd2
                  clear h7 k7 hp7 hhd2
                  generalize T.res.resv = hd2 at *
                  go_wp2_with fail
                  refine HRS.out.mono ?_
                  rintro e wx ⟨rfl, h8, k8⟩
                  have PLX := Lib.hid (PL.mk h8 (ref_kp H7.out HP7.out k8) PL6.out.ok.res PL6.out.ok2.res PL6.out.like.resL)
                  clear h8 k8 HRS H7 HP7
                  generalize S.res = SX at *
                  generalize T.res = TX at *
                  go_wp2_with fail
                  have HFR := Lib.hid (free_p PLX.out.p PLX.out.ok)
                  have HFQ := Lib.hid fun V (hV : Below wx.heap.size wx V) => (show Calls Try.prog 64 #[.pointer (some ⟨h, 0, none⟩)] V fun e w' => e = .returned (.int .i64 (SX.free : Int)) ∧ w' = V from by rw [PLX.out.like.free]; exact R12.rfree_p (PLX.out.r.step hV) PLX.out.ok2)
                  generalize hFX : Rp.free SX = FX at HFR HFQ
                  clear hFX
                  go_wp2_with fail
                  refine HFR.out.mono ?_
                  rintro e w7 ⟨rfl, hb7⟩
                  have PL7 := Lib.hid (PLX.out.step hb7)
                  have HQ7 := Lib.hid (HFQ.out _ hb7)
                  clear hb7 HFR HFQ
                  go_wp2_with fail
                  refine HQ7.out.mono ?_
                  rintro e w8 ⟨rfl, hw8⟩
                  rw [hw8]
                  clear hw8 w8 HQ7
                  go_wp2_with fail
                  refine (ids_p PL7.out.p PL7.out.ok).mono ?_
                  rintro e w8 ⟨v8, rfl, ho8, hb8⟩
                  have PL8 := Lib.hid (PL7.out.step hb8)
                  obtain ⟨A8, n8, c8, rfl, -, -, -⟩ := ho8.form
                  have HO8 := Lib.hid ho8
                  clear hb8 ho8
                  go_wp2_with fail
                  refine (R12.rids_p PL8.out.r PL8.out.ok2).mono ?_
                  rintro e w9 ⟨v9, rfl, ho9, hb9⟩
                  have PL9 := Lib.hid (PL8.out.step hb9)
                  obtain ⟨A9, n9, c9, rfl, -, -, -⟩ := ho9.form
                  rw [← PL7.out.like.ids] at ho9
                  have HSI := Lib.hid (sameids_p (HO8.out.step hb9) ho9 (by rw [List.length_map]; have := PL9.out.ok.len; omega))
                  clear hb9 ho9
                  go_wp2_with fail
                  refine HSI.out.mono ?_
                  rintro e w10 ⟨rfl, hb10⟩
                  have PL10 := Lib.hid (PL9.out.step hb10)
                  clear hb10 HSI HO8 PL7 PL8 PL9
                  go_wp2_with fail
                  first
                    | exact ⟨⟨j + 1, hd2, _, _, _, _, by omega, HHD.out, by go_num, rfl, PL10.out⟩, by simp [intOf]; omega⟩
                    | (go_goals; fail)
              · as_aux_lemma =>
                  have HG := Lib.hid (get_p PL6.out.p PL6.out.ok D)
                  have HG2 := Lib.hid fun V (hV : Below w6.heap.size w6 V) => (show Calls Try.prog 56 #[.pointer (some ⟨h, 0, none⟩), .int .u16 (D : Int)] V (Gives V (S.get D)) from by rw [PL6.out.like.get D]; exact R12.rget_p (PL6.out.r.step hV) PL6.out.ok2 D hD)
                  generalize S.get D = RR at *
                  obtain ⟨bb, qq, ee⟩ := RR
                  go_wp2_with fail
                  refine HG.out.mono ?_
                  rintro e w7 ⟨A7, n7, c7, rfl, ho7, hb7⟩
                  have HO7 := Lib.hid ho7
                  have HB7 := Lib.hid hb7
                  clear ho7 hb7 HG
                  dsimp only at HO7 ⊢
                  go_wp2_with fail
                  refine (HG2.out _ HB7.out).mono ?_
                  rintro e w8 ⟨A8, n8, c8, rfl, ho8, hb8⟩
                  have ho78 := row_step HO7.out hb8
                  have HSM := Lib.hid (Same.same_yes (sl_own ho78 (by
                    obtain ⟨A', c', hv, -⟩ := HO7.out.form
                    injection hv with e1 e2)) (sl_own ho8 (by
                    obtain ⟨A', c', hv, -⟩ := ho8.form
                    injection hv with e1 e2)))
                  have PL8 := Lib.hid ((PL6.out.step HB7.out).step hb8)
                  have hqe : ((ee : Int) != (ee : Int)) = false := by simp
                  have hqq : ((qq : Int) != (qq : Int)) = false := by simp
                  clear ho78 ho8 hb8 HO7 HB7 HG2
                  go_wp2_with fail
                  refine HSM.out.mono ?_
                  rintro e wx ⟨rfl, hb9⟩
                  have PLX := Lib.hid (PL8.out.step hb9)
                  clear hb9 HSM PL8
                  go_wp2_with fail
                  have HFR := Lib.hid (free_p PLX.out.p PLX.out.ok)
                  have HFQ := Lib.hid fun V (hV : Below wx.heap.size wx V) => (show Calls Try.prog 64 #[.pointer (some ⟨h, 0, none⟩)] V fun e w' => e = .returned (.int .i64 (S.free : Int)) ∧ w' = V from by rw [PLX.out.like.free]; exact R12.rfree_p (PLX.out.r.step hV) PLX.out.ok2)
                  generalize hFX : Rp.free S = FX at HFR HFQ
                  clear hFX
                  go_wp2_with fail
                  refine HFR.out.mono ?_
                  rintro e w7 ⟨rfl, hb7⟩
                  have PL7 := Lib.hid (PLX.out.step hb7)
                  have HQ7 := Lib.hid (HFQ.out _ hb7)
                  clear hb7 HFR HFQ
                  go_wp2_with fail
                  refine HQ7.out.mono ?_
                  rintro e w8 ⟨rfl, hw8⟩
                  rw [hw8]
                  clear hw8 w8 HQ7
                  go_wp2_with fail
                  refine (ids_p PL7.out.p PL7.out.ok).mono ?_
                  rintro e w8 ⟨v8, rfl, ho8, hb8⟩
                  have PL8 := Lib.hid (PL7.out.step hb8)
                  obtain ⟨A8, n8, c8, rfl, -, -, -⟩ := ho8.form
                  have HO8 := Lib.hid ho8
                  clear hb8 ho8
                  go_wp2_with fail
                  refine (R12.rids_p PL8.out.r PL8.out.ok2).mono ?_
                  rintro e w9 ⟨v9, rfl, ho9, hb9⟩
                  have PL9 := Lib.hid (PL8.out.step hb9)
                  obtain ⟨A9, n9, c9, rfl, -, -, -⟩ := ho9.form
                  rw [← PL7.out.like.ids] at ho9
                  have HSI := Lib.hid (sameids_p (HO8.out.step hb9) ho9 (by rw [List.length_map]; have := PL9.out.ok.len; omega))
                  clear hb9 ho9
                  go_wp2_with fail
                  refine HSI.out.mono ?_
                  rintro e w10 ⟨rfl, hb10⟩
                  have PL10 := Lib.hid (PL9.out.step hb10)
                  clear hb10 HSI HO8 PL7 PL8 PL9
                  go_wp2_with fail
                  first
                    | exact ⟨⟨j + 1, hd, _, _, _, _, by omega, hhd, by go_num, rfl, PL10.out⟩, by simp [intOf]; omega⟩
                    | (go_goals; fail)
              · as_aux_lemma =>
                  have hc1 : w6.cell? ⟨bx, 1, none⟩ = some (.int .i64 xa) := cell_of_row w6 bx 1 _ _ _ HBX.out
                  have hc2 : w6.cell? ⟨bx, 2, none⟩ = some (.int .i64 xb) := cell_of_row w6 bx 2 _ _ _ HBX.out
                  go_wp2_with fail
                  go_quiet (fail)
                  have PL62 := Lib.hid (PL6.out.step (show Below w6.heap.size w6 (w6.drewN nq) from below_drewN w6 nq))
                  have HBX2 : Hid ((w6.drewN nq).heap[bx]? = some (.cells #[.int .i64 kd, .int .i64 xa, .int .i64 xb, .int .u16 (xi : Int), .int .u16 (xo : Int), .bool true, .slice dA dn dc] 88 (0, 0))) := Lib.hid HBX.out
                  obtain ⟨w6a, hww6a⟩ : ∃ x, x = w6.drewN nq := ⟨_, rfl⟩
                  rw [← hww6a] at PL62 HBX2 ⊢
                  clear hww6a hc1 hc2 HBX PL6
                  have HBX := Lib.hid HBX2.out
                  have PL6 := Lib.hid PL62.out
                  clear HBX2 PL62
                  have hc5 : w6a.cell? ⟨bx, 5, none⟩ = some (.bool true) := cell_of_row w6a bx 5 _ _ _ HBX.out
                  go_wp2_with fail
                  have HG := Lib.hid (read_p PL6.out.p PL6.out.ok kk D xa xb ⟨a1, a2⟩ ⟨b1, b2⟩)
                  have HG2 := Lib.hid fun V (hV : Below w6a.heap.size w6a V) => (show Calls Try.prog 58 #[.pointer (some ⟨h, 0, none⟩), .int .u16 (kk : Int), .int .u16 (D : Int), .int .i64 xa, .int .i64 xb] V (Gives V (S.read kk D xa xb)) from by rw [PL6.out.like.read kk D xa xb]; exact R12.rread_p (PL6.out.r.step hV) PL6.out.ok2 kk D xa xb ⟨a1, a2⟩ ⟨b1, b2⟩ hkk hD)
                  generalize S.read kk D xa xb = RR at *
                  obtain ⟨bb, qq, ee⟩ := RR
                  refine HG.out.mono ?_
                  rintro e w7 ⟨A7, n7, c7, rfl, ho7, hb7⟩
                  have HO7 := Lib.hid ho7
                  have HB7 := Lib.hid hb7
                  clear ho7 hb7 HG
                  dsimp only at HO7 ⊢
                  go_wp2_with fail
                  refine (HG2.out _ HB7.out).mono ?_
                  rintro e w8 ⟨A8, n8, c8, rfl, ho8, hb8⟩
                  have ho78 := row_step HO7.out hb8
                  have HSM := Lib.hid (Same.same_yes (sl_own ho78 (by
                    obtain ⟨A', c', hv, -⟩ := HO7.out.form
                    injection hv with e1 e2)) (sl_own ho8 (by
                    obtain ⟨A', c', hv, -⟩ := ho8.form
                    injection hv with e1 e2)))
                  have PL8 := Lib.hid ((PL6.out.step HB7.out).step hb8)
                  have hqe : ((ee : Int) != (ee : Int)) = false := by simp
                  have hqq : ((qq : Int) != (qq : Int)) = false := by simp
                  clear ho78 ho8 hb8 HO7 HB7 HG2
                  go_wp2_with fail
                  refine HSM.out.mono ?_
                  rintro e wx ⟨rfl, hb9⟩
                  have PLX := Lib.hid (PL8.out.step hb9)
                  clear hb9 HSM PL8
                  go_wp2_with fail
                  have HFR := Lib.hid (free_p PLX.out.p PLX.out.ok)
                  have HFQ := Lib.hid fun V (hV : Below wx.heap.size wx V) => (show Calls Try.prog 64 #[.pointer (some ⟨h, 0, none⟩)] V fun e w' => e = .returned (.int .i64 (S.free : Int)) ∧ w' = V from by rw [PLX.out.like.free]; exact R12.rfree_p (PLX.out.r.step hV) PLX.out.ok2)
                  generalize hFX : Rp.free S = FX at HFR HFQ
                  clear hFX
                  go_wp2_with fail
                  refine HFR.out.mono ?_
                  rintro e w7 ⟨rfl, hb7⟩
                  have PL7 := Lib.hid (PLX.out.step hb7)
                  have HQ7 := Lib.hid (HFQ.out _ hb7)
                  clear hb7 HFR HFQ
                  go_wp2_with fail
                  refine HQ7.out.mono ?_
                  rintro e w8 ⟨rfl, hw8⟩
                  rw [hw8]
                  clear hw8 w8 HQ7
                  go_wp2_with fail
                  refine (ids_p PL7.out.p PL7.out.ok).mono ?_
                  rintro e w8 ⟨v8, rfl, ho8, hb8⟩
                  have PL8 := Lib.hid (PL7.out.step hb8)
                  obtain ⟨A8, n8, c8, rfl, -, -, -⟩ := ho8.form
                  have HO8 := Lib.hid ho8
                  clear hb8 ho8
                  go_wp2_with fail
                  refine (R12.rids_p PL8.out.r PL8.out.ok2).mono ?_
                  rintro e w9 ⟨v9, rfl, ho9, hb9⟩
                  have PL9 := Lib.hid (PL8.out.step hb9)
                  obtain ⟨A9, n9, c9, rfl, -, -, -⟩ := ho9.form
                  rw [← PL7.out.like.ids] at ho9
                  have HSI := Lib.hid (sameids_p (HO8.out.step hb9) ho9 (by rw [List.length_map]; have := PL9.out.ok.len; omega))
                  clear hb9 ho9
                  go_wp2_with fail
                  refine HSI.out.mono ?_
                  rintro e w10 ⟨rfl, hb10⟩
                  have PL10 := Lib.hid (PL9.out.step hb10)
                  clear hb10 HSI HO8 PL7 PL8 PL9
                  go_wp2_with fail
                  first
                    | exact ⟨⟨j + 1, hd, _, _, _, _, by omega, hhd, by go_num, rfl, PL10.out⟩, by simp [intOf]; omega⟩
                    | (go_goals; fail)
              · as_aux_lemma =>
                  have hE := PL6.out.like.delE kk D
                  by_cases hz : S.delE kk D = 0
                  · have hz2 : T.delE kk D = 0 := by rw [← hE]; exact hz
                    have HA := Lib.hid (del_p PL6.out.p PL6.out.ok kk D hz)
                    clear hE
                    go_wp2_with fail
                    refine HA.out.mono ?_
                    rintro e w7 ⟨rv7, rfl, h7, k7⟩
                    have hr7 := PL6.out.left k7
                    have HA2 := R12.rdel_p hr7 PL6.out.ok2 kk D hkk hD hz2
                    rw [← PL6.out.like.findE D] at HA2
                    have HA2 := Lib.hid HA2
                    have H7 := Lib.hid h7
                    have HR7 := Lib.hid hr7
                    have HO7 := Lib.hid fun f => PL6.out.ok.gone f
                    have HT7 := Lib.hid fun f => PL6.out.ok2.gone f
                    have HK7 := Lib.hid fun f => PL6.out.like.goneL f
                    clear h7 k7 hr7 HA
                    generalize (S.recs.findIdx fun r => decide (r.id = D)) = f at *
                    go_wp2_with fail
                    refine HA2.out.mono ?_
                    rintro e wx ⟨qv8, rfl, h8, k8⟩
                    have PLX := Lib.hid (PL.mk (prog_kp HR7.out H7.out k8) h8 (HO7.out f) (HT7.out f) (HK7.out f))
                    clear h8 k8 HA2 H7 HR7 HO7 HT7 HK7
                    generalize S.gone f = SX at *
                    generalize T.gone f = TX at *
                    go_wp2_with fail
                    have HFR := Lib.hid (free_p PLX.out.p PLX.out.ok)
                    have HFQ := Lib.hid fun V (hV : Below wx.heap.size wx V) => (show Calls Try.prog 64 #[.pointer (some ⟨h, 0, none⟩)] V fun e w' => e = .returned (.int .i64 (SX.free : Int)) ∧ w' = V from by rw [PLX.out.like.free]; exact R12.rfree_p (PLX.out.r.step hV) PLX.out.ok2)
                    generalize hFX : Rp.free SX = FX at HFR HFQ
                    clear hFX
                    go_wp2_with fail
                    refine HFR.out.mono ?_
                    rintro e w7 ⟨rfl, hb7⟩
                    have PL7 := Lib.hid (PLX.out.step hb7)
                    have HQ7 := Lib.hid (HFQ.out _ hb7)
                    clear hb7 HFR HFQ
                    go_wp2_with fail
                    refine HQ7.out.mono ?_
                    rintro e w8 ⟨rfl, hw8⟩
                    rw [hw8]
                    clear hw8 w8 HQ7
                    go_wp2_with fail
                    refine (ids_p PL7.out.p PL7.out.ok).mono ?_
                    rintro e w8 ⟨v8, rfl, ho8, hb8⟩
                    have PL8 := Lib.hid (PL7.out.step hb8)
                    obtain ⟨A8, n8, c8, rfl, -, -, -⟩ := ho8.form
                    have HO8 := Lib.hid ho8
                    clear hb8 ho8
                    go_wp2_with fail
                    refine (R12.rids_p PL8.out.r PL8.out.ok2).mono ?_
                    rintro e w9 ⟨v9, rfl, ho9, hb9⟩
                    have PL9 := Lib.hid (PL8.out.step hb9)
                    obtain ⟨A9, n9, c9, rfl, -, -, -⟩ := ho9.form
                    rw [← PL7.out.like.ids] at ho9
                    have HSI := Lib.hid (sameids_p (HO8.out.step hb9) ho9 (by rw [List.length_map]; have := PL9.out.ok.len; omega))
                    clear hb9 ho9
                    go_wp2_with fail
                    refine HSI.out.mono ?_
                    rintro e w10 ⟨rfl, hb10⟩
                    have PL10 := Lib.hid (PL9.out.step hb10)
                    clear hb10 HSI HO8 PL7 PL8 PL9
                    go_wp2_with fail
                    first
                      | exact ⟨⟨j + 1, hd, _, _, _, _, by omega, hhd, by go_num, rfl, PL10.out⟩, by simp [intOf]; omega⟩
                      | (go_goals; fail)
                  · have hz2 : T.delE kk D ≠ 0 := by rw [← hE]; exact hz
                    have HA := Lib.hid (del_no PL6.out.p kk D hz)
                    have HA2 := fun V (hV : Below w6.heap.size w6 V) => R12.rdel_no (PL6.out.r.step hV) PL6.out.ok2 kk D hkk hz2 hD
                    rw [← hE] at HA2
                    have HA2 := Lib.hid HA2
                    clear hE hz2
                    generalize S.delE kk D = EE at *
                    have hq0 : ((EE : Int) != (EE : Int)) = false := by simp
                    go_wp2_with fail
                    refine HA.out.mono ?_
                    rintro e w7 ⟨rfl, hb7⟩
                    have HB7 := Lib.hid hb7
                    clear hb7 HA
                    go_wp2_with fail
                    refine (HA2.out _ HB7.out).mono ?_
                    rintro e wx ⟨rfl, hb8⟩
                    have PLX := Lib.hid ((PL6.out.step HB7.out).step hb8)
                    clear hb8 HB7 HA2
                    go_wp2_with fail
                    have HFR := Lib.hid (free_p PLX.out.p PLX.out.ok)
                    have HFQ := Lib.hid fun V (hV : Below wx.heap.size wx V) => (show Calls Try.prog 64 #[.pointer (some ⟨h, 0, none⟩)] V fun e w' => e = .returned (.int .i64 (S.free : Int)) ∧ w' = V from by rw [PLX.out.like.free]; exact R12.rfree_p (PLX.out.r.step hV) PLX.out.ok2)
                    generalize hFX : Rp.free S = FX at HFR HFQ
                    clear hFX
                    go_wp2_with fail
                    refine HFR.out.mono ?_
                    rintro e w7 ⟨rfl, hb7⟩
                    have PL7 := Lib.hid (PLX.out.step hb7)
                    have HQ7 := Lib.hid (HFQ.out _ hb7)
                    clear hb7 HFR HFQ
                    go_wp2_with fail
                    refine HQ7.out.mono ?_
                    rintro e w8 ⟨rfl, hw8⟩
                    rw [hw8]
                    clear hw8 w8 HQ7
                    go_wp2_with fail
                    refine (ids_p PL7.out.p PL7.out.ok).mono ?_
                    rintro e w8 ⟨v8, rfl, ho8, hb8⟩
                    have PL8 := Lib.hid (PL7.out.step hb8)
                    obtain ⟨A8, n8, c8, rfl, -, -, -⟩ := ho8.form
                    have HO8 := Lib.hid ho8
                    clear hb8 ho8
                    go_wp2_with fail
                    refine (R12.rids_p PL8.out.r PL8.out.ok2).mono ?_
                    rintro e w9 ⟨v9, rfl, ho9, hb9⟩
                    have PL9 := Lib.hid (PL8.out.step hb9)
                    obtain ⟨A9, n9, c9, rfl, -, -, -⟩ := ho9.form
                    rw [← PL7.out.like.ids] at ho9
                    have HSI := Lib.hid (sameids_p (HO8.out.step hb9) ho9 (by rw [List.length_map]; have := PL9.out.ok.len; omega))
                    clear hb9 ho9
                    go_wp2_with fail
                    refine HSI.out.mono ?_
                    rintro e w10 ⟨rfl, hb10⟩
                    have PL10 := Lib.hid (PL9.out.step hb10)
                    clear hb10 HSI HO8 PL7 PL8 PL9
                    go_wp2_with fail
                    first
                      | exact ⟨⟨j + 1, hd, _, _, _, _, by omega, hhd, by go_num, rfl, PL10.out⟩, by simp [intOf]; omega⟩
                      | (go_goals; fail)
              · as_aux_lemma =>
                  rcases hv : S.valid kk with _ | _
                  · have hv2 : T.valid kk = false := by rw [← PL6.out.like.valid kk]; exact hv
                    have HA := Lib.hid (clr_no PL6.out.p kk hv)
                    have HA2 := Lib.hid (R12.rclr_no PL6.out.r kk hkk hv2)
                    clear hv hv2
                    go_wp2_with fail
                    refine HA.out.mono ?_
                    rintro e w7 ⟨rfl, hw7⟩
                    rw [hw7]
                    clear hw7 w7
                    go_wp2_with fail
                    refine HA2.out.mono ?_
                    rintro e w7 ⟨rfl, hw7⟩
                    rw [hw7]
                    clear hw7 w7 HA HA2
                    have PLX := Lib.hid PL6.out
                    obtain ⟨wx, hwx⟩ : ∃ wx, wx = w6 := ⟨_, rfl⟩
                    rw [← hwx] at PLX ⊢
                    clear hwx
                    go_wp2_with fail
                    have HFR := Lib.hid (free_p PLX.out.p PLX.out.ok)
                    have HFQ := Lib.hid fun V (hV : Below wx.heap.size wx V) => (show Calls Try.prog 64 #[.pointer (some ⟨h, 0, none⟩)] V fun e w' => e = .returned (.int .i64 (S.free : Int)) ∧ w' = V from by rw [PLX.out.like.free]; exact R12.rfree_p (PLX.out.r.step hV) PLX.out.ok2)
                    generalize hFX : Rp.free S = FX at HFR HFQ
                    clear hFX
                    go_wp2_with fail
                    refine HFR.out.mono ?_
                    rintro e w7 ⟨rfl, hb7⟩
                    have PL7 := Lib.hid (PLX.out.step hb7)
                    have HQ7 := Lib.hid (HFQ.out _ hb7)
                    clear hb7 HFR HFQ
                    go_wp2_with fail
                    refine HQ7.out.mono ?_
                    rintro e w8 ⟨rfl, hw8⟩
                    rw [hw8]
                    clear hw8 w8 HQ7
                    go_wp2_with fail
                    refine (ids_p PL7.out.p PL7.out.ok).mono ?_
                    rintro e w8 ⟨v8, rfl, ho8, hb8⟩
                    have PL8 := Lib.hid (PL7.out.step hb8)
                    obtain ⟨A8, n8, c8, rfl, -, -, -⟩ := ho8.form
                    have HO8 := Lib.hid ho8
                    clear hb8 ho8
                    go_wp2_with fail
                    refine (R12.rids_p PL8.out.r PL8.out.ok2).mono ?_
                    rintro e w9 ⟨v9, rfl, ho9, hb9⟩
                    have PL9 := Lib.hid (PL8.out.step hb9)
                    obtain ⟨A9, n9, c9, rfl, -, -, -⟩ := ho9.form
                    rw [← PL7.out.like.ids] at ho9
                    have HSI := Lib.hid (sameids_p (HO8.out.step hb9) ho9 (by rw [List.length_map]; have := PL9.out.ok.len; omega))
                    clear hb9 ho9
                    go_wp2_with fail
                    refine HSI.out.mono ?_
                    rintro e w10 ⟨rfl, hb10⟩
                    have PL10 := Lib.hid (PL9.out.step hb10)
                    clear hb10 HSI HO8 PL7 PL8 PL9
                    go_wp2_with fail
                    first
                      | exact ⟨⟨j + 1, hd, _, _, _, _, by omega, hhd, by go_num, rfl, PL10.out⟩, by simp [intOf]; omega⟩
                      | (go_goals; fail)
                  · have hv2 : T.valid kk = true := by rw [← PL6.out.like.valid kk]; exact hv
                    have HA := Lib.hid (clr_p PL6.out.p kk hv)
                    clear hv
                    go_wp2_with fail
                    refine HA.out.mono ?_
                    rintro e w7 ⟨rfl, h7, k7⟩
                    have hr7 := PL6.out.left k7
                    have HA2 := Lib.hid (R12.rclr_p hr7 kk hkk hv2)
                    have H7 := Lib.hid h7
                    have HR7 := Lib.hid hr7
                    clear h7 k7 hr7 hv2 HA
                    go_wp2_with fail
                    refine HA2.out.mono ?_
                    rintro e wx ⟨rfl, h8, k8⟩
                    have PLX := Lib.hid (PL.mk (prog_kp HR7.out H7.out k8) h8 PL6.out.ok.clr PL6.out.ok2.clr PL6.out.like.clrL)
                    clear h8 k8 HA2 H7 HR7
                    generalize S.clr = SX at *
                    generalize T.clr = TX at *
                    go_wp2_with fail
                    have HFR := Lib.hid (free_p PLX.out.p PLX.out.ok)
                    have HFQ := Lib.hid fun V (hV : Below wx.heap.size wx V) => (show Calls Try.prog 64 #[.pointer (some ⟨h, 0, none⟩)] V fun e w' => e = .returned (.int .i64 (SX.free : Int)) ∧ w' = V from by rw [PLX.out.like.free]; exact R12.rfree_p (PLX.out.r.step hV) PLX.out.ok2)
                    generalize hFX : Rp.free SX = FX at HFR HFQ
                    clear hFX
                    go_wp2_with fail
                    refine HFR.out.mono ?_
                    rintro e w7 ⟨rfl, hb7⟩
                    have PL7 := Lib.hid (PLX.out.step hb7)
                    have HQ7 := Lib.hid (HFQ.out _ hb7)
                    clear hb7 HFR HFQ
                    go_wp2_with fail
                    refine HQ7.out.mono ?_
                    rintro e w8 ⟨rfl, hw8⟩
                    rw [hw8]
                    clear hw8 w8 HQ7
                    go_wp2_with fail
                    refine (ids_p PL7.out.p PL7.out.ok).mono ?_
                    rintro e w8 ⟨v8, rfl, ho8, hb8⟩
                    have PL8 := Lib.hid (PL7.out.step hb8)
                    obtain ⟨A8, n8, c8, rfl, -, -, -⟩ := ho8.form
                    have HO8 := Lib.hid ho8
                    clear hb8 ho8
                    go_wp2_with fail
                    refine (R12.rids_p PL8.out.r PL8.out.ok2).mono ?_
                    rintro e w9 ⟨v9, rfl, ho9, hb9⟩
                    have PL9 := Lib.hid (PL8.out.step hb9)
                    obtain ⟨A9, n9, c9, rfl, -, -, -⟩ := ho9.form
                    rw [← PL7.out.like.ids] at ho9
                    have HSI := Lib.hid (sameids_p (HO8.out.step hb9) ho9 (by rw [List.length_map]; have := PL9.out.ok.len; omega))
                    clear hb9 ho9
                    go_wp2_with fail
                    refine HSI.out.mono ?_
                    rintro e w10 ⟨rfl, hb10⟩
                    have PL10 := Lib.hid (PL9.out.step hb10)
                    clear hb10 HSI HO8 PL7 PL8 PL9
                    go_wp2_with fail
                    first
                      | exact ⟨⟨j + 1, hd, _, _, _, _, by omega, hhd, by go_num, rfl, PL10.out⟩, by simp [intOf]; omega⟩
                      | (go_goals; fail)
        · have n1 : ¬ (j : Int) < (n : Int) := by omega
          go_wp2_with fail
          refine (haw.out _).mono ?_
          rintro e w6 ⟨rfl, hb6⟩
          go_wp2_with fail
          go_ret
          exact ⟨rfl, hpl.p.bel.trans (hb6.mono hpl.p.base)⟩

theorem cells_u8 : Try.prog.cellsOf 5 = 1 := by kernel_rfl
theorem own : ownKnob Try.prog.godebug = none := by kernel_rfl
theorem laidOut : laidOutB Try.prog = true := by kernel_rfl
theorem contract (H : Type) (enc : TypeId × Value → H) (W : World) (base : Nat) (args : Array Value) (ds gs : List (DataW H)) (before : List MemPlace)
    (hval : ∀ (j : Nat) t v, Try.f14.params[j]? = some t → args[j]? = some v → Value.okWide Try.prog W .any base t v)
    (hW : DataW.Whole enc Try.prog Try.f14.params.toList Rows.repositoryPlaysSpec.vars false W args.toList ds gs before) :
    Calls Try.prog 14 args W fun e W' => ∃ v, e = .returned v ∧ Rows.repositoryPlaysSpec.post enc Try.prog Try.f14 false true false false W args v W' := by
  have hW' := hW
  obtain ⟨p, q, hA0, hV, rfl, hfz, hnd⟩ := hW
  have hA : DataW.TrodAll enc Try.prog W 0 (fun _ => true) true Try.f14.params.toList args.toList ds p := hA0
  rw [Try.params14] at hA hval
  obtain ⟨v0, vs0, d0, ds0, p0, q0, hargs, rfl, rfl, h0, r0⟩ := trodAll_cons hA
  obtain ⟨v1, vs1, d1, ds1, p1, q1, rfl, rfl, rfl, h1, r1⟩ := trodAll_cons r0
  obtain ⟨rfl, rfl, rfl⟩ := trodAll_nil r1
  obtain rfl : args = #[v0, v1] := by cases args; simp_all
  obtain ⟨a0, rfl, -, -, w0⟩ := open_int Try.underlying3 (hval 0 3 v0 rfl rfl) h0
  obtain ⟨A1, n1, c1, l1, rfl, hr1⟩ := open_does Try.underlying79 Try.underlying88 (by kernel_rfl) ⟨rfl, rfl, rfl, rfl, rfl, rfl, rfl⟩ ⟨(by kernel_rfl), (by kernel_rfl), (by kernel_rfl), (by kernel_rfl), (by kernel_rfl), (by kernel_rfl), (by kernel_rfl)⟩ Try.underlying3 Try.underlying3 Try.underlying3 Try.underlying30 Try.underlying30 Try.underlying4 Try.underlying42 Try.underlying5 cells_u8 (hval 1 79 v1 rfl rfl) h1
  clear hA0
  refine (walk a0 (bounds_i64 w0) A1 n1 c1 l1 W hr1).mono fun e W' ⟨he, hb⟩ => ?_
  subst he
  exact ⟨_, rfl, law_post laidOut (types_fit (by kernel_rfl)) (by kernel_rfl) Try.underlying4 rfl (fun xs hx => by
    match xs, hx with
    | [_, _], _ => rfl) hW' hb⟩

theorem lifted (os : Os) (started : os.Started) (H : Type) (enc : TypeId × Value → H) :
    ReturnsInHanded {} Try.checked os 14 .any (Rows.repositoryPlaysSpec.pre6 enc Try.prog Try.f14 Rows.repositoryPlaysRow.domain false) (Rows.repositoryPlaysSpec.post enc Try.prog Try.f14 false true false false) := by
  refine returnsInHanded_of_change (C := Try.checked) own started (by kernel_rfl) Try.func14
    (ChangeSpec.witness6 (enc := enc) (C := Try.checked) false ⟨#[], #[.int .i64 0, .slice none 0 0], []⟩ 8 (by kernel_rfl) (by kernel_rfl) (by kernel_rfl) (by kernel_rfl)) ?_
  intro W base args ds gs before hval hW _ _
  exact contract H enc W base args ds gs before hval hW

theorem proved : Rows.RepositoryPlaysSaid :=
  OpenClaim.holds_of_wide 14 Try.f14 rfl rfl rfl rfl rfl rfl rfl ⟨rfl, rfl, rfl, rfl, rfl⟩ rfl rfl rfl rfl rfl (by kernel_rfl) Try.func14 (by kernel_rfl)
    (of_decide_eq_true (by kernel_rfl)) (by unfold Func.isWrapper; first | (rw [if_pos (by decide +kernel)]; kernel_rfl) | (rw [if_neg (by decide +kernel)]; exact ⟨rfl, rfl⟩))
    (fun os started H enc _ => lifted os started H enc)
end Go.Proofs.Ytcnkiecdagjgmaa.repositoryPlays
