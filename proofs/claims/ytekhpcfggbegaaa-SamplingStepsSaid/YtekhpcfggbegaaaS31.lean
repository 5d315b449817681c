/- Walks: the reference of sensor records: which ones are valid. -/
import Derived.Test.YtekhpcfggbegaaaS30
import Derived.Test.YtekhpcfggbegaaaS13
namespace Go.Proofs.Ytekhpcfggbegaaa.Tb
open Go.RowKit Go.Proofs.Ytekhpcfggbegaaa.Mem Go.Proofs.Ytekhpcfggbegaaa.F2p Go.Proofs.Ytekhpcfggbegaaa.C4l Go.Proofs.Ytekhpcfggbegaaa.Ta
set_option maxRecDepth 100000
set_option maxHeartbeats 2000000

theorem vs_name {s : Sn} (h : okn (bl s.nm) = false) : vs s = false := by unfold vs; rw [h]; rfl
theorem vs_wid {s : Sn} (h : wid s.sm = false) : vs s = false := by unfold vs; rw [h, Bool.false_and, Bool.and_false]
theorem vs_dsc {s : Sn} (h1 : okn (bl s.nm) = true) (h2 : wid s.sm = true) (hd : s.d = true) : vs s = dsc s := by unfold vs; rw [h1, h2, hd]; rfl
theorem vs_ana2 {s : Sn} (h1 : okn (bl s.nm) = true) (h2 : wid s.sm = true) (hd : s.d = false) : vs s = (C4p.vld s.c && (decide (s.mx.toNat ≤ 63) && (decide (s.st = 0) && (inm s.av s.mx.toNat && (inm s.dv s.mx.toNat && rows s 6))))) := by
  unfold vs; rw [h1, h2, hd, rows_all]
  show ana s = _
  unfold ana lims
  cases C4p.vld s.c <;> cases decide (s.mx.toNat ≤ 63) <;> cases decide (s.st = 0) <;> cases inm s.av s.mx.toNat <;> cases inm s.dv s.mx.toNat <;> cases zer s.mx.toNat s.raw <;> cases ordd s.c.s s.mx.toNat s.raw <;> rfl
theorem vld10 (s : Sn) (A : Option Addr) (n cp : Nat) (w : World) (hsl : PSl w A n cp s.c.p) (hnm : s.nm.size ≤ maxLen) :
    Calls Try.prog 63 #[.agg (cells s (.slice A n cp))] w fun e w' => e = .returned (.bool (vs s)) ∧ Below w.heap.size w w' := by
  have hb0 : Below w.heap.size w (w.alloc (.cells (cells s (.slice A n cp)) 32)) := (Below.refl _ _).alloc (Nat.le_refl _) _
  have hx0 : Bx (w.alloc (.cells (cells s (.slice A n cp)) 32)) w.heap.size s (.slice A n cp) := heap_alloc_new w _
  have hs1 := hsl.step hb0
  unfold maxLen at hnm
  obtain ⟨R, hR⟩ : ∃ R, R = vs s := ⟨_, rfl⟩
  rw [← hR]
  have HNF := Lib.hid fun (h : okn (bl s.nm) = false) => hR.trans (vs_name h)
  have HWF := Lib.hid fun (h : wid s.sm = false) => hR.trans (vs_wid h)
  have HDI := Lib.hid fun h1 h2 hd => hR.trans (vs_dsc (s := s) h1 h2 hd)
  have HAN := Lib.hid fun h1 h2 hd => hR.trans (vs_ana2 (s := s) h1 h2 hd)
  clear hR hsl
  have c3 : (w.alloc (.cells (cells s (.slice A n cp)) 32)).cell? ⟨w.heap.size, 3, none⟩ = some (.string s.nm) := hx0.c 3
  have c27 : (w.alloc (.cells (cells s (.slice A n cp)) 32)).cell? ⟨w.heap.size, 27, none⟩ = some (.int .i64 s.sm) := hx0.c 27
  go_enter Try.func63, Try.ntmps63
  by_cases hsz : 1 ≤ s.nm.size ∧ s.nm.size ≤ 16
  case neg =>
    have hf := HNF.out (by unfold okn; rw [bl_len, decide_eq_false hsz]; rfl)
    subst hf
    rcases Nat.lt_or_ge s.nm.size 1 with hlt | hge
    · have k1 : decide ((s.nm.size : Int) < 1) = true := decide_eq_true (by omega)
      go_wp2_with fail
      go_ret
      exact ⟨rfl, hb0⟩
    · have k1 : decide ((s.nm.size : Int) < 1) = false := decide_eq_false (by omega)
      have k2 : decide (16 < (s.nm.size : Int)) = true := decide_eq_true (by omega)
      go_wp2_with fail
      go_ret
      exact ⟨rfl, hb0⟩
  have k1 : decide ((s.nm.size : Int) < 1) = false := decide_eq_false (by omega)
  have k2 : decide (16 < (s.nm.size : Int)) = false := decide_eq_false (by omega)
  by_cases hwd : s.sm = 1 ∨ s.sm = 3 ∨ s.sm = 5
  case neg =>
    have hf := HWF.out (by unfold wid; rw [decide_eq_false hwd])
    subst hf
    have q1 : (s.sm != 1) = true := by rw [bne_iff_ne]; omega
    have q2 : (s.sm != 3) = true := by rw [bne_iff_ne]; omega
    have q3 : (s.sm != 5) = true := by rw [bne_iff_ne]; omega
    go_wp2_with fail
    go_ret
    exact ⟨rfl, hb0⟩
  have HWT : Hid (wid s.sm = true) := Lib.hid (by unfold wid; rw [decide_eq_true hwd])
  have hyes : ∀ h : (∀ k (h : k < (bl s.nm).length), chr (bl s.nm)[k] = true), okn (bl s.nm) = true := fun h => by
    unfold okn
    rw [bl_len, decide_eq_true hsz, Bool.true_and, List.all_eq_true]
    intro x hx
    obtain ⟨k, hk, rfl⟩ := List.getElem_of_mem hx
    exact h k hk
  have HY := Lib.hid hyes
  clear hyes
  have hx1 := Lib.hid hx0
  rcases hwd with hw' | hw' | hw'
  all_goals
    rw [hw'] at c27
    go_wp2_with fail
    generalize (w.alloc (.cells (cells s (.slice A n cp)) 32)) = w1 at *
    have c3' := c3
    go_loopw [3] (fun v wr => ∃ j : Nat, j ≤ s.nm.size ∧ v = .int .i64 (j : Int) ∧ wr = w1 ∧ ∀ k (h : k < (bl s.nm).length), k < j → chr (bl s.nm)[k] = true) (fun v _ => s.nm.size - (intOf v).toNat)
    case atStart => exact ⟨0, Nat.zero_le _, rfl, rfl, fun k h h0 => absurd h0 (Nat.not_lt_zero _)⟩
    case round =>
      obtain ⟨j, hj, rfl, rfl, hok⟩ := hrel
      have HOK := Lib.hid hok
      clear hok
      by_cases hlt : j < s.nm.size
      · obtain ⟨x, hx⟩ : ∃ x : UInt8, x = s.nm[j]'hlt := ⟨_, rfl⟩
        have hx2 : (bl s.nm)[j]'(by rw [bl_len]; exact hlt) = x := by rw [hx]; rfl
        have hxl := x.toNat_lt
        have HX := Lib.hid hx2
        rw [eq_comm] at hx
        clear hx2
        by_cases h1 : x.toNat < 32
        · have hf := HNF.out (okn_false (by rw [bl_len]; exact hlt) (by rw [HX.out]; unfold chr; rw [decide_eq_false (show ¬ 32 ≤ x.toNat by omega)]; rfl))
          subst hf
          go_wp2_with fail
          go_ret
          exact ⟨rfl, hb0⟩
        · by_cases h2 : 126 < x.toNat
          · have hf := HNF.out (okn_false (by rw [bl_len]; exact hlt) (by rw [HX.out]; unfold chr; rw [decide_eq_false (show ¬ x.toNat ≤ 126 by omega), Bool.and_false]))
            subst hf
            go_wp2_with fail
            go_ret
            exact ⟨rfl, hb0⟩
          · go_wp2_with fail
            refine ⟨⟨j + 1, by omega, by go_num, trivial, fun k h h0 => ?_⟩, by simp [intOf]; omega⟩
            rcases Nat.lt_or_ge k j with g | g
            · exact HOK.out k h g
            · obtain rfl : k = j := by omega
              rw [HX.out]
              unfold chr
              rw [decide_eq_true (show 32 ≤ x.toNat by omega), decide_eq_true (show x.toNat ≤ 126 by omega)]
              rfl
      · have hok := HY.out (fun k h => HOK.out k h (by rw [bl_len] at h; omega))
        obtain rfl : j = s.nm.size := by omega
        have hx0 := hx1.out
        have hmx := s.mx.toNat_lt
        clear HOK HY hlt hj
        have c6 : wr.cell? ⟨w.heap.size, 6, none⟩ = some (.bool s.d) := hx0.c 6
        rcases hd : s.d with _ | _
        · as_aux_lemma =>
          have hR := HAN.out hok HWT.out hd
          rw [hd] at c6
          have c7 : wr.cell? ⟨w.heap.size, 7, none⟩ = some (.int .i64 s.c.f) := hx0.c 7
          have c8 : wr.cell? ⟨w.heap.size, 8, none⟩ = some (.bool s.c.s) := hx0.c 8
          have c9 : wr.cell? ⟨w.heap.size, 9, none⟩ = some (.int .i64 s.c.m) := hx0.c 9
          have c10 : wr.cell? ⟨w.heap.size, 10, none⟩ = some (.int .i64 s.c.b) := hx0.c 10
          have c11 : wr.cell? ⟨w.heap.size, 11, none⟩ = some (.int .i64 s.c.k1) := hx0.c 11
          have c12 : wr.cell? ⟨w.heap.size, 12, none⟩ = some (.int .i64 s.c.k2) := hx0.c 12
          have c13 : wr.cell? ⟨w.heap.size, 13, none⟩ = some (.slice A n cp) := hx0.c 13
          have c14 : wr.cell? ⟨w.heap.size, 14, none⟩ = some (.int .u8 (s.mx.toNat : Int)) := hx0.c 14
          have H1 := C4v.valid_r s.c.f s.c.m s.c.b s.c.k1 s.c.k2 s.c.s A n cp s.c.p wr hs1
          have H1 := Lib.hid (show Calls Try.prog 97 #[.agg #[.int .i64 s.c.f, .bool s.c.s, .int .i64 s.c.m, .int .i64 s.c.b, .int .i64 s.c.k1, .int .i64 s.c.k2, .slice A n cp]] wr (fun e w' => e = .returned (.bool (C4p.vld s.c)) ∧ Below wr.heap.size wr w') from H1)
          generalize C4p.vld s.c = b1 at *
          have e4 := bits_andn s.av s.mx.toNat
          have e5 := bits_andn s.dv s.mx.toNat
          unfold inm at hR
          generalize andn s.av s.mx.toNat = a4 at *
          generalize andn s.dv s.mx.toNat = a5 at *
          have HO := Lib.hid fun (u : World) => ordered_r s A n cp u
          generalize rows s 6 = b6 at *
          have HR := Lib.hid hR
          clear hR HNF HWF HDI HAN HWT hok
          go_wp2_with fail
          refine H1.out.mono ?_
          rintro e w2 ⟨rfl, hb2⟩
          have hx2 := hx0.below hb2
          have hbb := hb0.trans (hb2.mono hb0.size)
          clear hx0 hb0 hb2 H1 c6 c7 c8 c9 c10 c11 c12 c13 c14 c3 c3' hs1
          cases b1
          · have hf : R = false := HR.out
            subst hf
            go_wp2_with fail
            go_ret
            exact ⟨rfl, hbb⟩
          have c14 : w2.cell? ⟨w.heap.size, 14, none⟩ = some (.int .u8 (s.mx.toNat : Int)) := hx2.c 14
          have c23 : w2.cell? ⟨w.heap.size, 23, none⟩ = some (.int .u16 (s.st : Int)) := hx2.c 23
          have c24 : w2.cell? ⟨w.heap.size, 24, none⟩ = some (.int .u16 (s.av : Int)) := hx2.c 24
          have c25 : w2.cell? ⟨w.heap.size, 25, none⟩ = some (.int .u16 (s.dv : Int)) := hx2.c 25
          by_cases hm : s.mx.toNat ≤ 63
          case neg =>
            have hf : R = false := by rw [HR.out, decide_eq_false hm]; rfl
            subst hf
            have k3 : decide ((s.mx.toNat : Int) ≤ 63) = false := decide_eq_false (by omega)
            go_wp2_with fail
            go_ret
            exact ⟨rfl, hbb⟩
          have k3 : decide ((s.mx.toNat : Int) ≤ 63) = true := decide_eq_true (by omega)
          by_cases hst : s.st = 0
          case neg =>
            have hf : R = false := by rw [HR.out, decide_eq_true hm, decide_eq_false hst]; rfl
            subst hf
            have k4 : ((s.st : Int) == 0) = false := by rw [beq_eq_false_iff_ne]; omega
            go_wp2_with fail
            go_ret
            exact ⟨rfl, hbb⟩
          have k4 : ((s.st : Int) == 0) = true := by rw [beq_iff_eq]; omega
          by_cases h4 : a4 = 0
          case neg =>
            have hf : R = false := by rw [HR.out, decide_eq_true hm, decide_eq_true hst, decide_eq_false h4]; rfl
            subst hf
            have k5 : ((a4 : Int) == 0) = false := by rw [beq_eq_false_iff_ne]; omega
            go_wp2_with fail
            go_ret
            exact ⟨rfl, hbb⟩
          have k5 : ((a4 : Int) == 0) = true := by rw [beq_iff_eq]; omega
          by_cases h5 : a5 = 0
          case neg =>
            have hf : R = false := by rw [HR.out, decide_eq_true hm, decide_eq_true hst, decide_eq_true h4, decide_eq_false h5]; rfl
            subst hf
            have k6 : ((a5 : Int) == 0) = false := by rw [beq_eq_false_iff_ne]; omega
            go_wp2_with fail
            go_ret
            exact ⟨rfl, hbb⟩
          have k6 : ((a5 : Int) == 0) = true := by rw [beq_iff_eq]; omega
          have hf : R = b6 := by rw [HR.out, decide_eq_true hm, decide_eq_true hst, decide_eq_true h4, decide_eq_true h5]; rfl
          subst hf
          go_wp2_with (refine wpList_load_bx_w (by rfl) (.tmp 1) rfl _ _ _ rfl hx2 ?_)
          refine (HO.out _).mono ?_
          rintro e w3 ⟨rfl, hb3⟩
          go_wp2_with fail
          go_ret
          exact ⟨rfl, hbb.trans (hb3.mono hbb.size)⟩
        · as_aux_lemma =>
          have hR := HDI.out hok HWT.out hd
          rw [hd] at c6
          unfold dsc nocv at hR
          rw [← hs1.len] at hR
          have c7 : wr.cell? ⟨w.heap.size, 7, none⟩ = some (.int .i64 s.c.f) := hx0.c 7
          have c8 : wr.cell? ⟨w.heap.size, 8, none⟩ = some (.bool s.c.s) := hx0.c 8
          have c9 : wr.cell? ⟨w.heap.size, 9, none⟩ = some (.int .i64 s.c.m) := hx0.c 9
          have c10 : wr.cell? ⟨w.heap.size, 10, none⟩ = some (.int .i64 s.c.b) := hx0.c 10
          have c11 : wr.cell? ⟨w.heap.size, 11, none⟩ = some (.int .i64 s.c.k1) := hx0.c 11
          have c12 : wr.cell? ⟨w.heap.size, 12, none⟩ = some (.int .i64 s.c.k2) := hx0.c 12
          have c13 : wr.cell? ⟨w.heap.size, 13, none⟩ = some (.slice A n cp) := hx0.c 13
          have H1 := Lib.hid fun (u : World) => none_r s.c.f s.c.m s.c.b s.c.k1 s.c.k2 s.c.s A n cp u
          generalize (decide (s.c.f = 0) && (!s.c.s && (decide (s.c.m = 0) && (decide (s.c.b = 0) && (decide (s.c.k1 = 0) && (decide (s.c.k2 = 0) && decide (n = 0))))))) = b1 at *
          obtain ⟨b2, hb2⟩ : ∃ b2, b2 = nolim s.mx s.r0 s.r1 s.r2 s.r3 s.r4 s.r5 := ⟨_, rfl⟩
          have H2 : Hid (∀ W : World, (binOp .eql 29 (.agg #[.int .u8 (s.mx.toNat : Int), .int .u8 (s.r0.toNat : Int), .int .u8 (s.r1.toNat : Int), .int .u8 (s.r2.toNat : Int), .int .u8 (s.r3.toNat : Int), .int .u8 (s.r4.toNat : Int), .int .u8 (s.r5.toNat : Int)]) (.agg #[.int .u8 0, .int .u8 0, .int .u8 0, .int .u8 0, .int .u8 0, .int .u8 0, .int .u8 0])).run Try.prog W = .ok (.bool b2) W) := Lib.hid fun (W : World) => by have := th_eql W s.mx s.r0 s.r1 s.r2 s.r3 s.r4 s.r5 0 0 0 0 0 0 0; rw [show decide (s.mx = 0 ∧ s.r0 = 0 ∧ s.r1 = 0 ∧ s.r2 = 0 ∧ s.r3 = 0 ∧ s.r4 = 0 ∧ s.r5 = 0) = b2 from hb2.symm] at this; exact this
          rw [← hb2] at hR
          have e4 := bits_andn s.av s.st
          have e5 := bits_andn s.dv s.st
          unfold inm at hR
          generalize andn s.av s.st = a4 at *
          generalize andn s.dv s.st = a5 at *
          have HR := Lib.hid hR
          clear hR HNF HWF HDI HAN HWT hok hb2
          go_wp2_with fail
          refine (H1.out _).mono ?_
          rintro e w2 ⟨rfl, hb2⟩
          have hx2 := hx0.below hb2
          have hbb := hb0.trans (hb2.mono hb0.size)
          clear hx0 hb0 hb2 H1 c6 c7 c8 c9 c10 c11 c12 c13 c3 c3' c27 hs1
          cases b1
          · have hf : R = false := HR.out
            subst hf
            go_wp2_with fail
            go_ret
            exact ⟨rfl, hbb⟩
          have c14 : w2.cell? ⟨w.heap.size, 14, none⟩ = some (.int .u8 (s.mx.toNat : Int)) := hx2.c 14
          have c15 : w2.cell? ⟨w.heap.size, 15, none⟩ = some (.int .u8 (s.r0.toNat : Int)) := hx2.c 15
          have c16 : w2.cell? ⟨w.heap.size, 16, none⟩ = some (.int .u8 (s.r1.toNat : Int)) := hx2.c 16
          have c17 : w2.cell? ⟨w.heap.size, 17, none⟩ = some (.int .u8 (s.r2.toNat : Int)) := hx2.c 17
          have c18 : w2.cell? ⟨w.heap.size, 18, none⟩ = some (.int .u8 (s.r3.toNat : Int)) := hx2.c 18
          have c19 : w2.cell? ⟨w.heap.size, 19, none⟩ = some (.int .u8 (s.r4.toNat : Int)) := hx2.c 19
          have c20 : w2.cell? ⟨w.heap.size, 20, none⟩ = some (.int .u8 (s.r5.toNat : Int)) := hx2.c 20
          have c21 : w2.cell? ⟨w.heap.size, 21, none⟩ = some (.int .u8 (s.hl.toNat : Int)) := hx2.c 21
          have c22 : w2.cell? ⟨w.heap.size, 22, none⟩ = some (.int .u8 (s.hu.toNat : Int)) := hx2.c 22
          have c23 : w2.cell? ⟨w.heap.size, 23, none⟩ = some (.int .u16 (s.st : Int)) := hx2.c 23
          have c24 : w2.cell? ⟨w.heap.size, 24, none⟩ = some (.int .u16 (s.av : Int)) := hx2.c 24
          have c25 : w2.cell? ⟨w.heap.size, 25, none⟩ = some (.int .u16 (s.dv : Int)) := hx2.c 25
          have c27 : w2.cell? ⟨w.heap.size, 27, none⟩ = some (.int .i64 s.sm) := hx2.c 27
          rw [hw'] at c27
          have hq := fun W => H2.out W
          have hg : ∀ W x y, (eqGuard .eql 29 x y (.agg #[.int .u8 (s.mx.toNat : Int), .int .u8 (s.r0.toNat : Int), .int .u8 (s.r1.toNat : Int), .int .u8 (s.r2.toNat : Int), .int .u8 (s.r3.toNat : Int), .int .u8 (s.r4.toNat : Int), .int .u8 (s.r5.toNat : Int)]) (.agg #[.int .u8 0, .int .u8 0, .int .u8 0, .int .u8 0, .int .u8 0, .int .u8 0, .int .u8 0])).run Try.prog W = .ok () W := fun W x y => th_guard W x y s.mx s.r0 s.r1 s.r2 s.r3 s.r4 s.r5 0 0 0 0 0 0 0
          cases b2
          · have hf : R = false := HR.out
            subst hf
            go_wp2_with fail
            go_ret
            exact ⟨rfl, hbb⟩
          by_cases h1 : s.hl = 0
          case neg =>
            have hf : R = false := by rw [HR.out, decide_eq_false h1]; rfl
            subst hf
            have hk : ((s.hl.toNat : Int) == 0) = false := by rw [beq_eq_false_iff_ne]; intro h; exact h1 (UInt8.toNat_inj.1 (by rw [show (0 : UInt8).toNat = 0 from rfl]; omega))
            go_wp2_with fail
            go_ret
            exact ⟨rfl, hbb⟩
          have g1 : ((s.hl.toNat : Int) == 0) = true := by rw [h1]; rfl
          by_cases h2 : s.hu = 0
          case neg =>
            have hf : R = false := by rw [HR.out, decide_eq_true h1, decide_eq_false h2]; rfl
            subst hf
            have hk : ((s.hu.toNat : Int) == 0) = false := by rw [beq_eq_false_iff_ne]; intro h; exact h2 (UInt8.toNat_inj.1 (by rw [show (0 : UInt8).toNat = 0 from rfl]; omega))
            go_wp2_with fail
            go_ret
            exact ⟨rfl, hbb⟩
          have g2 : ((s.hu.toNat : Int) == 0) = true := by rw [h2]; rfl
          by_cases h3 : s.sm = 1
          case neg =>
            have hf : R = false := by rw [HR.out, decide_eq_true h1, decide_eq_true h2, decide_eq_false h3]; rfl
            subst hf
            first
              | exact absurd hw' h3
              | (have hk : (s.sm == 1) = false := by rw [beq_eq_false_iff_ne]; exact h3
                 rw [hw'] at hk
                 go_wp2_with fail
                 go_ret
                 exact ⟨rfl, hbb⟩)
          all_goals (try exact absurd (hw'.symm.trans h3) (by decide))
          all_goals
            by_cases h4 : s.st ≤ 32767
            case neg =>
              have hf : R = false := by rw [HR.out, decide_eq_true h1, decide_eq_true h2, decide_eq_true h3, decide_eq_false h4]; rfl
              subst hf
              have hk : decide ((s.st : Int) ≤ 32767) = false := decide_eq_false (by omega)
              go_wp2_with fail
              go_ret
              exact ⟨rfl, hbb⟩
            have hk : decide ((s.st : Int) ≤ 32767) = true := decide_eq_true (by omega)
            by_cases h5 : a4 = 0
            case neg =>
              have hf : R = false := by rw [HR.out, decide_eq_true h1, decide_eq_true h2, decide_eq_true h3, decide_eq_true h4, decide_eq_false h5]; rfl
              subst hf
              have k5 : ((a4 : Int) == 0) = false := by rw [beq_eq_false_iff_ne]; omega
              go_wp2_with fail
              go_ret
              exact ⟨rfl, hbb⟩
            have k5 : ((a4 : Int) == 0) = true := by rw [beq_iff_eq]; omega
            by_cases h6 : a5 = 0
            case neg =>
              have hf : R = false := by rw [HR.out, decide_eq_true h1, decide_eq_true h2, decide_eq_true h3, decide_eq_true h4, decide_eq_true h5, decide_eq_false h6]; rfl
              subst hf
              have k6 : ((a5 : Int) == 0) = false := by rw [beq_eq_false_iff_ne]; omega
              go_wp2_with fail
              go_ret
              exact ⟨rfl, hbb⟩
            have k6 : ((a5 : Int) == 0) = true := by rw [beq_iff_eq]; omega
            have hf : R = true := by rw [HR.out, decide_eq_true h1, decide_eq_true h2, decide_eq_true h3, decide_eq_true h4, decide_eq_true h5, decide_eq_true h6]; rfl
            subst hf
            go_wp2_with fail
            go_ret
            exact ⟨rfl, hbb⟩
end Go.Proofs.Ytekhpcfggbegaaa.Tb
