/- Walks: thresholds compared; discrete records. -/
import Derived.Test.YtekhpcfggbegaaaS20
import Derived.Laws.StructEq
import Derived.Stop.BytesEq
namespace Go.Proofs.Ytekhpcfggbegaaa.Tb
open Go.RowKit Go.Proofs.Ytekhpcfggbegaaa.Mem Go.Proofs.Ytekhpcfggbegaaa.F2p Go.Proofs.Ytekhpcfggbegaaa.C4l Go.Proofs.Ytekhpcfggbegaaa.Ta
set_option maxRecDepth 100000
set_option maxHeartbeats 1000000

theorem run_eq6 (W : World) (r0 r1 r2 r3 r4 r5 r0' r1' r2' r3' r4' r5' : UInt8) :
    (Op.equalIn 9999 27 (.agg #[.int .u8 (r0.toNat : Int), .int .u8 (r1.toNat : Int), .int .u8 (r2.toNat : Int), .int .u8 (r3.toNat : Int), .int .u8 (r4.toNat : Int), .int .u8 (r5.toNat : Int)]) (.agg #[.int .u8 (r0'.toNat : Int), .int .u8 (r1'.toNat : Int), .int .u8 (r2'.toNat : Int), .int .u8 (r3'.toNat : Int), .int .u8 (r4'.toNat : Int), .int .u8 (r5'.toNat : Int)])).run Try.prog W = .ok (decide (r0 = r0' ∧ r1 = r1' ∧ r2 = r2' ∧ r3 = r3' ∧ r4 = r4' ∧ r5 = r5')) W := by
  have h := run_equalIn_bytes (P := Try.prog) W 9997 27 5 6 Try.underlying27 Try.underlying5 (fun w => Try.sizeOf5 w) [r0, r1, r2, r3, r4, r5] [r0', r1', r2', r3', r4', r5'] rfl rfl
  rw [show (9999 : Nat) = 9997 + 2 from rfl]
  refine h.trans ?_
  congr 1
  rw [Bool.eq_iff_iff]
  simp
theorem th_eqIn (W : World) (mx r0 r1 r2 r3 r4 r5 mx' r0' r1' r2' r3' r4' r5' : UInt8) :
    (Op.equalIn 10000 29 (.agg #[.int .u8 (mx.toNat : Int), .int .u8 (r0.toNat : Int), .int .u8 (r1.toNat : Int), .int .u8 (r2.toNat : Int), .int .u8 (r3.toNat : Int), .int .u8 (r4.toNat : Int), .int .u8 (r5.toNat : Int)]) (.agg #[.int .u8 (mx'.toNat : Int), .int .u8 (r0'.toNat : Int), .int .u8 (r1'.toNat : Int), .int .u8 (r2'.toNat : Int), .int .u8 (r3'.toNat : Int), .int .u8 (r4'.toNat : Int), .int .u8 (r5'.toNat : Int)])).run Try.prog W = .ok (decide (mx = mx' ∧ r0 = r0' ∧ r1 = r1' ∧ r2 = r2' ∧ r3 = r3' ∧ r4 = r4' ∧ r5 = r5')) W := by
  have h6 := fun W => run_eq6 W r0 r1 r2 r3 r4 r5 r0' r1' r2' r3' r4' r5'
  go_simp
  have e : ((mx.toNat : Int) = (mx'.toNat : Int)) ↔ mx = mx' := by
    rw [← UInt8.toNat_inj]; omega
  by_cases c0 : mx = mx'
  · subst c0
    simp
    by_cases hh : r0 = r0' ∧ r1 = r1' ∧ r2 = r2' ∧ r3 = r3' ∧ r4 = r4' ∧ r5 = r5'
    · obtain ⟨rfl, rfl, rfl, rfl, rfl, rfl⟩ := hh
      simp
    · rw [if_pos (fun a b c d e f => hh ⟨a, b, c, d, e, f⟩)]
      congr 1
      rw [Bool.eq_iff_iff]
      simp
      exact fun a b c d e f => hh ⟨a, b, c, d, e, f⟩
  · have e2 : ¬ ((mx.toNat : Int) = (mx'.toNat : Int)) := fun h => c0 (e.1 h)
    simp [c0, e2]
theorem th_eql (W : World) (mx r0 r1 r2 r3 r4 r5 mx' r0' r1' r2' r3' r4' r5' : UInt8) :
    (binOp .eql 29 (.agg #[.int .u8 (mx.toNat : Int), .int .u8 (r0.toNat : Int), .int .u8 (r1.toNat : Int), .int .u8 (r2.toNat : Int), .int .u8 (r3.toNat : Int), .int .u8 (r4.toNat : Int), .int .u8 (r5.toNat : Int)]) (.agg #[.int .u8 (mx'.toNat : Int), .int .u8 (r0'.toNat : Int), .int .u8 (r1'.toNat : Int), .int .u8 (r2'.toNat : Int), .int .u8 (r3'.toNat : Int), .int .u8 (r4'.toNat : Int), .int .u8 (r5'.toNat : Int)])).run Try.prog W = .ok (.bool (decide (mx = mx' ∧ r0 = r0' ∧ r1 = r1' ∧ r2 = r2' ∧ r3 = r3' ∧ r4 = r4' ∧ r5 = r5'))) W := by
  rw [run_eql_struct, th_eqIn]
  rfl
theorem th_guard (W : World) (x y : Operand) (mx r0 r1 r2 r3 r4 r5 mx' r0' r1' r2' r3' r4' r5' : UInt8) :
    (eqGuard .eql 29 x y (.agg #[.int .u8 (mx.toNat : Int), .int .u8 (r0.toNat : Int), .int .u8 (r1.toNat : Int), .int .u8 (r2.toNat : Int), .int .u8 (r3.toNat : Int), .int .u8 (r4.toNat : Int), .int .u8 (r5.toNat : Int)]) (.agg #[.int .u8 (mx'.toNat : Int), .int .u8 (r0'.toNat : Int), .int .u8 (r1'.toNat : Int), .int .u8 (r2'.toNat : Int), .int .u8 (r3'.toNat : Int), .int .u8 (r4'.toNat : Int), .int .u8 (r5'.toNat : Int)])).run Try.prog W = .ok () W :=
  run_eqGuard_agg W .eql 29 x y _ _ Try.eqGuardType29
theorem dsc_p (s : Sn) (A : Option Addr) (n cp : Nat) (w : World) (hsl : PSl w A n cp s.c.p) : Calls Try.prog 95 #[.agg (cells s (.slice A n cp))] w fun e w' => e = .returned (.bool (dsc s)) ∧ Below w.heap.size w w' := by
  obtain ⟨nu, ty, un, nm, ei, en, d, ⟨f, sg, m, b, k1, k2, p⟩, mx, r0, r1, r2, r3, r4, r5, hl, hu, st, av, dv, on, sm⟩ := s
  dsimp only at hsl
  obtain ⟨R, hR⟩ : ∃ R, R = dsc ⟨nu, ty, un, nm, ei, en, d, ⟨f, sg, m, b, k1, k2, p⟩, mx, r0, r1, r2, r3, r4, r5, hl, hu, st, av, dv, on, sm⟩ := ⟨_, rfl⟩
  rw [← hR]
  unfold dsc nocv at hR
  dsimp only at hR
  rw [← hsl.len] at hR
  unfold cells
  dsimp only
  have hb0 : Below w.heap.size w (w.alloc (.cells #[.int .u8 (nu.toNat : Int), .int .u8 (ty.toNat : Int), .int .u8 (un.toNat : Int), .string nm, .int .u8 (ei.toNat : Int), .int .u8 (en.toNat : Int), .bool d, .int .i64 f, .bool sg, .int .i64 m, .int .i64 b, .int .i64 k1, .int .i64 k2, .slice A n cp, .int .u8 (mx.toNat : Int), .int .u8 (r0.toNat : Int), .int .u8 (r1.toNat : Int), .int .u8 (r2.toNat : Int), .int .u8 (r3.toNat : Int), .int .u8 (r4.toNat : Int), .int .u8 (r5.toNat : Int), .int .u8 (hl.toNat : Int), .int .u8 (hu.toNat : Int), .int .u16 (st : Int), .int .u16 (av : Int), .int .u16 (dv : Int), .bool on, .int .i64 sm] 32)) := (Below.refl _ _).alloc (Nat.le_refl _) _
  have hx0 : Bx (w.alloc (.cells #[.int .u8 (nu.toNat : Int), .int .u8 (ty.toNat : Int), .int .u8 (un.toNat : Int), .string nm, .int .u8 (ei.toNat : Int), .int .u8 (en.toNat : Int), .bool d, .int .i64 f, .bool sg, .int .i64 m, .int .i64 b, .int .i64 k1, .int .i64 k2, .slice A n cp, .int .u8 (mx.toNat : Int), .int .u8 (r0.toNat : Int), .int .u8 (r1.toNat : Int), .int .u8 (r2.toNat : Int), .int .u8 (r3.toNat : Int), .int .u8 (r4.toNat : Int), .int .u8 (r5.toNat : Int), .int .u8 (hl.toNat : Int), .int .u8 (hu.toNat : Int), .int .u16 (st : Int), .int .u16 (av : Int), .int .u16 (dv : Int), .bool on, .int .i64 sm] 32)) w.heap.size ⟨nu, ty, un, nm, ei, en, d, ⟨f, sg, m, b, k1, k2, p⟩, mx, r0, r1, r2, r3, r4, r5, hl, hu, st, av, dv, on, sm⟩ (.slice A n cp) := Bx.new
  have H1 := Lib.hid fun (u : World) => zero_p f m b k1 k2 sg A n cp u
  generalize (decide (f = 0) && (!sg && (decide (m = 0) && (decide (b = 0) && (decide (k1 = 0) && (decide (k2 = 0) && decide (n = 0))))))) = b1 at *
  obtain ⟨b2, hb2⟩ : ∃ b2, b2 = nolim mx r0 r1 r2 r3 r4 r5 := ⟨_, rfl⟩
  have H2 : Hid (∀ W : World, (binOp .eql 29 (.agg #[.int .u8 (mx.toNat : Int), .int .u8 (r0.toNat : Int), .int .u8 (r1.toNat : Int), .int .u8 (r2.toNat : Int), .int .u8 (r3.toNat : Int), .int .u8 (r4.toNat : Int), .int .u8 (r5.toNat : Int)]) (.agg #[.int .u8 0, .int .u8 0, .int .u8 0, .int .u8 0, .int .u8 0, .int .u8 0, .int .u8 0])).run Try.prog W = .ok (.bool b2) W) := Lib.hid fun (W : World) => by have := th_eql W mx r0 r1 r2 r3 r4 r5 0 0 0 0 0 0 0; rw [show decide (mx = 0 ∧ r0 = 0 ∧ r1 = 0 ∧ r2 = 0 ∧ r3 = 0 ∧ r4 = 0 ∧ r5 = 0) = b2 from hb2.symm] at this; exact this
  obtain ⟨b4, hb4⟩ : ∃ b4, b4 = inm av st := ⟨_, rfl⟩
  obtain ⟨b5, hb5⟩ : ∃ b5, b5 = inm dv st := ⟨_, rfl⟩
  have H4 := Lib.hid fun (u : World) => by have := within_p av st u; rw [← hb4] at this; exact this
  have H5 := Lib.hid fun (u : World) => by have := within_p dv st u; rw [← hb5] at this; exact this
  rw [← hb2, ← hb4, ← hb5] at hR
  have HR := Lib.hid hR
  clear hb2 hb4 hb5 hR hsl
  go_enter Try.func95, Try.ntmps95
  go_wp2_with fail
  refine (H1.out _).mono ?_
  rintro e w2 ⟨rfl, hb2⟩
  have hx2 := hx0.below hb2
  have hbb := hb0.trans (hb2.mono hb0.size)
  clear hx0 hb0 hb2 H1
  cases b1
  · have hf : R = false := HR.out
    subst hf
    go_wp2_with fail
    go_ret
    exact ⟨rfl, hbb⟩
  obtain ⟨z0, z1, z2, z3, z4, z5, z6, z7, z8, z9, z10, z11, z12, z13, z14, z15, z16, z17, z18, z19, z20, z21, z22, z23, z24, z25, z26, z27⟩ := hx2.all
  have hq := fun W => H2.out W
  have hg : ∀ W x y, (eqGuard .eql 29 x y (.agg #[.int .u8 (mx.toNat : Int), .int .u8 (r0.toNat : Int), .int .u8 (r1.toNat : Int), .int .u8 (r2.toNat : Int), .int .u8 (r3.toNat : Int), .int .u8 (r4.toNat : Int), .int .u8 (r5.toNat : Int)]) (.agg #[.int .u8 0, .int .u8 0, .int .u8 0, .int .u8 0, .int .u8 0, .int .u8 0, .int .u8 0])).run Try.prog W = .ok () W := fun W x y => th_guard W x y mx r0 r1 r2 r3 r4 r5 0 0 0 0 0 0 0
  cases b2
  · have hf : R = false := HR.out
    subst hf
    go_wp2_with fail
    go_ret
    exact ⟨rfl, hbb⟩
  by_cases h1 : hl = 0
  case neg =>
    have hf : R = false := by rw [HR.out, decide_eq_false h1]; rfl
    subst hf
    have hk : ((hl.toNat : Int) == 0) = false := by rw [beq_eq_false_iff_ne]; intro h; exact h1 (UInt8.toNat_inj.1 (by rw [show (0 : UInt8).toNat = 0 from rfl]; omega))
    go_wp2_with fail
    go_ret
    exact ⟨rfl, hbb⟩
  by_cases h2 : hu = 0
  case neg =>
    have hf : R = false := by rw [HR.out, h1, decide_eq_false h2]; rfl
    subst hf h1
    have hk : ((hu.toNat : Int) == 0) = false := by rw [beq_eq_false_iff_ne]; intro h; exact h2 (UInt8.toNat_inj.1 (by rw [show (0 : UInt8).toNat = 0 from rfl]; omega))
    go_wp2_with fail
    go_ret
    exact ⟨rfl, hbb⟩
  by_cases h3 : sm = 1
  case neg =>
    have hf : R = false := by rw [HR.out, h1, h2, decide_eq_false h3]; rfl
    subst hf h1 h2
    have hk : (sm == 1) = false := by rw [beq_eq_false_iff_ne]; exact h3
    go_wp2_with fail
    go_ret
    exact ⟨rfl, hbb⟩
  by_cases h4 : st ≤ 32767
  case neg =>
    have hf : R = false := by rw [HR.out, h1, h2, h3, decide_eq_false h4]; rfl
    subst hf h1 h2 h3
    have hk : decide ((st : Int) ≤ 32767) = false := by simp; omega
    have hk2 : 32767 < (st : Int) := by omega
    go_wp2_with fail
    go_ret
    exact ⟨rfl, hbb⟩
  have hf : R = (b4 && b5) := by rw [HR.out, h1, h2, h3, decide_eq_true h4]; rfl
  have hk : decide ((st : Int) ≤ 32767) = true := by simp; omega
  subst hf h1 h2 h3
  clear HR
  go_wp2_with fail
  refine (H4.out _).mono ?_
  rintro e w4 ⟨rfl, rfl⟩
  cases b4
  · go_wp2_with fail
    go_ret
    exact ⟨rfl, hbb⟩
  go_wp2_with fail
  refine (H5.out _).mono ?_
  rintro e w4 ⟨rfl, rfl⟩
  go_wp2_with fail
  all_goals
    go_ret
    exact ⟨rfl, hbb⟩
end Go.Proofs.Ytekhpcfggbegaaa.Tb
