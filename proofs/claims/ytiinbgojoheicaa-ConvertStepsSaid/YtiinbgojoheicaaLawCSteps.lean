/- ConvertSteps holds for every input: linear values grow by the same step, unless they are clamped; the value of 0. No condition. -/
import Derived.Test.YtiinbgojoheicaaAw4
import Derived.Test.YtiinbgojoheicaaLaw4
namespace Go.Proofs.Ytiinbgojoheicaa.convertSteps
open Go.RowKit Go.ChangeShapes Go.WideShapes Go.ChangeAt Go.Proofs.Ytiinbgojoheicaa.Mem Go.Proofs.Ytiinbgojoheicaa.M3p Go.Proofs.Ytiinbgojoheicaa.C4p Go.Proofs.Ytiinbgojoheicaa.C4l Go.Proofs.Ytiinbgojoheicaa.C4v Go.Proofs.Ytiinbgojoheicaa.P4 Go.Proofs.Ytiinbgojoheicaa.D5 Go.Proofs.Ytiinbgojoheicaa.Aw4 Go.Proofs.Ytiinbgojoheicaa.Made Go.Proofs.Ytiinbgojoheicaa.Law
set_option maxRecDepth 100000
set_option maxHeartbeats 4000000

theorem ten_succ (k : Nat) : ten ((k : Int) + 1) = 10 * ten (k : Int) := by
  unfold ten
  rw [show ((k : Int) + 1).toNat = k + 1 by omega, Int.toNat_natCast, Int.pow_succ]
  omega
theorem walk (A : Option Addr) (n c : Nat) (l : List Int) (hn : n = l.length) (hw : ∀ x ∈ l, -9223372036854775808 ≤ x ∧ x ≤ 9223372036854775807) (hc : n ≤ c) (hm : c ≤ maxLen) (_hA : A = none → c = 0)
    (y : Int) (hy : -9223372036854775808 ≤ y ∧ y ≤ 9223372036854775807)
    (w : World) (hr : IRow w.heap.size w A l) :
    Calls Try.prog 8 #[.slice A n c, .int .i64 y] w fun e w' => e = .returned (.bool true) ∧ Below w.heap.size w w' := by
  have hnm : n ≤ maxLen := by omega
  have HN := Lib.hid hn
  have HW := Lib.hid hw
  clear hn hw hc hm _hA
  have haw := Lib.hid (fun u => awake_any u)
  by_cases h6 : n ≤ 600
  case neg =>
    have d6 : decide (n ≤ 600) = false := decide_eq_false h6
    go_enter Try.func8, Try.ntmps8
    go_wp2_with fail
    refine (lightmade_any A n c _ hnm).mono ?_
    rintro e w' ⟨rfl, rfl⟩
    rw [d6]
    go_wp2_with fail
    refine (haw.out _).mono ?_
    rintro e w3 ⟨rfl, hb3⟩
    go_wp2_with fail
    go_ret
    exact ⟨rfl, hb3⟩
  have d6 : decide (n ≤ 600) = true := decide_eq_true h6
  go_enter Try.func8, Try.ntmps8
  go_wp2_with fail
  refine (lightmade_any A n c _ hnm).mono ?_
  rintro e w' ⟨rfl, rfl⟩
  rw [d6]
  go_wp2_with fail
  refine (roll_any A n c w).mono ?_
  rintro e w1 ⟨rfl, rfl⟩
  obtain ⟨hdz, hb1⟩ := irow_light (c := c) HN.out hr HW.out h6
  go_wp2_with fail
  refine (conv_go hdz hb1 (Nat.le_refl _)).mono ?_
  rintro e wc ⟨f, m, b, k1, k2, s, A', n', c', p, rfl, hv, hsl, hd, hbc, -⟩
  clear d6 h6 hdz hb1 hr hnm HN HW

  by_cases h5 : f = 5
  · subst h5
    go_wp2_with fail
    refine (haw.out _).mono ?_
    rintro e w3 ⟨rfl, hb3⟩
    go_wp2_with fail
    go_ret
    exact ⟨rfl, hbc.trans (((Below.refl wc.heap.size wc).alloc (Nat.le_refl _) _ |>.trans (hb3.mono (by simp))).mono hbc.size)⟩
  have hne : (f == 5) = false := by rw [beq_eq_false_iff_ne]; exact h5
  obtain ⟨⟨f1, f4⟩, ⟨m1, m2, b1, b2, g1, g2, g3, g4⟩, -⟩ := vld_lin hv h5
  dsimp only at f1 f4 m1 m2 b1 b2 g1 g2 g3 g4
  have hv1 := vld_form (c := ⟨f, s, m, b, k1, k2, p⟩) (f := 1) hv h5 (by omega) (by omega)
  dsimp only at hv1
  have hcb0 := Cb.new wc (.int .i64 1) (.bool s) (.int .i64 m) (.int .i64 b) (.int .i64 k1) (.int .i64 k2) (.slice A' n' c')
  obtain ⟨c0, c1, c2, c3, c4, c5, c6⟩ := hcb0.cells
  obtain ⟨N1, hN1⟩ : ∃ N : Nat, 6 + k2 = (N : Int) := ⟨(6 + k2).toNat, by omega⟩
  obtain ⟨N2, hN2⟩ : ∃ N : Nat, 6 + k1 + k2 = (N : Int) := ⟨(6 + k1 + k2).toNat, by omega⟩
  have hN1b : N1 ≤ 9 := by omega
  have hN2b : N2 ≤ 12 := by omega
  have htn1 : ∀ k : Nat, k ≤ 9 → 1 ≤ ten (k : Int) ∧ ten (k : Int) ≤ 1000000000 := fun k hk => ten_in9 (by omega) (by omega)
  have htn2 : ∀ k : Nat, k ≤ 12 → 1 ≤ ten (k : Int) ∧ ten (k : Int) ≤ 1000000000000 := fun k hk => ten_in (by omega) (by omega)
  have HT1 := Lib.hid htn1
  have HT2 := Lib.hid htn2
  have HN1 := Lib.hid hN1
  have HN2 := Lib.hid hN2
  have h61 : 6 + k1 = (N2 : Int) - k2 := by omega
  clear htn1 htn2 h5 hv
  have HCB := Lib.hid hcb0
  go_wp2_with fail
  go_quiet (fail)
  all_goals go_wp2_with fail
  have hcb1 : Cb wc ((wc.alloc (.cells #[.int .i64 1, .bool s, .int .i64 m, .int .i64 b, .int .i64 k1, .int .i64 k2, .slice A' n' c'] 24)).drewN nq) (.int .i64 1) (.bool s) (.int .i64 m) (.int .i64 b) (.int .i64 k1) (.int .i64 k2) (.slice A' n' c') := ⟨hcb0.1, ⟨hcb0.2.os, hcb0.2.tape, hcb0.2.output, hcb0.2.size, hcb0.2.block⟩⟩
  generalize (wc.alloc (.cells #[.int .i64 1, .bool s, .int .i64 m, .int .i64 b, .int .i64 k1, .int .i64 k2, .slice A' n' c'] 24)).drewN nq = W1 at *
  clear hcb0 HCB c0 c1 c2 c3 c4 c5 c6
  obtain ⟨c0, c1, c2, c3, c4, c5, c6⟩ := hcb1.cells
  go_loop [6, 8] (fun v6 v8 => ∃ (k : Nat) (X : Int), k ≤ N1 ∧ v8 = .int .i64 (k : Int) ∧ v6 = .int .i64 X ∧ X = m * ten (k : Int)) (fun _ v8 => N1 - (intOf v8).toNat)
  case atStart => exact ⟨0, m, Nat.zero_le _, rfl, rfl, by show m = m * 10 ^ 0; omega⟩
  case round =>
    obtain ⟨k, X, hk, rfl, rfl, hX⟩ := hrel
    obtain ⟨t1, t2⟩ := HT1.out k (by omega)
    obtain ⟨x1, x2⟩ := mul_le (a := m) (b := ten (k : Int)) (c := 512) (d := 1000000000) (by omega) (by omega) (by omega) (by omega)
    rw [← hX] at x1 x2
    have HX := Lib.hid hX
    clear hX t1 t2
    by_cases hlt : k < N1
    · go_wp2_with fail
      refine ⟨⟨k + 1, 10 * X, by omega, by go_num, rfl, ?_⟩, by simp [intOf]; omega⟩
      rw [HX.out, show (((k + 1 : Nat)) : Int) = (k : Int) + 1 by omega, ten_succ, Int.mul_left_comm]
    · obtain rfl : k = N1 := by omega
      go_wp2_with fail
      go_loop [7, 9] (fun v7 v9 => ∃ (j : Nat) (Y : Int), j ≤ N2 ∧ v9 = .int .i64 (j : Int) ∧ v7 = .int .i64 Y ∧ Y = b * ten (j : Int)) (fun _ v9 => N2 - (intOf v9).toNat)
      case atStart => exact ⟨0, b, Nat.zero_le _, rfl, rfl, by show b = b * 10 ^ 0; omega⟩
      case round =>
        obtain ⟨j, Y, hj, rfl, rfl, hY⟩ := hrel
        obtain ⟨t1, t2⟩ := HT2.out j (by omega)
        obtain ⟨z1, z2⟩ := mul_le (a := b) (b := ten (j : Int)) (c := 512) (d := 1000000000000) (by omega) (by omega) (by omega) (by omega)
        rw [← hY] at z1 z2
        have HY := Lib.hid hY
        clear hY t1 t2
        by_cases hlt2 : j < N2
        · go_wp2_with fail
          refine ⟨⟨j + 1, 10 * Y, by omega, by go_num, rfl, ?_⟩, by simp [intOf]; omega⟩
          rw [HY.out, show (((j + 1 : Nat)) : Int) = (j : Int) + 1 by omega, ten_succ, Int.mul_left_comm]
        · obtain rfl : j = N2 := by omega
          obtain ⟨L, hL⟩ : ∃ L, L = least s := ⟨_, rfl⟩
          have hL2 := least_b s
          rw [← hL] at hL2
          have HLE := Lib.hid (fun u => by have := least_r s u; rw [← hL] at this; exact this)
          have HL := Lib.hid hL
          clear hL
          go_wp2_with fail
          refine (HLE.out _).mono ?_
          rintro e w' ⟨rfl, rfl⟩
          go_wp2_with fail
          refine (mod_at y 255 255 _ rfl hy.1 hy.2 (by omega) (by omega)).mono ?_
          rintro e w' ⟨i, hi, rfl, rfl⟩
          obtain ⟨q1, hq1⟩ : ∃ q, q = rawOf (L + i) := ⟨_, rfl⟩
          obtain ⟨q2, hq2⟩ : ∃ q, q = rawOf (L + i + 1) := ⟨_, rfl⟩
          have n1 : num s q1 = L + i := by rw [hq1]; exact num_raw (by rw [← HL.out]; omega) (by rw [← HL.out]; omega)
          have n2 : num s q2 = L + i + 1 := by rw [hq2]; exact num_raw (by rw [← HL.out]; omega) (by rw [← HL.out]; omega)
          have vl : ∀ q, value ⟨1, s, m, b, k1, k2, p⟩ q = (lin ⟨1, s, m, b, k1, k2, p⟩ (num s q), 0) := by
            intro q
            unfold value
            rw [if_pos hv1]
            exact (forms _ _).1 rfl
          have n0 : num s 0 = 0 := by cases s <;> rfl
          obtain ⟨a1, ha1⟩ : ∃ a, a = lin ⟨1, s, m, b, k1, k2, p⟩ (L + i) := ⟨_, rfl⟩
          obtain ⟨a2, ha2⟩ : ∃ a, a = lin ⟨1, s, m, b, k1, k2, p⟩ (L + i + 1) := ⟨_, rfl⟩
          have v0 : value ⟨1, s, m, b, k1, k2, p⟩ 0 = (clp Y, 0) := by rw [vl, n0, lin_zero, HY.out]; show (clp (b * ten (6 + k1 + k2)), (0 : Int)) = _; rw [HN2.out]
          have e1 : value ⟨1, s, m, b, k1, k2, p⟩ q1 = (a1, 0) := by rw [vl, n1, ha1]
          have e2 : value ⟨1, s, m, b, k1, k2, p⟩ q2 = (a2, 0) := by rw [vl, n2, ha2]
          have l1 : -lim ≤ a1 ∧ a1 ≤ lim := by rw [ha1]; exact lin_in _ _
          have l2 : -lim ≤ a2 ∧ a2 ≤ lim := by rw [ha2]; exact lin_in _ _
          have stp : -lim < a1 → a1 < lim → -lim < a2 → a2 < lim → a2 - a1 = X := by
            intro h1 h2 h3 h4
            rw [ha1] at h1 h2
            rw [ha2] at h3 h4
            rw [ha1, ha2, lin_step h1 h2 h3 h4, HX.out]
            show m * ten (6 + k2) = _
            rw [HN1.out]
          unfold lim at l1 l2 stp
          have STP := Lib.hid stp
          have HRA := Lib.hid (fun u => by have := raw_r (L + i) u (by omega) (by omega); rw [← hq1] at this; exact this)
          have HRB := Lib.hid (fun u => by have := raw_r (L + i + 1) u (by omega) (by omega); rw [← hq2] at this; rw [show L + (i : Int) + 1 = IntKind.i64.wrap (L + (i : Int) + 1) by rw [IntKind.wrap_i64]; omega] at this; exact this)
          have C1 := Lib.hid (fun u hu => by have := value_p 1 m b k1 k2 s A' n' c' p q1 u hu; rw [e1] at this; exact this)
          have C2 := Lib.hid (fun u hu => by have := value_p 1 m b k1 k2 s A' n' c' p q2 u hu; rw [e2] at this; exact this)
          have C3 := Lib.hid (fun u hu => by have := value_p 1 m b k1 k2 s A' n' c' p 0 u hu; rw [v0] at this; exact this)
          have HCL := Lib.hid (fun u => M3r.clamp_r Y u)
          clear ha1 ha2 v0 e1 e2 vl n0 n1 n2 hq1 hq2 stp hv1
          have hcbd : Cb wc W1.drew (.int .i64 1) (.bool s) (.int .i64 m) (.int .i64 b) (.int .i64 k1) (.int .i64 k2) (.slice A' n' c') := ⟨hcb1.1, ⟨hcb1.2.os, hcb1.2.tape, hcb1.2.output, hcb1.2.size, hcb1.2.block⟩⟩
          have hs1 := hcbd.sl hsl
          have KP := Lib.hid (fun u (hu : Cb wc u (.int .i64 1) (.bool s) (.int .i64 m) (.int .i64 b) (.int .i64 k1) (.int .i64 k2) (.slice A' n' c')) => hu.cells)
          have hkd := KP.out _ hcbd
          go_wp2_with fail
          go_region_held3 (fun w' => w'.cell? ⟨wc.heap.size, 0, none⟩ = some (.int .i64 1) ∧ w'.cell? ⟨wc.heap.size, 1, none⟩ = some (.bool s) ∧ w'.cell? ⟨wc.heap.size, 2, none⟩ = some (.int .i64 m) ∧ w'.cell? ⟨wc.heap.size, 3, none⟩ = some (.int .i64 b) ∧ w'.cell? ⟨wc.heap.size, 4, none⟩ = some (.int .i64 k1) ∧ w'.cell? ⟨wc.heap.size, 5, none⟩ = some (.int .i64 k2) ∧ w'.cell? ⟨wc.heap.size, 6, none⟩ = some (.slice A' n' c')) (first | exact hkd | exact hk4 | go_keep)
            (first
              | (go_at_call 38; refine (HRA.out _).mono ?_; rintro e w' ⟨rfl, rfl⟩)
              | (go_at_call 19; refine (C1.out _ hs1).mono ?_; rintro e w4 ⟨rfl, hb4⟩; have hcb4 := hcbd.step hb4; have hk4 := KP.out _ hcb4))
          clear hk4 hb4 hkd
          have hcb4d : Cb wc w4.drew (.int .i64 1) (.bool s) (.int .i64 m) (.int .i64 b) (.int .i64 k1) (.int .i64 k2) (.slice A' n' c') := ⟨hcb4.1, ⟨hcb4.2.os, hcb4.2.tape, hcb4.2.output, hcb4.2.size, hcb4.2.block⟩⟩
          have hs2 := hcb4d.sl hsl
          have hk4a := KP.out _ hcb4
          have hkd2 := KP.out _ hcb4d
          go_wp2_with fail
          go_region_held3 (fun w' => w'.cell? ⟨wc.heap.size, 0, none⟩ = some (.int .i64 1) ∧ w'.cell? ⟨wc.heap.size, 1, none⟩ = some (.bool s) ∧ w'.cell? ⟨wc.heap.size, 2, none⟩ = some (.int .i64 m) ∧ w'.cell? ⟨wc.heap.size, 3, none⟩ = some (.int .i64 b) ∧ w'.cell? ⟨wc.heap.size, 4, none⟩ = some (.int .i64 k1) ∧ w'.cell? ⟨wc.heap.size, 5, none⟩ = some (.int .i64 k2) ∧ w'.cell? ⟨wc.heap.size, 6, none⟩ = some (.slice A' n' c')) (first | exact hkd2 | exact hk5 | exact hk4a | go_keep)
            (first
              | (go_at_call 38; refine (HRB.out _).mono ?_; rintro e w' ⟨rfl, rfl⟩)
              | (go_at_call 19; refine (C2.out _ hs2).mono ?_; rintro e w5 ⟨rfl, hb5⟩; have hcb5 := hcb4d.step hb5; have hk5 := KP.out _ hcb5))
          obtain ⟨e0, e1, e2, e3, e4, e5, e6⟩ := hcb5.cells
          clear hk5 hk4a hkd2 hs2 hcb4d hcb4 hb5 hs1 hcbd
          go_wp2_with fail
          refine (C3.out _ (hcb5.sl hsl)).mono ?_
          rintro e w6 ⟨rfl, hb6⟩
          have hend := Lib.hid ((hcb5.step hb6).all hbc)
          clear e0 e1 e2 e3 e4 e5 e6 hcb5 hb6 hsl
          obtain ⟨Vc, hVc⟩ : ∃ V, V = clp Y := ⟨_, rfl⟩
          rw [← hVc] at HCL ⊢
          clear hVc
          by_cases p1 : a1 = 1000000000000
          · subst p1
            skip
            go_wp2_with (first
              | (go_at_call 39; refine (HCL.out _).mono ?_; rintro e w' ⟨rfl, rfl⟩)
              | (go_at_call 15; refine (haw.out _).mono ?_; rintro e w9 ⟨rfl, hb9⟩))
            all_goals go_ret
            all_goals exact ⟨rfl, hend.out.trans (hb9.mono hend.out.size)⟩
          have p1b : (a1 == (1000000000000 : Int)) = false := by rw [beq_eq_false_iff_ne]; exact p1
          by_cases p2 : a1 = -1000000000000
          · subst p2
            skip
            go_wp2_with (first
              | (go_at_call 39; refine (HCL.out _).mono ?_; rintro e w' ⟨rfl, rfl⟩)
              | (go_at_call 15; refine (haw.out _).mono ?_; rintro e w9 ⟨rfl, hb9⟩))
            all_goals go_ret
            all_goals exact ⟨rfl, hend.out.trans (hb9.mono hend.out.size)⟩
          have p2b : (a1 == (-1000000000000 : Int)) = false := by rw [beq_eq_false_iff_ne]; exact p2
          by_cases p3 : a2 = 1000000000000
          · subst p3
            skip
            go_wp2_with (first
              | (go_at_call 39; refine (HCL.out _).mono ?_; rintro e w' ⟨rfl, rfl⟩)
              | (go_at_call 15; refine (haw.out _).mono ?_; rintro e w9 ⟨rfl, hb9⟩))
            all_goals go_ret
            all_goals exact ⟨rfl, hend.out.trans (hb9.mono hend.out.size)⟩
          have p3b : (a2 == (1000000000000 : Int)) = false := by rw [beq_eq_false_iff_ne]; exact p3
          by_cases p4 : a2 = -1000000000000
          · subst p4
            skip
            go_wp2_with (first
              | (go_at_call 39; refine (HCL.out _).mono ?_; rintro e w' ⟨rfl, rfl⟩)
              | (go_at_call 15; refine (haw.out _).mono ?_; rintro e w9 ⟨rfl, hb9⟩))
            all_goals go_ret
            all_goals exact ⟨rfl, hend.out.trans (hb9.mono hend.out.size)⟩
          have p4b : (a2 == (-1000000000000 : Int)) = false := by rw [beq_eq_false_iff_ne]; exact p4
          have hst := STP.out (by omega) (by omega) (by omega) (by omega)
          clear p1 p2 p3 p4
          skip
          go_wp2_with (first
            | (go_at_call 39; refine (HCL.out _).mono ?_; rintro e w' ⟨rfl, rfl⟩)
            | (go_at_call 15; refine (haw.out _).mono ?_; rintro e w9 ⟨rfl, hb9⟩))
          all_goals go_ret
          all_goals exact ⟨rfl, hend.out.trans (hb9.mono hend.out.size)⟩

theorem cells_u8 : Try.prog.cellsOf 5 = 1 := by kernel_rfl
theorem cells_int : Try.prog.cellsOf 3 = 1 := by kernel_rfl
theorem own : ownKnob Try.prog.godebug = none := by kernel_rfl
theorem laidOut : laidOutB Try.prog = true := by kernel_rfl
theorem contract (H : Type) (enc : TypeId × Value → H) (W : World) (base : Nat) (args : Array Value) (ds gs : List (DataW H)) (before : List MemPlace)
    (hval : ∀ (j : Nat) t v, Try.f8.params[j]? = some t → args[j]? = some v → Value.okWide Try.prog W .any base t v)
    (hW : DataW.Whole enc Try.prog Try.f8.params.toList Rows.convertStepsSpec.vars false W args.toList ds gs before) :
    Calls Try.prog 8 args W fun e W' => ∃ v, e = .returned v ∧ Rows.convertStepsSpec.post enc Try.prog Try.f8 false true false false W args v W' := by
  have hW' := hW
  obtain ⟨p, q, hA0, hV, rfl, hfz, hnd⟩ := hW
  have hA : DataW.TrodAll enc Try.prog W 0 (fun _ => true) true Try.f8.params.toList args.toList ds p := hA0
  rw [Try.params8] at hA hval
  obtain ⟨v0, vs0, d0, ds0, p0, q0, hargs, rfl, rfl, h0, r0⟩ := trodAll_cons hA
  obtain ⟨v1, vs1, d1, ds1, p1, q1, rfl, rfl, rfl, h1, r1⟩ := trodAll_cons r0
  obtain ⟨rfl, rfl, rfl⟩ := trodAll_nil r1
  obtain rfl : args = #[v0, v1] := by cases args; simp_all
  obtain ⟨A0, n0, c0, l0, rfl, hn0, hr0, hw0, hc0, hm0, hk0⟩ := open_int_list Try.underlying25 Try.underlying3 cells_int (hval 0 25 v0 rfl rfl) h0
  obtain ⟨a1, rfl, -, -, w1⟩ := open_int Try.underlying3 (hval 1 3 v1 rfl rfl) h1
  clear hA0
  refine (walk A0 n0 c0 l0 hn0 hw0 hc0 hm0 hk0 a1 (bounds_i64 w1) W hr0).mono fun e W' ⟨he, hb⟩ => ?_
  subst he
  exact ⟨_, rfl, law_post laidOut (types_fit (by kernel_rfl)) (by kernel_rfl) Try.underlying4 rfl (fun xs hx => by
    match xs, hx with
    | [_, _], _ => rfl) hW' hb⟩

theorem lifted (os : Os) (started : os.Started) (H : Type) (enc : TypeId × Value → H) :
    ReturnsInHanded {} Try.checked os 8 .any (Rows.convertStepsSpec.pre6 enc Try.prog Try.f8 Rows.convertStepsRow.domain false) (Rows.convertStepsSpec.post enc Try.prog Try.f8 false true false false) := by
  refine returnsInHanded_of_change (C := Try.checked) own started (by kernel_rfl) Try.func8
    (ChangeSpec.witness6 (enc := enc) (C := Try.checked) false ⟨#[], #[.slice none 0 0, .int .i64 0], []⟩ 8 (by kernel_rfl) (by kernel_rfl) (by kernel_rfl) (by kernel_rfl)) ?_
  intro W base args ds gs before hval hW _ _
  exact contract H enc W base args ds gs before hval hW

theorem proved : Rows.ConvertStepsSaid :=
  OpenClaim.holds_of_wide 8 Try.f8 rfl rfl rfl rfl rfl rfl rfl ⟨rfl, rfl, rfl, rfl, rfl⟩ rfl rfl rfl rfl rfl (by kernel_rfl) Try.func8 (by kernel_rfl)
    (of_decide_eq_true (by kernel_rfl)) (by unfold Func.isWrapper; first | (rw [if_pos (by decide +kernel)]; kernel_rfl) | (rw [if_neg (by decide +kernel)]; exact ⟨rfl, rfl⟩))
    (fun os started H enc _ => lifted os started H enc)
end Go.Proofs.Ytiinbgojoheicaa.convertSteps
