/- ConvertMonotone holds for every input: values follow the direction; a direction of 0 is due to some rise and some fall. No condition. -/
import Derived.Test.YtiinbgojoheicaaAw4
import Derived.Test.YtiinbgojoheicaaLaw4
namespace Go.Proofs.Ytiinbgojoheicaa.convertMonotone
open Go.RowKit Go.ChangeShapes Go.WideShapes Go.ChangeAt Go.Proofs.Ytiinbgojoheicaa.Mem Go.Proofs.Ytiinbgojoheicaa.M3p Go.Proofs.Ytiinbgojoheicaa.C4p Go.Proofs.Ytiinbgojoheicaa.C4l Go.Proofs.Ytiinbgojoheicaa.C4v Go.Proofs.Ytiinbgojoheicaa.P4 Go.Proofs.Ytiinbgojoheicaa.D5 Go.Proofs.Ytiinbgojoheicaa.Aw4 Go.Proofs.Ytiinbgojoheicaa.Made Go.Proofs.Ytiinbgojoheicaa.Law
set_option maxRecDepth 100000
set_option maxHeartbeats 4000000

theorem walk (A : Option Addr) (n c : Nat) (l : List Int) (hn : n = l.length) (hw : ∀ x ∈ l, -9223372036854775808 ≤ x ∧ x ≤ 9223372036854775807) (hc : n ≤ c) (hm : c ≤ maxLen) (_hA : A = none → c = 0)
    (x : Int) (hx : 0 ≤ x ∧ x ≤ 255) (y : Int) (hy : 0 ≤ y ∧ y ≤ 255)
    (w : World) (hr : IRow w.heap.size w A l) :
    Calls Try.prog 11 #[.slice A n c, .int .u8 x, .int .u8 y] w fun e w' => e = .returned (.bool true) ∧ Below w.heap.size w w' := by
  obtain ⟨r, rfl⟩ : ∃ r : UInt8, x = (r.toNat : Int) := ⟨UInt8.ofNat x.toNat, by rw [UInt8.toNat_ofNat']; omega⟩
  obtain ⟨q, rfl⟩ : ∃ r : UInt8, y = (r.toNat : Int) := ⟨UInt8.ofNat y.toNat, by rw [UInt8.toNat_ofNat']; omega⟩
  have hnm : n ≤ maxLen := by omega
  have HN := Lib.hid hn
  have HW := Lib.hid hw
  clear hn hw hc hm _hA
  have haw := Lib.hid (fun u => awake_any u)
  by_cases h6 : n ≤ 600
  case neg =>
    have d6 : decide (n ≤ 600) = false := decide_eq_false h6
    go_enter Try.func11, Try.ntmps11
    go_wp2_with fail
    refine (lightmade_any A n c _ hnm).mono ?_
    rintro e w' ⟨rfl, rfl⟩
    rw [d6]
    go_wp2_with fail
    refine (haw.out _).mono ?_
    rintro e w3 ⟨rfl, hb3⟩
    go_wp2_with fail
    go_ret
    exact ⟨rfl, hb3⟩
  have d6 : decide (n ≤ 600) = true := decide_eq_true h6
  go_enter Try.func11, Try.ntmps11
  go_wp2_with fail
  refine (lightmade_any A n c _ hnm).mono ?_
  rintro e w' ⟨rfl, rfl⟩
  rw [d6]
  go_wp2_with fail
  refine (roll_any A n c w).mono ?_
  rintro e w1 ⟨rfl, rfl⟩
  obtain ⟨hdz, hb1⟩ := irow_light (c := c) HN.out hr HW.out h6
  go_wp2_with fail
  refine (conv_go hdz hb1 (Nat.le_refl _)).mono ?_
  rintro e wc ⟨f, m, b, k1, k2, s, A', n', c', p, rfl, hv, hsl, hd, hbc, -⟩
  clear d6 h6 hdz hb1 hr hnm HN HW

  have d2 : (dir ⟨f, s, m, b, k1, k2, p⟩).2 = 0 := by unfold dir; rw [if_pos hv]; split <;> (try split) <;> rfl
  have d1 : (dir ⟨f, s, m, b, k1, k2, p⟩).1 = 0 ∨ (dir ⟨f, s, m, b, k1, k2, p⟩).1 = 1 ∨ (dir ⟨f, s, m, b, k1, k2, p⟩).1 = -1 := by
    unfold dir
    rw [if_pos hv]
    split
    · exact .inl rfl
    · split
      · exact .inr (.inr rfl)
      · exact .inr (.inl rfl)
  have dl := fun h1 => dir_lin (c := ⟨f, s, m, b, k1, k2, p⟩) hv h1
  have df := fun ha hb hab => dir_follows (c := ⟨f, s, m, b, k1, k2, p⟩) hv (a := r) (b := q) ha hb hab
  obtain ⟨D, hD⟩ : ∃ D, D = (dir ⟨f, s, m, b, k1, k2, p⟩).1 := ⟨_, rfl⟩
  obtain ⟨X, hX⟩ : ∃ D, D = (value ⟨f, s, m, b, k1, k2, p⟩ r).1 := ⟨_, rfl⟩
  obtain ⟨E, hE⟩ : ∃ D, D = (value ⟨f, s, m, b, k1, k2, p⟩ r).2 := ⟨_, rfl⟩
  obtain ⟨Y, hY⟩ : ∃ D, D = (value ⟨f, s, m, b, k1, k2, p⟩ q).1 := ⟨_, rfl⟩
  obtain ⟨G, hG⟩ : ∃ D, D = (value ⟨f, s, m, b, k1, k2, p⟩ q).2 := ⟨_, rfl⟩
  have C0 := Lib.hid (fun u hu => by have := dir_p f m b k1 k2 s A' n' c' p u hu; rw [d2, ← hD] at this; exact this)
  have C1 := Lib.hid (fun u hu => by have := value_p f m b k1 k2 s A' n' c' p r u hu; rw [← hX, ← hE] at this; exact this)
  have C2 := Lib.hid (fun u hu => by have := value_p f m b k1 k2 s A' n' c' p q u hu; rw [← hY, ← hG] at this; exact this)
  have HNU := Lib.hid (fun z u => number_p s z u)
  rw [← hD] at d1 dl df
  rw [← hX, ← hY, ← hE, ← hG] at df
  dsimp only at dl df
  have DL := Lib.hid dl
  have DF := Lib.hid df
  have nb1 := num_b s r
  have nb2 := num_b s q
  clear dl df d2 hD hX hE hY hG hv
  have hcb0 := Cb.new wc (.int .i64 f) (.bool s) (.int .i64 m) (.int .i64 b) (.int .i64 k1) (.int .i64 k2) (.slice A' n' c')
  go_wp2_with fail
  refine (C0.out _ (hcb0.sl hsl)).mono ?_
  rintro e w2 ⟨rfl, hb2⟩
  have hcb1 := hcb0.step hb2
  obtain ⟨g0, g1, g2, g3, g4, g5, g6⟩ := hcb1.cells
  clear hcb0 hb2
  go_wp2_with fail
  refine (C1.out _ (hcb1.sl hsl)).mono ?_
  rintro e w3 ⟨rfl, hb3⟩
  have hcb2 := hcb1.step hb3
  clear g0 g1 g2 g3 g4 g5 g6 hcb1 hb3
  obtain ⟨g0, g1, g2, g3, g4, g5, g6⟩ := hcb2.cells
  go_wp2_with fail
  refine (C2.out _ (hcb2.sl hsl)).mono ?_
  rintro e w4 ⟨rfl, hb4⟩
  have hcb3 := hcb2.step hb4
  clear g0 g1 g2 g3 g4 g5 g6 hcb2 hb4
  obtain ⟨g0, g1, g2, g3, g4, g5, g6⟩ := hcb3.cells
  have hend := Lib.hid (hcb3.all hbc)
  have hdr : ∀ d, Below w.heap.size w (w4.drewN d) := fun d => ⟨hend.out.os, hend.out.tape, hend.out.output, hend.out.size, hend.out.block⟩
  have HDR := Lib.hid hdr
  clear hcb3 hsl hd hdr
  by_cases f1 : f = 1
  case neg =>
    have f1b : (f == 1) = false := by rw [beq_eq_false_iff_ne]; exact f1
    by_cases hE0 : E = 0
    case neg =>
      have e0 : (E != 0) = true := by rw [bne_iff_ne]; exact hE0
      clear hE0
      rcases d1 with d1 | d1 | d1 <;> subst d1
      all_goals
        first
        | (exfalso; simp at z3; done)
        | (exfalso; omega)
        | (go_wp2_with fail
           go_quiet (fail)
           all_goals go_wp2_with fail
           all_goals (refine (haw.out _).mono ?_; rintro e w6 ⟨rfl, hb6⟩)
           all_goals go_wp2_with fail
           all_goals go_ret
           all_goals exact ⟨rfl, (HDR.out _).trans (hb6.mono (HDR.out 0).size)⟩)
    case pos =>
      subst hE0
      by_cases hG0 : G = 0
      case neg =>
        have e0 : (G != 0) = true := by rw [bne_iff_ne]; exact hG0
        clear hG0
        rcases d1 with d1 | d1 | d1 <;> subst d1
        all_goals
          first
          | (exfalso; simp at z3; done)
          | (exfalso; omega)
          | (go_wp2_with fail
             go_quiet (fail)
             all_goals go_wp2_with fail
             all_goals (refine (haw.out _).mono ?_; rintro e w6 ⟨rfl, hb6⟩)
             all_goals go_wp2_with fail
             all_goals go_ret
             all_goals exact ⟨rfl, (HDR.out _).trans (hb6.mono (HDR.out 0).size)⟩)
      case pos =>
        subst hG0
        by_cases hnum : num s r ≤ num s q
        case neg =>
          have hgt : num s q < num s r := by omega
          rcases d1 with d1 | d1 | d1 <;> subst d1
          all_goals
            first
            | (exfalso; simp at z3; done)
            | (exfalso; omega)
            | (go_wp2_with fail
               go_quiet ((go_at_call 23; exact quiet_same (HNU.out _ _)))
               all_goals go_wp2_with fail
               all_goals (refine (haw.out _).mono ?_; rintro e w6 ⟨rfl, hb6⟩)
               all_goals go_wp2_with fail
               all_goals go_ret
               all_goals exact ⟨rfl, (HDR.out _).trans (hb6.mono (HDR.out 0).size)⟩)
        case pos =>
          have hgt : ¬ num s q < num s r := by omega
          obtain ⟨u1, u2⟩ := DF.out rfl rfl hnum
          rcases d1 with d1 | d1 | d1 <;> subst d1
          all_goals
            try have u3 := u1 rfl
            try have u3 := u2 rfl
            clear u1 u2
            first
            | (exfalso; simp at z3; done)
            | (exfalso; omega)
            | (go_wp2_with fail
               go_quiet ((go_at_call 23; exact quiet_same (HNU.out _ _)))
               all_goals go_wp2_with (go_at_call 15; refine (haw.out _).mono ?_; rintro e w6 ⟨rfl, hb6⟩)
               all_goals go_ret
               all_goals exact ⟨rfl, (HDR.out _).trans (hb6.mono (HDR.out 0).size)⟩)
  case pos =>
    subst f1
    obtain ⟨-, z1, z2⟩ := DL.out rfl
    by_cases m0 : 0 ≤ m
    · have D1 := z2 m0
      clear z2 z1
      by_cases hE0 : E = 0
      case neg =>
        have e0 : (E != 0) = true := by rw [bne_iff_ne]; exact hE0
        clear hE0
        rcases d1 with d1 | d1 | d1 <;> subst d1
        all_goals
          first
          | (exfalso; simp at z3; done)
          | (exfalso; omega)
          | (go_wp2_with fail
             go_quiet (fail)
             all_goals go_wp2_with fail
             all_goals (refine (haw.out _).mono ?_; rintro e w6 ⟨rfl, hb6⟩)
             all_goals go_wp2_with fail
             all_goals go_ret
             all_goals exact ⟨rfl, (HDR.out _).trans (hb6.mono (HDR.out 0).size)⟩)
      case pos =>
        subst hE0
        by_cases hG0 : G = 0
        case neg =>
          have e0 : (G != 0) = true := by rw [bne_iff_ne]; exact hG0
          clear hG0
          rcases d1 with d1 | d1 | d1 <;> subst d1
          all_goals
            first
            | (exfalso; simp at z3; done)
            | (exfalso; omega)
            | (go_wp2_with fail
               go_quiet (fail)
               all_goals go_wp2_with fail
               all_goals (refine (haw.out _).mono ?_; rintro e w6 ⟨rfl, hb6⟩)
               all_goals go_wp2_with fail
               all_goals go_ret
               all_goals exact ⟨rfl, (HDR.out _).trans (hb6.mono (HDR.out 0).size)⟩)
        case pos =>
          subst hG0
          by_cases hnum : num s r ≤ num s q
          case neg =>
            have hgt : num s q < num s r := by omega
            rcases d1 with d1 | d1 | d1 <;> subst d1
            all_goals
              first
              | (exfalso; simp at z3; done)
              | (exfalso; omega)
              | (go_wp2_with fail
                 go_quiet ((go_at_call 23; exact quiet_same (HNU.out _ _)))
                 all_goals go_wp2_with fail
                 all_goals (refine (haw.out _).mono ?_; rintro e w6 ⟨rfl, hb6⟩)
                 all_goals go_wp2_with fail
                 all_goals go_ret
                 all_goals exact ⟨rfl, (HDR.out _).trans (hb6.mono (HDR.out 0).size)⟩)
          case pos =>
            have hgt : ¬ num s q < num s r := by omega
            obtain ⟨u1, u2⟩ := DF.out rfl rfl hnum
            rcases d1 with d1 | d1 | d1 <;> subst d1
            all_goals
              try have u3 := u1 rfl
              try have u3 := u2 rfl
              clear u1 u2
              first
              | (exfalso; simp at z3; done)
              | (exfalso; omega)
              | (go_wp2_with fail
                 go_quiet ((go_at_call 23; exact quiet_same (HNU.out _ _)))
                 all_goals go_wp2_with (go_at_call 15; refine (haw.out _).mono ?_; rintro e w6 ⟨rfl, hb6⟩)
                 all_goals go_ret
                 all_goals exact ⟨rfl, (HDR.out _).trans (hb6.mono (HDR.out 0).size)⟩)
    · have z3 : (D == 0) = false := by rw [beq_eq_false_iff_ne]; exact z1
      clear z2 z1
      by_cases hE0 : E = 0
      case neg =>
        have e0 : (E != 0) = true := by rw [bne_iff_ne]; exact hE0
        clear hE0
        rcases d1 with d1 | d1 | d1 <;> subst d1
        all_goals
          first
          | (exfalso; simp at z3; done)
          | (exfalso; omega)
          | (go_wp2_with fail
             go_quiet (fail)
             all_goals go_wp2_with fail
             all_goals (refine (haw.out _).mono ?_; rintro e w6 ⟨rfl, hb6⟩)
             all_goals go_wp2_with fail
             all_goals go_ret
             all_goals exact ⟨rfl, (HDR.out _).trans (hb6.mono (HDR.out 0).size)⟩)
      case pos =>
        subst hE0
        by_cases hG0 : G = 0
        case neg =>
          have e0 : (G != 0) = true := by rw [bne_iff_ne]; exact hG0
          clear hG0
          rcases d1 with d1 | d1 | d1 <;> subst d1
          all_goals
            first
            | (exfalso; simp at z3; done)
            | (exfalso; omega)
            | (go_wp2_with fail
               go_quiet (fail)
               all_goals go_wp2_with fail
               all_goals (refine (haw.out _).mono ?_; rintro e w6 ⟨rfl, hb6⟩)
               all_goals go_wp2_with fail
               all_goals go_ret
               all_goals exact ⟨rfl, (HDR.out _).trans (hb6.mono (HDR.out 0).size)⟩)
        case pos =>
          subst hG0
          by_cases hnum : num s r ≤ num s q
          case neg =>
            have hgt : num s q < num s r := by omega
            rcases d1 with d1 | d1 | d1 <;> subst d1
            all_goals
              first
              | (exfalso; simp at z3; done)
              | (exfalso; omega)
              | (go_wp2_with fail
                 go_quiet ((go_at_call 23; exact quiet_same (HNU.out _ _)))
                 all_goals go_wp2_with fail
                 all_goals (refine (haw.out _).mono ?_; rintro e w6 ⟨rfl, hb6⟩)
                 all_goals go_wp2_with fail
                 all_goals go_ret
                 all_goals exact ⟨rfl, (HDR.out _).trans (hb6.mono (HDR.out 0).size)⟩)
          case pos =>
            have hgt : ¬ num s q < num s r := by omega
            obtain ⟨u1, u2⟩ := DF.out rfl rfl hnum
            rcases d1 with d1 | d1 | d1 <;> subst d1
            all_goals
              try have u3 := u1 rfl
              try have u3 := u2 rfl
              clear u1 u2
              first
              | (exfalso; simp at z3; done)
              | (exfalso; omega)
              | (go_wp2_with fail
                 go_quiet ((go_at_call 23; exact quiet_same (HNU.out _ _)))
                 all_goals go_wp2_with (go_at_call 15; refine (haw.out _).mono ?_; rintro e w6 ⟨rfl, hb6⟩)
                 all_goals go_ret
                 all_goals exact ⟨rfl, (HDR.out _).trans (hb6.mono (HDR.out 0).size)⟩)

theorem cells_u8 : Try.prog.cellsOf 5 = 1 := by kernel_rfl
theorem cells_int : Try.prog.cellsOf 3 = 1 := by kernel_rfl
theorem own : ownKnob Try.prog.godebug = none := by kernel_rfl
theorem laidOut : laidOutB Try.prog = true := by kernel_rfl
theorem contract (H : Type) (enc : TypeId × Value → H) (W : World) (base : Nat) (args : Array Value) (ds gs : List (DataW H)) (before : List MemPlace)
    (hval : ∀ (j : Nat) t v, Try.f11.params[j]? = some t → args[j]? = some v → Value.okWide Try.prog W .any base t v)
    (hW : DataW.Whole enc Try.prog Try.f11.params.toList Rows.convertMonotoneSpec.vars false W args.toList ds gs before) :
    Calls Try.prog 11 args W fun e W' => ∃ v, e = .returned v ∧ Rows.convertMonotoneSpec.post enc Try.prog Try.f11 false true false false W args v W' := by
  have hW' := hW
  obtain ⟨p, q, hA0, hV, rfl, hfz, hnd⟩ := hW
  have hA : DataW.TrodAll enc Try.prog W 0 (fun _ => true) true Try.f11.params.toList args.toList ds p := hA0
  rw [Try.params11] at hA hval
  obtain ⟨v0, vs0, d0, ds0, p0, q0, hargs, rfl, rfl, h0, r0⟩ := trodAll_cons hA
  obtain ⟨v1, vs1, d1, ds1, p1, q1, rfl, rfl, rfl, h1, r1⟩ := trodAll_cons r0
  obtain ⟨v2, vs2, d2, ds2, p2, q2, rfl, rfl, rfl, h2, r2⟩ := trodAll_cons r1
  obtain ⟨rfl, rfl, rfl⟩ := trodAll_nil r2
  obtain rfl : args = #[v0, v1, v2] := by cases args; simp_all
  obtain ⟨A0, n0, c0, l0, rfl, hn0, hr0, hw0, hc0, hm0, hk0⟩ := open_int_list Try.underlying25 Try.underlying3 cells_int (hval 0 25 v0 rfl rfl) h0
  obtain ⟨a1, rfl, -, -, w1⟩ := open_int Try.underlying5 (hval 1 5 v1 rfl rfl) h1
  obtain ⟨a2, rfl, -, -, w2⟩ := open_int Try.underlying5 (hval 2 5 v2 rfl rfl) h2
  clear hA0
  refine (walk A0 n0 c0 l0 hn0 hw0 hc0 hm0 hk0 a1 (bounds_u8 w1) a2 (bounds_u8 w2) W hr0).mono fun e W' ⟨he, hb⟩ => ?_
  subst he
  exact ⟨_, rfl, law_post laidOut (types_fit (by kernel_rfl)) (by kernel_rfl) Try.underlying4 rfl (fun xs hx => by
    match xs, hx with
    | [_, _, _], _ => rfl) hW' hb⟩

theorem lifted (os : Os) (started : os.Started) (H : Type) (enc : TypeId × Value → H) :
    ReturnsInHanded {} Try.checked os 11 .any (Rows.convertMonotoneSpec.pre6 enc Try.prog Try.f11 Rows.convertMonotoneRow.domain false) (Rows.convertMonotoneSpec.post enc Try.prog Try.f11 false true false false) := by
  refine returnsInHanded_of_change (C := Try.checked) own started (by kernel_rfl) Try.func11
    (ChangeSpec.witness6 (enc := enc) (C := Try.checked) false ⟨#[], #[.slice none 0 0, .int .u8 0, .int .u8 0], []⟩ 8 (by kernel_rfl) (by kernel_rfl) (by kernel_rfl) (by kernel_rfl)) ?_
  intro W base args ds gs before hval hW _ _
  exact contract H enc W base args ds gs before hval hW

theorem proved : Rows.ConvertMonotoneSaid :=
  OpenClaim.holds_of_wide 11 Try.f11 rfl rfl rfl rfl rfl rfl rfl ⟨rfl, rfl, rfl, rfl, rfl⟩ rfl rfl rfl rfl rfl (by kernel_rfl) Try.func11 (by kernel_rfl)
    (of_decide_eq_true (by kernel_rfl)) (by unfold Func.isWrapper; first | (rw [if_pos (by decide +kernel)]; kernel_rfl) | (rw [if_neg (by decide +kernel)]; exact ⟨rfl, rfl⟩))
    (fun os started H enc _ => lifted os started H enc)
end Go.Proofs.Ytiinbgojoheicaa.convertMonotone
