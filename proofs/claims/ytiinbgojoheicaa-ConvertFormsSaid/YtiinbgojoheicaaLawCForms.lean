/- ConvertForms holds for every input: when squares, roots and reciprocals have a value, by the linear value. No condition. -/
import Derived.Test.YtiinbgojoheicaaAw4
import Derived.Test.YtiinbgojoheicaaLaw4
namespace Go.Proofs.Ytiinbgojoheicaa.convertForms
open Go.RowKit Go.ChangeShapes Go.WideShapes Go.ChangeAt Go.Proofs.Ytiinbgojoheicaa.Mem Go.Proofs.Ytiinbgojoheicaa.M3p Go.Proofs.Ytiinbgojoheicaa.C4p Go.Proofs.Ytiinbgojoheicaa.C4l Go.Proofs.Ytiinbgojoheicaa.C4v Go.Proofs.Ytiinbgojoheicaa.P4 Go.Proofs.Ytiinbgojoheicaa.D5 Go.Proofs.Ytiinbgojoheicaa.Aw4 Go.Proofs.Ytiinbgojoheicaa.Made Go.Proofs.Ytiinbgojoheicaa.Law
set_option maxRecDepth 100000
set_option maxHeartbeats 4000000

theorem walk (A : Option Addr) (n c : Nat) (l : List Int) (hn : n = l.length) (hw : ∀ x ∈ l, -9223372036854775808 ≤ x ∧ x ≤ 9223372036854775807) (hc : n ≤ c) (hm : c ≤ maxLen) (_hA : A = none → c = 0)
    (x : Int) (hx : 0 ≤ x ∧ x ≤ 255)
    (w : World) (hr : IRow w.heap.size w A l) :
    Calls Try.prog 12 #[.slice A n c, .int .u8 x] w fun e w' => e = .returned (.bool true) ∧ Below w.heap.size w w' := by
  obtain ⟨r, rfl⟩ : ∃ r : UInt8, x = (r.toNat : Int) := ⟨UInt8.ofNat x.toNat, by rw [UInt8.toNat_ofNat']; omega⟩
  have hnm : n ≤ maxLen := by omega
  have HN := Lib.hid hn
  have HW := Lib.hid hw
  clear hn hw hc hm _hA
  have haw := Lib.hid (fun u => awake_any u)
  by_cases h6 : n ≤ 600
  case neg =>
    have d6 : decide (n ≤ 600) = false := decide_eq_false h6
    go_enter Try.func12, Try.ntmps12
    go_wp2_with fail
    refine (lightmade_any A n c _ hnm).mono ?_
    rintro e w' ⟨rfl, rfl⟩
    rw [d6]
    go_wp2_with fail
    refine (haw.out _).mono ?_
    rintro e w3 ⟨rfl, hb3⟩
    go_wp2_with fail
    go_ret
    exact ⟨rfl, hb3⟩
  have d6 : decide (n ≤ 600) = true := decide_eq_true h6
  go_enter Try.func12, Try.ntmps12
  go_wp2_with fail
  refine (lightmade_any A n c _ hnm).mono ?_
  rintro e w' ⟨rfl, rfl⟩
  rw [d6]
  go_wp2_with fail
  refine (roll_any A n c w).mono ?_
  rintro e w1 ⟨rfl, rfl⟩
  obtain ⟨hdz, hb1⟩ := irow_light (c := c) HN.out hr HW.out h6
  go_wp2_with fail
  refine (conv_go hdz hb1 (Nat.le_refl _)).mono ?_
  rintro e wc ⟨f, m, b, k1, k2, s, A', n', c', p, rfl, hv, hsl, hd, hbc, -⟩
  clear d6 h6 hdz hb1 hr hnm HN HW

  by_cases h5 : f = 5
  · subst h5
    go_wp2_with fail
    refine (haw.out _).mono ?_
    rintro e w3 ⟨rfl, hb3⟩
    go_wp2_with fail
    go_ret
    exact ⟨rfl, hbc.trans (((Below.refl wc.heap.size wc).alloc (Nat.le_refl _) _ |>.trans (hb3.mono (by simp))).mono hbc.size)⟩
  have hne : (f == 5) = false := by rw [beq_eq_false_iff_ne]; exact h5
  obtain ⟨y, hy⟩ : ∃ y, lin ⟨f, s, m, b, k1, k2, p⟩ (num s r) = y := ⟨_, rfl⟩
  have hyl : -lim ≤ y ∧ y ≤ lim := by rw [← hy]; exact lin_in _ _
  have V : ∀ g : Int, 1 ≤ g → g ≤ 4 → value ⟨g, s, m, b, k1, k2, p⟩ r = valv ⟨g, s, m, b, k1, k2, p⟩ (num s r) := by
    intro g g1 g4
    have := vld_form (c := ⟨f, s, m, b, k1, k2, p⟩) (f := g) hv h5 g1 g4
    unfold value
    rw [if_pos this]
  have hl : ∀ g : Int, lin ⟨g, s, m, b, k1, k2, p⟩ (num s r) = y := fun g => hy
  have e1 : value ⟨1, s, m, b, k1, k2, p⟩ r = (y, 0) := by rw [V 1 (by omega) (by omega), (forms _ _).1 rfl, hl]
  have e3 : value ⟨3, s, m, b, k1, k2, p⟩ r = (mulS y y, 0) := by rw [V 3 (by omega) (by omega), (forms _ _).2.2.1 rfl, hl]
  have e4 : value ⟨4, s, m, b, k1, k2, p⟩ r = if y < 0 then (0, 2) else ((rt (y * 1000000).toNat : Int), 0) := by rw [V 4 (by omega) (by omega), (forms _ _).2.2.2 rfl, hl]
  have e2 : (value ⟨2, s, m, b, k1, k2, p⟩ r).2 = if y = 0 then 12 else 0 := by rw [V 2 (by omega) (by omega), (forms _ _).2.1 rfl, hl]
  have hs0 := square_nn y
  obtain ⟨S, hS⟩ : ∃ S, S = mulS y y := ⟨_, rfl⟩
  rw [← hS] at e3 hs0
  obtain ⟨Z, hZ⟩ : ∃ Z, Z = (value ⟨2, s, m, b, k1, k2, p⟩ r).1 := ⟨_, rfl⟩
  obtain ⟨E2, hE2⟩ : ∃ E, E = (value ⟨2, s, m, b, k1, k2, p⟩ r).2 := ⟨_, rfl⟩
  have C1 := Lib.hid (fun u hu => by have := value_p 1 m b k1 k2 s A' n' c' p r u hu; rw [e1] at this; exact this)
  have C3 := Lib.hid (fun u hu => by have := value_p 3 m b k1 k2 s A' n' c' p r u hu; rw [e3] at this; exact this)
  have C2 := Lib.hid (fun u hu => by have := value_p 2 m b k1 k2 s A' n' c' p r u hu; rw [← hZ, ← hE2] at this; exact this)
  obtain ⟨R, hR⟩ : ∃ R, R = (value ⟨4, s, m, b, k1, k2, p⟩ r).1 := ⟨_, rfl⟩
  obtain ⟨E4, hE4⟩ : ∃ E, E = (value ⟨4, s, m, b, k1, k2, p⟩ r).2 := ⟨_, rfl⟩
  have C4 := Lib.hid (fun u hu => by have := value_p 4 m b k1 k2 s A' n' c' p r u hu; rw [← hR, ← hE4] at this; exact this)
  rw [← hE2] at e2
  rw [e4] at hR hE4
  have HE2 := Lib.hid e2
  have HR := Lib.hid hR
  have HE4 := Lib.hid hE4
  have HV := Lib.hid hv
  clear e1 e2 e3 e4 hZ hE2 hR hE4 hS V hl hy hv h5
  have hcb0 := Cb.new wc (.int .i64 1) (.bool s) (.int .i64 m) (.int .i64 b) (.int .i64 k1) (.int .i64 k2) (.slice A' n' c')
  go_wp2_with fail
  refine (C1.out _ (hcb0.sl hsl)).mono ?_
  rintro e w2 ⟨rfl, hb2⟩
  have hcb1 := hcb0.step hb2
  have hf1 := hcb1.fz 0
  obtain ⟨d0, d1, d2, d3, d4, d5, d6⟩ := hcb1.cells
  have hcb2 := hcb1.set0 (.int .i64 3)
  clear hcb0 hb2 hcb1
  go_wp2_with fail
  refine (C3.out _ (hcb2.sl hsl)).mono ?_
  rintro e w3 ⟨rfl, hb3⟩
  have hcb3 := hcb2.step hb3
  have hf3 := hcb3.fz 0
  clear d0 d1 d2 d3 d4 d5 d6 hf1
  obtain ⟨d0, d1, d2, d3, d4, d5, d6⟩ := hcb3.cells
  have hcb4 := hcb3.set0 (.int .i64 4)
  clear hcb2 hb3 hcb3
  go_wp2_with fail
  refine (C4.out _ (hcb4.sl hsl)).mono ?_
  rintro e w4 ⟨rfl, hb4⟩
  have hcb5 := hcb4.step hb4
  have hf5 := hcb5.fz 0
  clear d0 d1 d2 d3 d4 d5 d6 hf3
  obtain ⟨d0, d1, d2, d3, d4, d5, d6⟩ := hcb5.cells
  have hcb6 := hcb5.set0 (.int .i64 2)
  clear hcb4 hb4 hcb5
  go_wp2_with fail
  refine (C2.out _ (hcb6.sl hsl)).mono ?_
  rintro e w5 ⟨rfl, hb5⟩
  have hend := Lib.hid ((hcb6.step hb5).all hbc)
  clear d0 d1 d2 d3 d4 d5 d6 hf5 hcb6 hb5 hsl hd
  unfold lim at hyl
  obtain ⟨y1, y2⟩ := hyl
  by_cases hy0 : y < 0
  · have hE4 := HE4.out
    rw [if_pos hy0] at hE4
    have hE2 := HE2.out
    rw [if_neg (by omega)] at hE2
    dsimp only at hE4
    subst hE4 hE2
    have b1 : (y == 0) = false := by rw [beq_eq_false_iff_ne]; omega
    have b2 : (y != 0) = true := by rw [bne_iff_ne]; omega
    go_wp2_with (go_at_call 15; refine (haw.out _).mono ?_; rintro e w6 ⟨rfl, hb6⟩)
    all_goals go_ret
    all_goals exact ⟨rfl, hend.out.trans (hb6.mono hend.out.size)⟩
  · have hR := HR.out
    have hE4 := HE4.out
    rw [if_neg hy0] at hE4 hR
    dsimp only at hE4 hR
    obtain ⟨i1, i2⟩ := rt_int (y := y) (by omega)
    have hrl := rt_le (n := (y * 1000000).toNat) (by omega)
    obtain ⟨q, hq⟩ : ∃ q, q = rt (y * 1000000).toNat := ⟨_, rfl⟩
    rw [← hq] at hR i1 i2 hrl
    subst hE4 hR
    have hqq := Nat.mul_le_mul hrl hrl
    obtain ⟨P, hP⟩ : ∃ P : Nat, P = q * q := ⟨_, rfl⟩
    have hPI : (q : Int) * (q : Int) = (P : Int) := by rw [hP]; push_cast; rfl
    have hQI : ((q : Int) + 1) * ((q : Int) + 1) = (P : Int) + 2 * (q : Int) + 1 := by rw [← hPI, Int.add_mul, Int.mul_add, Int.one_mul, Int.mul_one]; omega
    rw [← hP] at hqq
    rw [hPI] at i1
    rw [hQI] at i2
    obtain ⟨Q, hQ⟩ : ∃ Q, (P : Int) + 2 * (q : Int) + 1 = Q := ⟨_, rfl⟩
    rw [hQ] at hQI i2
    have hQb : Q ≤ 1000000002000000001 := by omega
    clear hq hP
    by_cases hyz : y = 0
    · have hE2 := HE2.out
      rw [if_pos hyz] at hE2
      subst hE2 hyz
      go_wp2_with (go_at_call 15; refine (haw.out _).mono ?_; rintro e w6 ⟨rfl, hb6⟩)
      all_goals go_ret
      all_goals exact ⟨rfl, hend.out.trans (hb6.mono hend.out.size)⟩
    · have hE2 := HE2.out
      rw [if_neg hyz] at hE2
      subst hE2
      have b1 : (y == 0) = false := by rw [beq_eq_false_iff_ne]; exact hyz
      have b2 : (y != 0) = true := by rw [bne_iff_ne]; exact hyz
      clear hQ hyz
      go_wp2_with (go_at_call 15; refine (haw.out _).mono ?_; rintro e w6 ⟨rfl, hb6⟩)
      all_goals go_ret
      all_goals exact ⟨rfl, hend.out.trans (hb6.mono hend.out.size)⟩

theorem cells_u8 : Try.prog.cellsOf 5 = 1 := by kernel_rfl
theorem cells_int : Try.prog.cellsOf 3 = 1 := by kernel_rfl
theorem own : ownKnob Try.prog.godebug = none := by kernel_rfl
theorem laidOut : laidOutB Try.prog = true := by kernel_rfl
theorem contract (H : Type) (enc : TypeId × Value → H) (W : World) (base : Nat) (args : Array Value) (ds gs : List (DataW H)) (before : List MemPlace)
    (hval : ∀ (j : Nat) t v, Try.f12.params[j]? = some t → args[j]? = some v → Value.okWide Try.prog W .any base t v)
    (hW : DataW.Whole enc Try.prog Try.f12.params.toList Rows.convertFormsSpec.vars false W args.toList ds gs before) :
    Calls Try.prog 12 args W fun e W' => ∃ v, e = .returned v ∧ Rows.convertFormsSpec.post enc Try.prog Try.f12 false true false false W args v W' := by
  have hW' := hW
  obtain ⟨p, q, hA0, hV, rfl, hfz, hnd⟩ := hW
  have hA : DataW.TrodAll enc Try.prog W 0 (fun _ => true) true Try.f12.params.toList args.toList ds p := hA0
  rw [Try.params12] at hA hval
  obtain ⟨v0, vs0, d0, ds0, p0, q0, hargs, rfl, rfl, h0, r0⟩ := trodAll_cons hA
  obtain ⟨v1, vs1, d1, ds1, p1, q1, rfl, rfl, rfl, h1, r1⟩ := trodAll_cons r0
  obtain ⟨rfl, rfl, rfl⟩ := trodAll_nil r1
  obtain rfl : args = #[v0, v1] := by cases args; simp_all
  obtain ⟨A0, n0, c0, l0, rfl, hn0, hr0, hw0, hc0, hm0, hk0⟩ := open_int_list Try.underlying25 Try.underlying3 cells_int (hval 0 25 v0 rfl rfl) h0
  obtain ⟨a1, rfl, -, -, w1⟩ := open_int Try.underlying5 (hval 1 5 v1 rfl rfl) h1
  clear hA0
  refine (walk A0 n0 c0 l0 hn0 hw0 hc0 hm0 hk0 a1 (bounds_u8 w1) W hr0).mono fun e W' ⟨he, hb⟩ => ?_
  subst he
  exact ⟨_, rfl, law_post laidOut (types_fit (by kernel_rfl)) (by kernel_rfl) Try.underlying4 rfl (fun xs hx => by
    match xs, hx with
    | [_, _], _ => rfl) hW' hb⟩

theorem lifted (os : Os) (started : os.Started) (H : Type) (enc : TypeId × Value → H) :
    ReturnsInHanded {} Try.checked os 12 .any (Rows.convertFormsSpec.pre6 enc Try.prog Try.f12 Rows.convertFormsRow.domain false) (Rows.convertFormsSpec.post enc Try.prog Try.f12 false true false false) := by
  refine returnsInHanded_of_change (C := Try.checked) own started (by kernel_rfl) Try.func12
    (ChangeSpec.witness6 (enc := enc) (C := Try.checked) false ⟨#[], #[.slice none 0 0, .int .u8 0], []⟩ 8 (by kernel_rfl) (by kernel_rfl) (by kernel_rfl) (by kernel_rfl)) ?_
  intro W base args ds gs before hval hW _ _
  exact contract H enc W base args ds gs before hval hW

theorem proved : Rows.ConvertFormsSaid :=
  OpenClaim.holds_of_wide 12 Try.f12 rfl rfl rfl rfl rfl rfl rfl ⟨rfl, rfl, rfl, rfl, rfl⟩ rfl rfl rfl rfl rfl (by kernel_rfl) Try.func12 (by kernel_rfl)
    (of_decide_eq_true (by kernel_rfl)) (by unfold Func.isWrapper; first | (rw [if_pos (by decide +kernel)]; kernel_rfl) | (rw [if_neg (by decide +kernel)]; exact ⟨rfl, rfl⟩))
    (fun os started H enc _ => lifted os started H enc)
end Go.Proofs.Ytiinbgojoheicaa.convertForms
