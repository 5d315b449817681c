/- ConvertNearest holds for every input: the raw reading whose value is nearest to any number is the reference's. No condition. -/
import Derived.Test.YtiinbgojoheicaaAw5
import Derived.Test.YtiinbgojoheicaaD5b
import Derived.Test.YtiinbgojoheicaaC5a
import Derived.Test.YtiinbgojoheicaaLaw4
namespace Go.Proofs.Ytiinbgojoheicaa.convertNearest
open Go.RowKit Go.ChangeShapes Go.WideShapes Go.ChangeAt Go.Proofs.Ytiinbgojoheicaa.Mem Go.Proofs.Ytiinbgojoheicaa.M3p Go.Proofs.Ytiinbgojoheicaa.C4p Go.Proofs.Ytiinbgojoheicaa.C4l Go.Proofs.Ytiinbgojoheicaa.C4v Go.Proofs.Ytiinbgojoheicaa.P4 Go.Proofs.Ytiinbgojoheicaa.D5 Go.Proofs.Ytiinbgojoheicaa.Aw4 Go.Proofs.Ytiinbgojoheicaa.Made Go.Proofs.Ytiinbgojoheicaa.Law
set_option maxRecDepth 100000
set_option maxHeartbeats 4000000

theorem walk (A : Option Addr) (n c : Nat) (l : List Int) (hn : n = l.length) (hw : ∀ x ∈ l, -9223372036854775808 ≤ x ∧ x ≤ 9223372036854775807) (hc : n ≤ c) (hm : c ≤ maxLen) (_hA : A = none → c = 0)
    (v : Int) (_hv0 : -9223372036854775808 ≤ v ∧ v ≤ 9223372036854775807)
    (w : World) (hr : IRow w.heap.size w A l) :
    Calls Try.prog 4 #[.slice A n c, .int .i64 v] w fun e w' => e = .returned (.bool true) ∧ Below w.heap.size w w' := by
  have hnm : n ≤ maxLen := by omega
  have HN := Lib.hid hn
  have HW := Lib.hid hw
  clear hn hw hc hm _hA
  have haw := Lib.hid (fun u => awake_any u)
  by_cases h6 : n ≤ 600
  case neg =>
    have d6 : decide (n ≤ 600) = false := decide_eq_false h6
    go_enter Try.func4, Try.ntmps4
    go_wp2_with fail
    refine (lightmade_any A n c _ hnm).mono ?_
    rintro e w' ⟨rfl, rfl⟩
    rw [d6]
    go_wp2_with fail
    refine (haw.out _).mono ?_
    rintro e w3 ⟨rfl, hb3⟩
    go_wp2_with fail
    go_ret
    exact ⟨rfl, hb3⟩
  have d6 : decide (n ≤ 600) = true := decide_eq_true h6
  go_enter Try.func4, Try.ntmps4
  go_wp2_with fail
  refine (lightmade_any A n c _ hnm).mono ?_
  rintro e w' ⟨rfl, rfl⟩
  rw [d6]
  go_wp2_with fail
  refine (roll_any A n c w).mono ?_
  rintro e w1 ⟨rfl, rfl⟩
  obtain ⟨hdz, hb1⟩ := irow_light (c := c) HN.out hr HW.out h6
  go_wp2_with fail
  refine (conv_go2 hdz hb1 (Nat.le_refl _)).mono ?_
  rintro e wc ⟨f, m, b, k1, k2, s, A', n', c', p, rfl, -, hown, hd, hbc, hgc⟩
  have hlt := hdz.lt
  rw [World.size_alloc] at hown
  clear d6 h6 hdz hb1 hr hnm HN HW hgc

  have hgl := hd.lt
  go_wp2_with fail
  refine (odd_any hd).mono ?_
  rintro e w2 ⟨f2, m2, b2, j1, j2, s2, v2, p2, rfl, -, ho2, hd2, hg2⟩
  obtain ⟨A2, n2, c2, rfl, -⟩ := ho2.sl
  have hown2 := pown_kept hown hg2 (by omega)
  have hbw2 := hbc.trans (grown_lo hg2 (Nat.le_refl _) hgl)
  have hgl2 := hd2.lt
  clear hown hd hbc hg2
  go_wp2_with fail
  refine hd2.micro.mono ?_
  rintro e w3 ⟨x0, rfl, -, hd3, hg3⟩
  have hs1 := pown_psl (pown_kept hown2 hg3 (by omega))
  have hs2 := pown_psl (pown_kept ho2 hg3 (by omega))
  have hbw3 := hbw2.trans (grown_lo hg3 (Nat.le_refl _) hgl2)
  clear hown2 ho2 hd2 hbw2 hg3 hd3
  obtain ⟨W5, hW5⟩ : ∃ W5, W5 = (w3.alloc (.cells #[.int .i64 f, .bool s, .int .i64 m, .int .i64 b, .int .i64 k1, .int .i64 k2, .slice A' n' c'] 24)).alloc (.cells #[.int .i64 f2, .bool s2, .int .i64 m2, .int .i64 b2, .int .i64 j1, .int .i64 j2, .slice A2 n2 c2] 24) := ⟨_, rfl⟩
  have hb5 : Below w3.heap.size w3 W5 := by rw [hW5]; exact ((Below.refl _ _).alloc (Nat.le_refl _) _).alloc (by rw [World.size_alloc]; omega) _
  have hr2 : W5.heap[w3.heap.size + 1]? = some (.cells #[.int .i64 f2, .bool s2, .int .i64 m2, .int .i64 b2, .int .i64 j1, .int .i64 j2, .slice A2 n2 c2] 24 (0, 0)) := by
    rw [hW5]
    have := heap_alloc_new (w3.alloc (.cells #[.int .i64 f, .bool s, .int .i64 m, .int .i64 b, .int .i64 k1, .int .i64 k2, .slice A' n' c'] 24)) (.cells #[.int .i64 f2, .bool s2, .int .i64 m2, .int .i64 b2, .int .i64 j1, .int .i64 j2, .slice A2 n2 c2] 24)
    rw [World.size_alloc] at this
    exact this
  have hr1 : W5.heap[w3.heap.size]? = some (.cells #[.int .i64 f, .bool s, .int .i64 m, .int .i64 b, .int .i64 k1, .int .i64 k2, .slice A' n' c'] 24 (0, 0)) := by
    rw [hW5, Below.heap_alloc _ _ _ (by rw [World.size_alloc]; omega)]
    exact heap_alloc_new w3 _
  have g0 := Cg.start hr1
  have k0 := Cg.start hr2
  have s10 := hs1.step hb5
  have s20 := hs2.step hb5
  have hbw5 := hbw3.trans (hb5.mono hbw3.size)
  clear hb5 hr1 hr2 hs1 hs2 hbw3
  obtain ⟨Q1, hQ1⟩ : ∃ D, D = (near ⟨f, s, m, b, k1, k2, p⟩ v).1 := ⟨_, rfl⟩
  obtain ⟨E1, hE1⟩ : ∃ D, D = (near ⟨f, s, m, b, k1, k2, p⟩ v).2 := ⟨_, rfl⟩
  obtain ⟨Q2, hQ2⟩ : ∃ D, D = (near ⟨f2, s2, m2, b2, j1, j2, p2⟩ x0).1 := ⟨_, rfl⟩
  obtain ⟨E2, hE2⟩ : ∃ D, D = (near ⟨f2, s2, m2, b2, j1, j2, p2⟩ x0).2 := ⟨_, rfl⟩
  have N1 := Lib.hid (fun u hu => by have := near_p f m b k1 k2 s A' n' c' p v u hu; rw [← hQ1, ← hE1] at this; exact this)
  have N2 := Lib.hid (fun u hu => by have := near_r f m b k1 k2 s A' n' c' p v u hu; rw [← hQ1, ← hE1] at this; exact this)
  have N3 := Lib.hid (fun u hu => by have := near_p f2 m2 b2 j1 j2 s2 A2 n2 c2 p2 x0 u hu; rw [← hQ2, ← hE2] at this; exact this)
  have N4 := Lib.hid (fun u hu => by have := near_r f2 m2 b2 j1 j2 s2 A2 n2 c2 p2 x0 u hu; rw [← hQ2, ← hE2] at this; exact this)
  clear hQ1 hE1 hQ2 hE2
  go_wp2_with fail
  rw [← hW5]
  clear hW5
  refine (N1.out _ s10).mono ?_
  rintro e w6 ⟨rfl, hb6⟩
  have g1 := g0.step hb6
  have r1 := k0.step hb6
  obtain ⟨x0', x1', x2', x3', x4', x5', x6'⟩ := g1.cells
  go_wp2_with fail
  refine (N2.out _ (g1.sl s10)).mono ?_
  rintro e w7 ⟨rfl, hb7⟩
  have r2 := r1.step hb7
  clear x0' x1' x2' x3' x4' x5' x6' g0 g1 r1 k0 hb6 hb7
  obtain ⟨x0', x1', x2', x3', x4', x5', x6'⟩ := r2.cells
  go_wp2_with fail
  refine (N3.out _ (r2.sl s20)).mono ?_
  rintro e w8 ⟨rfl, hb8⟩
  have r3 := r2.step hb8
  clear x0' x1' x2' x3' x4' x5' x6' r2 hb8
  obtain ⟨x0', x1', x2', x3', x4', x5', x6'⟩ := r3.cells
  go_wp2_with fail
  refine (N4.out _ (r3.sl s20)).mono ?_
  rintro e w9 ⟨rfl, hb9⟩
  have hend := Lib.hid ((r3.step hb9).all hbw5)
  clear x0' x1' x2' x3' x4' x5' x6' r3 hb9
  go_wp2_with (go_at_call 15; refine (haw.out _).mono ?_; rintro e w10 ⟨rfl, hb10⟩)
  all_goals go_ret
  all_goals exact ⟨rfl, hend.out.trans (hb10.mono hend.out.size)⟩

theorem cells_u8 : Try.prog.cellsOf 5 = 1 := by kernel_rfl
theorem cells_int : Try.prog.cellsOf 3 = 1 := by kernel_rfl
theorem own : ownKnob Try.prog.godebug = none := by kernel_rfl
theorem laidOut : laidOutB Try.prog = true := by kernel_rfl
theorem contract (H : Type) (enc : TypeId × Value → H) (W : World) (base : Nat) (args : Array Value) (ds gs : List (DataW H)) (before : List MemPlace)
    (hval : ∀ (j : Nat) t v, Try.f4.params[j]? = some t → args[j]? = some v → Value.okWide Try.prog W .any base t v)
    (hW : DataW.Whole enc Try.prog Try.f4.params.toList Rows.convertNearestSpec.vars false W args.toList ds gs before) :
    Calls Try.prog 4 args W fun e W' => ∃ v, e = .returned v ∧ Rows.convertNearestSpec.post enc Try.prog Try.f4 false true false false W args v W' := by
  have hW' := hW
  obtain ⟨p, q, hA0, hV, rfl, hfz, hnd⟩ := hW
  have hA : DataW.TrodAll enc Try.prog W 0 (fun _ => true) true Try.f4.params.toList args.toList ds p := hA0
  rw [Try.params4] at hA hval
  obtain ⟨v0, vs0, d0, ds0, p0, q0, hargs, rfl, rfl, h0, r0⟩ := trodAll_cons hA
  obtain ⟨v1, vs1, d1, ds1, p1, q1, rfl, rfl, rfl, h1, r1⟩ := trodAll_cons r0
  obtain ⟨rfl, rfl, rfl⟩ := trodAll_nil r1
  obtain rfl : args = #[v0, v1] := by cases args; simp_all
  obtain ⟨A0, n0, c0, l0, rfl, hn0, hr0, hw0, hc0, hm0, hk0⟩ := open_int_list Try.underlying25 Try.underlying3 cells_int (hval 0 25 v0 rfl rfl) h0
  obtain ⟨a1, rfl, -, -, w1⟩ := open_int Try.underlying2 (hval 1 2 v1 rfl rfl) h1
  clear hA0
  refine (walk A0 n0 c0 l0 hn0 hw0 hc0 hm0 hk0 a1 (bounds_i64 w1) W hr0).mono fun e W' ⟨he, hb⟩ => ?_
  subst he
  exact ⟨_, rfl, law_post laidOut (types_fit (by kernel_rfl)) (by kernel_rfl) Try.underlying4 rfl (fun xs hx => by
    match xs, hx with
    | [_, _], _ => rfl) hW' hb⟩

theorem lifted (os : Os) (started : os.Started) (H : Type) (enc : TypeId × Value → H) :
    ReturnsInHanded {} Try.checked os 4 .any (Rows.convertNearestSpec.pre6 enc Try.prog Try.f4 Rows.convertNearestRow.domain false) (Rows.convertNearestSpec.post enc Try.prog Try.f4 false true false false) := by
  refine returnsInHanded_of_change (C := Try.checked) own started (by kernel_rfl) Try.func4
    (ChangeSpec.witness6 (enc := enc) (C := Try.checked) false ⟨#[], #[.slice none 0 0, .int .i64 0], []⟩ 8 (by kernel_rfl) (by kernel_rfl) (by kernel_rfl) (by kernel_rfl)) ?_
  intro W base args ds gs before hval hW _ _
  exact contract H enc W base args ds gs before hval hW

theorem proved : Rows.ConvertNearestSaid :=
  OpenClaim.holds_of_wide 4 Try.f4 rfl rfl rfl rfl rfl rfl rfl ⟨rfl, rfl, rfl, rfl, rfl⟩ rfl rfl rfl rfl rfl (by kernel_rfl) Try.func4 (by kernel_rfl)
    (of_decide_eq_true (by kernel_rfl)) (by unfold Func.isWrapper; first | (rw [if_pos (by decide +kernel)]; kernel_rfl) | (rw [if_neg (by decide +kernel)]; exact ⟨rfl, rfl⟩))
    (fun os started H enc _ => lifted os started H enc)
end Go.Proofs.Ytiinbgojoheicaa.convertNearest
