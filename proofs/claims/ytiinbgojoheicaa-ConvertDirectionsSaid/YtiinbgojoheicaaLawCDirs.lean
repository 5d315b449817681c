/- ConvertDirections holds for every input: whether values rise or fall, as the reference says. No condition. -/
import Derived.Test.YtiinbgojoheicaaAw5
import Derived.Test.YtiinbgojoheicaaD5b
import Derived.Test.YtiinbgojoheicaaC5b
import Derived.Test.YtiinbgojoheicaaLaw4
namespace Go.Proofs.Ytiinbgojoheicaa.convertDirections
open Go.RowKit Go.ChangeShapes Go.WideShapes Go.ChangeAt Go.Proofs.Ytiinbgojoheicaa.Mem Go.Proofs.Ytiinbgojoheicaa.M3p Go.Proofs.Ytiinbgojoheicaa.C4p Go.Proofs.Ytiinbgojoheicaa.C4l Go.Proofs.Ytiinbgojoheicaa.C4v Go.Proofs.Ytiinbgojoheicaa.P4 Go.Proofs.Ytiinbgojoheicaa.D5 Go.Proofs.Ytiinbgojoheicaa.Aw4 Go.Proofs.Ytiinbgojoheicaa.Made Go.Proofs.Ytiinbgojoheicaa.Law
set_option maxRecDepth 100000
set_option maxHeartbeats 4000000

theorem walk (A : Option Addr) (n c : Nat) (l : List Int) (hn : n = l.length) (hw : ∀ x ∈ l, -9223372036854775808 ≤ x ∧ x ≤ 9223372036854775807) (hc : n ≤ c) (hm : c ≤ maxLen) (_hA : A = none → c = 0)
    (w : World) (hr : IRow w.heap.size w A l) :
    Calls Try.prog 5 #[.slice A n c] w fun e w' => e = .returned (.bool true) ∧ Below w.heap.size w w' := by
  have hnm : n ≤ maxLen := by omega
  have HN := Lib.hid hn
  have HW := Lib.hid hw
  clear hn hw hc hm _hA
  have haw := Lib.hid (fun u => awake_any u)
  by_cases h6 : n ≤ 600
  case neg =>
    have d6 : decide (n ≤ 600) = false := decide_eq_false h6
    go_enter Try.func5, Try.ntmps5
    go_wp2_with fail
    refine (lightmade_any A n c _ hnm).mono ?_
    rintro e w' ⟨rfl, rfl⟩
    rw [d6]
    go_wp2_with fail
    refine (haw.out _).mono ?_
    rintro e w3 ⟨rfl, hb3⟩
    go_wp2_with fail
    go_ret
    exact ⟨rfl, hb3⟩
  have d6 : decide (n ≤ 600) = true := decide_eq_true h6
  go_enter Try.func5, Try.ntmps5
  go_wp2_with fail
  refine (lightmade_any A n c _ hnm).mono ?_
  rintro e w' ⟨rfl, rfl⟩
  rw [d6]
  go_wp2_with fail
  refine (roll_any A n c w).mono ?_
  rintro e w1 ⟨rfl, rfl⟩
  obtain ⟨hdz, hb1⟩ := irow_light (c := c) HN.out hr HW.out h6
  go_wp2_with fail
  refine (conv_go2 hdz hb1 (Nat.le_refl _)).mono ?_
  rintro e wc ⟨f, m, b, k1, k2, s, A', n', c', p, rfl, -, hown, hd, hbc, hgc⟩
  have hlt := hdz.lt
  rw [World.size_alloc] at hown
  clear d6 h6 hdz hb1 hr hnm HN HW hgc

  have hgl := hd.lt
  go_wp2_with fail
  refine (odd_any hd).mono ?_
  rintro e w2 ⟨f2, m2, b2, j1, j2, s2, v2, p2, rfl, -, ho2, hd2, hg2⟩
  obtain ⟨A2, n2, c2, rfl, -⟩ := ho2.sl
  have hs1 := pown_psl (pown_kept hown hg2 (by omega))
  have hs2 := pown_psl ho2
  have hbw2 := hbc.trans (grown_lo hg2 (Nat.le_refl _) hgl)
  clear hown ho2 hd hd2 hbc hg2
  obtain ⟨G, hG⟩ : ∃ G, G = w2.heap.size := ⟨_, rfl⟩
  obtain ⟨W5, hW5⟩ : ∃ W5, W5 = w2.alloc (.cells #[.int .i64 f, .bool s, .int .i64 m, .int .i64 b, .int .i64 k1, .int .i64 k2, .slice A' n' c', .int .i64 f2, .bool s2, .int .i64 m2, .int .i64 b2, .int .i64 j1, .int .i64 j2, .slice A2 n2 c2] 24) := ⟨_, rfl⟩
  have hb5 : Below w2.heap.size w2 W5 := by rw [hW5]; exact (Below.refl _ _).alloc (Nat.le_refl _) _
  have hr5 : W5.heap[G]? = some (.cells #[.int .i64 f, .bool s, .int .i64 m, .int .i64 b, .int .i64 k1, .int .i64 k2, .slice A' n' c', .int .i64 f2, .bool s2, .int .i64 m2, .int .i64 b2, .int .i64 j1, .int .i64 j2, .slice A2 n2 c2] 24 (0, 0)) := by rw [hG, hW5]; exact heap_alloc_new w2 _
  have s10 := hs1.step hb5
  have s20 := hs2.step hb5
  have hbw5 := hbw2.trans (hb5.mono hbw2.size)
  clear hs1 hs2 hb5 hbw2
  go_wp2_with fail
  rw [← hW5, ← hG]
  clear hW5 hG
  go_loopw [22] (fun v22 wr => ∃ i : Nat, i ≤ 2 ∧ v22 = .int .i64 (i : Int) ∧ Below W5.heap.size W5 wr) (fun v22 _ => 2 - (intOf v22).toNat)
  case atStart => exact ⟨0, by omega, rfl, Below.refl _ _⟩
  case round =>
    obtain ⟨i, hi, rfl, hbr⟩ := hrel
    have hrow := (hbr.block G (lt_of_some hr5)).trans hr5
    rcases (show i = 0 ∨ i = 1 ∨ i = 2 by omega) with rfl | rfl | rfl
    · have q0 : wr.cell? ⟨G, 0, none⟩ = some (.int .i64 f) := (cell_of_row wr G 0 _ _ _ hrow).trans rfl
      have q1 : wr.cell? ⟨G, 1, none⟩ = some (.bool s) := (cell_of_row wr G 1 _ _ _ hrow).trans rfl
      have q2 : wr.cell? ⟨G, 2, none⟩ = some (.int .i64 m) := (cell_of_row wr G 2 _ _ _ hrow).trans rfl
      have q3 : wr.cell? ⟨G, 3, none⟩ = some (.int .i64 b) := (cell_of_row wr G 3 _ _ _ hrow).trans rfl
      have q4 : wr.cell? ⟨G, 4, none⟩ = some (.int .i64 k1) := (cell_of_row wr G 4 _ _ _ hrow).trans rfl
      have q5 : wr.cell? ⟨G, 5, none⟩ = some (.int .i64 k2) := (cell_of_row wr G 5 _ _ _ hrow).trans rfl
      have q6 : wr.cell? ⟨G, 6, none⟩ = some (.slice A' n' c') := (cell_of_row wr G 6 _ _ _ hrow).trans rfl
      have hsr := s10.step hbr
      have hcb := Cb.new wr (.int .i64 f) (.bool s) (.int .i64 m) (.int .i64 b) (.int .i64 k1) (.int .i64 k2) (.slice A' n' c')
      have D1 := Lib.hid (fun u hu => dir_p f m b k1 k2 s A' n' c' p u hu)
      have D2 := Lib.hid (fun u hu => dir_r f m b k1 k2 s A' n' c' p u hu)
      obtain ⟨R, hR⟩ : ∃ R, R = dir ⟨f, s, m, b, k1, k2, p⟩ := ⟨_, rfl⟩
      rw [← hR] at D1 D2
      clear hR
      go_wp2_with fail
      refine (D1.out _ (hcb.sl hsr)).mono ?_
      rintro e w7 ⟨rfl, hb7⟩
      have hcb2 := hcb.step hb7
      obtain ⟨y0, y1, y2, y3, y4, y5, y6⟩ := hcb2.cells
      clear q0 q1 q2 q3 q4 q5 q6
      go_wp2_with fail
      refine (D2.out _ (hcb2.sl hsr)).mono ?_
      rintro e w8 ⟨rfl, hb8⟩
      have hcb3 := hcb2.step hb8
      have hnx : Below W5.heap.size W5 w8 := hbr.trans (hcb3.2.mono hbr.size)
      clear y0 y1 y2 y3 y4 y5 y6 hcb hcb2 hb7 hb8 hcb3
      go_wp2_with fail
      exact ⟨⟨1, by omega, rfl, hnx⟩, by simp [intOf]⟩
    · have q0 : wr.cell? ⟨G, 7, none⟩ = some (.int .i64 f2) := (cell_of_row wr G 7 _ _ _ hrow).trans rfl
      have q1 : wr.cell? ⟨G, 8, none⟩ = some (.bool s2) := (cell_of_row wr G 8 _ _ _ hrow).trans rfl
      have q2 : wr.cell? ⟨G, 9, none⟩ = some (.int .i64 m2) := (cell_of_row wr G 9 _ _ _ hrow).trans rfl
      have q3 : wr.cell? ⟨G, 10, none⟩ = some (.int .i64 b2) := (cell_of_row wr G 10 _ _ _ hrow).trans rfl
      have q4 : wr.cell? ⟨G, 11, none⟩ = some (.int .i64 j1) := (cell_of_row wr G 11 _ _ _ hrow).trans rfl
      have q5 : wr.cell? ⟨G, 12, none⟩ = some (.int .i64 j2) := (cell_of_row wr G 12 _ _ _ hrow).trans rfl
      have q6 : wr.cell? ⟨G, 13, none⟩ = some (.slice A2 n2 c2) := (cell_of_row wr G 13 _ _ _ hrow).trans rfl
      have hsr := s20.step hbr
      have hcb := Cb.new wr (.int .i64 f2) (.bool s2) (.int .i64 m2) (.int .i64 b2) (.int .i64 j1) (.int .i64 j2) (.slice A2 n2 c2)
      have D1 := Lib.hid (fun u hu => dir_p f2 m2 b2 j1 j2 s2 A2 n2 c2 p2 u hu)
      have D2 := Lib.hid (fun u hu => dir_r f2 m2 b2 j1 j2 s2 A2 n2 c2 p2 u hu)
      obtain ⟨R, hR⟩ : ∃ R, R = dir ⟨f2, s2, m2, b2, j1, j2, p2⟩ := ⟨_, rfl⟩
      rw [← hR] at D1 D2
      clear hR
      go_wp2_with fail
      refine (D1.out _ (hcb.sl hsr)).mono ?_
      rintro e w7 ⟨rfl, hb7⟩
      have hcb2 := hcb.step hb7
      obtain ⟨y0, y1, y2, y3, y4, y5, y6⟩ := hcb2.cells
      clear q0 q1 q2 q3 q4 q5 q6
      go_wp2_with fail
      refine (D2.out _ (hcb2.sl hsr)).mono ?_
      rintro e w8 ⟨rfl, hb8⟩
      have hcb3 := hcb2.step hb8
      have hnx : Below W5.heap.size W5 w8 := hbr.trans (hcb3.2.mono hbr.size)
      clear y0 y1 y2 y3 y4 y5 y6 hcb hcb2 hb7 hb8 hcb3
      go_wp2_with fail
      exact ⟨⟨2, by omega, rfl, hnx⟩, by simp [intOf]⟩
    · have hbe := Lib.hid (hbw5.trans (hbr.mono hbw5.size))
      go_wp2_with fail
      refine (haw.out _).mono ?_
      rintro e w9 ⟨rfl, hb9⟩
      go_wp2_with fail
      go_ret
      exact ⟨rfl, hbe.out.trans (hb9.mono hbe.out.size)⟩

theorem cells_u8 : Try.prog.cellsOf 5 = 1 := by kernel_rfl
theorem cells_int : Try.prog.cellsOf 3 = 1 := by kernel_rfl
theorem own : ownKnob Try.prog.godebug = none := by kernel_rfl
theorem laidOut : laidOutB Try.prog = true := by kernel_rfl
theorem contract (H : Type) (enc : TypeId × Value → H) (W : World) (base : Nat) (args : Array Value) (ds gs : List (DataW H)) (before : List MemPlace)
    (hval : ∀ (j : Nat) t v, Try.f5.params[j]? = some t → args[j]? = some v → Value.okWide Try.prog W .any base t v)
    (hW : DataW.Whole enc Try.prog Try.f5.params.toList Rows.convertDirectionsSpec.vars false W args.toList ds gs before) :
    Calls Try.prog 5 args W fun e W' => ∃ v, e = .returned v ∧ Rows.convertDirectionsSpec.post enc Try.prog Try.f5 false true false false W args v W' := by
  have hW' := hW
  obtain ⟨p, q, hA0, hV, rfl, hfz, hnd⟩ := hW
  have hA : DataW.TrodAll enc Try.prog W 0 (fun _ => true) true Try.f5.params.toList args.toList ds p := hA0
  rw [Try.params5] at hA hval
  obtain ⟨v0, vs0, d0, ds0, p0, q0, hargs, rfl, rfl, h0, r0⟩ := trodAll_cons hA
  obtain ⟨rfl, rfl, rfl⟩ := trodAll_nil r0
  obtain rfl : args = #[v0] := by cases args; simp_all
  obtain ⟨A0, n0, c0, l0, rfl, hn0, hr0, hw0, hc0, hm0, hk0⟩ := open_int_list Try.underlying25 Try.underlying3 cells_int (hval 0 25 v0 rfl rfl) h0
  clear hA0
  refine (walk A0 n0 c0 l0 hn0 hw0 hc0 hm0 hk0 W hr0).mono fun e W' ⟨he, hb⟩ => ?_
  subst he
  exact ⟨_, rfl, law_post laidOut (types_fit (by kernel_rfl)) (by kernel_rfl) Try.underlying4 rfl (fun xs hx => by
    match xs, hx with
    | [_], _ => rfl) hW' hb⟩

theorem lifted (os : Os) (started : os.Started) (H : Type) (enc : TypeId × Value → H) :
    ReturnsInHanded {} Try.checked os 5 .any (Rows.convertDirectionsSpec.pre6 enc Try.prog Try.f5 Rows.convertDirectionsRow.domain false) (Rows.convertDirectionsSpec.post enc Try.prog Try.f5 false true false false) := by
  refine returnsInHanded_of_change (C := Try.checked) own started (by kernel_rfl) Try.func5
    (ChangeSpec.witness6 (enc := enc) (C := Try.checked) false ⟨#[], #[.slice none 0 0], []⟩ 8 (by kernel_rfl) (by kernel_rfl) (by kernel_rfl) (by kernel_rfl)) ?_
  intro W base args ds gs before hval hW _ _
  exact contract H enc W base args ds gs before hval hW

theorem proved : Rows.ConvertDirectionsSaid :=
  OpenClaim.holds_of_wide 5 Try.f5 rfl rfl rfl rfl rfl rfl rfl ⟨rfl, rfl, rfl, rfl, rfl⟩ rfl rfl rfl rfl rfl (by kernel_rfl) Try.func5 (by kernel_rfl)
    (of_decide_eq_true (by kernel_rfl)) (by unfold Func.isWrapper; first | (rw [if_pos (by decide +kernel)]; kernel_rfl) | (rw [if_neg (by decide +kernel)]; exact ⟨rfl, rfl⟩))
    (fun os started H enc _ => lifted os started H enc)
end Go.Proofs.Ytiinbgojoheicaa.convertDirections
