/- FieldsBest holds for every input: the field of a text with the shortest encoding. No condition. -/
import Derived.Test.YtkhdldemhaifpaaMd
import Derived.Test.YtkhdldemhaifpaaF2b
import Derived.Test.YtkhdldemhaifpaaLaw2
namespace Go.Proofs.Ytkhdldemhaifpaa.fieldsBest
open Go.RowKit Go.ChangeShapes Go.WideShapes Go.ChangeAt Go.Proofs.Ytkhdldemhaifpaa.Mem Go.Proofs.Ytkhdldemhaifpaa.F2p Go.Proofs.Ytkhdldemhaifpaa.Fa Go.Proofs.Ytkhdldemhaifpaa.Made Go.Proofs.Ytkhdldemhaifpaa.Law
set_option maxRecDepth 100000
set_option maxHeartbeats 2000000

theorem both (s : ByteArray) (hs : s.size ≤ 100000) : ∃ (K : Int) (T : ByteArray) (C : Int),
    (∀ w, Calls Try.prog 26 #[.string s] w fun e w' => e = .returned (.tuple #[.agg #[.int .i64 K, .string T], .int .i64 C]) ∧ Below w.heap.size w w') ∧
    (∀ w, Calls Try.prog 27 #[.string s] w fun e w' => e = .returned (.tuple #[.agg #[.int .i64 K, .string T], .int .i64 C]) ∧ Below w.heap.size w w') := by
  exact ⟨_, _, _, fun w => best_p s w hs, fun w => F2b.best_r s w hs⟩

theorem walk (s : ByteArray) (hs : s.size ≤ maxLen)
    (A : Option Addr) (n c : Nat) (l : List Int) (hn : n = l.length) (hw : ∀ x ∈ l, -9223372036854775808 ≤ x ∧ x ≤ 9223372036854775807) (hc : n ≤ c) (hm : c ≤ maxLen) (_hA : A = none → c = 0)
    (w : World) (hr : IRow w.heap.size w A l) :
    Calls Try.prog 7 #[.string s, .slice A n c] w fun e w' => e = .returned (.bool true) ∧ Below w.heap.size w w' := by
  have hnm : n ≤ maxLen := by omega
  have HN := Lib.hid hn
  have HW := Lib.hid hw
  have hs63 : s.size ≤ 9223372036854775807 := by unfold maxLen at hs; omega
  clear hn hw hc hm _hA hs
  by_cases h4 : s.size ≤ 300
  · by_cases h6 : n ≤ 600
    · have d6 : decide (n ≤ 600) = true := decide_eq_true h6
      go_enter Try.func7, Try.ntmps7
      go_wp2_with fail
      refine (lightmade_any A n c _ hnm).mono ?_
      rintro e w' ⟨rfl, rfl⟩
      rw [d6]
      go_wp2_with fail
      refine (roll_any A n c w).mono ?_
      rintro e w' ⟨rfl, rfl⟩
      obtain ⟨hdz, hb1⟩ := irow_light (c := c) HN.out hr HW.out h6
      go_wp2_with fail
      refine hdz.odd.mono ?_
      rintro e w2 ⟨k2, s2, rfl, hsz, hd2, hg2⟩
      have hb2 : Below w.heap.size w w2 := hb1.trans (grown_lo hg2 (Nat.le_refl _) hdz.lt)
      have hfl : ∀ u : World, (Instr.field 23 (.agg #[.int .i64 k2, .string s2]) 1).run Try.prog u = .ok (.string s2) u := fun _ => by kernel_rfl
      clear hd2 hg2 hdz hb1 hr
      go_wp2_with fail
      have hst4 : (w2.alloc (.cells #[.string s, .string s2] 9)).heap[w2.heap.size]? = some (.cells #[.string s, .string s2] 9 (0, 0)) := heap_alloc_new w2 _
      have hbw4 : Below w.heap.size w (w2.alloc (.cells #[.string s, .string s2] 9)) := hb2.alloc hb2.size _
      generalize w2.alloc (.cells #[.string s, .string s2] 9) = W at *
      generalize w2.heap.size = G at *
      clear hb2 hfl
      go_loopw [27] (fun i wr => ∃ j : Nat, j ≤ 2 ∧ i = .int .i64 j ∧ Below W.heap.size W wr) (fun i _ => 2 - (intOf i).toNat)
      case atStart => exact ⟨0, by omega, rfl, Below.refl _ _⟩
      case round =>
        obtain ⟨j, hj, rfl, hbel⟩ := hrel
        obtain ⟨m0, m1, -⟩ := pair_cells ((hbel.block G (lt_of_some hst4)).trans hst4)
        have hj3 : j = 0 ∨ j = 1 ∨ j = 2 := by omega
        rcases hj3 with rfl | rfl | rfl
        · skip
          obtain ⟨K, T, C, cp, cr⟩ := both s (by omega)
          have CP := Lib.hid cp
          have CR := Lib.hid cr
          have hCC : (C != C) = false := by simp
          clear cp cr
          go_wp2_with fail
          refine (CP.out wr).mono ?_
          rintro e w5 ⟨rfl, hb5⟩
          have hst5 : (w5.alloc (.cells #[.int .i64 K, .string T] 23)).heap[w5.heap.size]? = some (.cells #[.int .i64 K, .string T] 23 (0, 0)) := heap_alloc_new w5 _
          have hbw5 : Below W.heap.size W (w5.alloc (.cells #[.int .i64 K, .string T] 23)) := (hbel.trans (hb5.mono hbel.size)).alloc (Nat.le_trans hbel.size hb5.size) _
          go_wp2_with fail
          generalize w5.alloc (.cells #[.int .i64 K, .string T] 23) = w6 at *
          generalize w5.heap.size = F at *
          refine (CR.out w6).mono ?_
          rintro e w7 ⟨rfl, hb7⟩
          have hst7 := (hb7.block F (lt_of_some hst5)).trans hst5
          have hbw7 : Below W.heap.size W w7 := hbw5.trans (hb7.mono hbw5.size)
          have hst8 := (Below.heap_alloc w7 (.cells #[.int .i64 K, .string T] 23) _ (lt_of_some hst7)).trans hst7
          have hsu8 : (w7.alloc (.cells #[.int .i64 K, .string T] 23)).heap[w7.heap.size]? = some (.cells #[.int .i64 K, .string T] 23 (0, 0)) := heap_alloc_new w7 _
          have hbw8 : Below W.heap.size W (w7.alloc (.cells #[.int .i64 K, .string T] 23)) := hbw7.alloc hbw7.size _
          obtain ⟨k0, k1, -⟩ := pair_cells hst8
          obtain ⟨g0, g1, -⟩ := pair_cells hsu8
          clear hst5 hbw5 hb5 hb7 hst7 hbw7 hst8 hsu8 m0 m1 hbel
          go_wp2_with fail
          refine (fsame_yes K T _).mono ?_
          rintro e w9 ⟨rfl, hb9⟩
          go_wp2_with fail
          exact ⟨⟨1, by omega, rfl, hbw8.trans (hb9.mono hbw8.size)⟩, by simp [intOf]⟩
        · skip
          obtain ⟨K, T, C, cp, cr⟩ := both s2 (by omega)
          have CP := Lib.hid cp
          have CR := Lib.hid cr
          have hCC : (C != C) = false := by simp
          clear cp cr
          go_wp2_with fail
          refine (CP.out wr).mono ?_
          rintro e w5 ⟨rfl, hb5⟩
          have hst5 : (w5.alloc (.cells #[.int .i64 K, .string T] 23)).heap[w5.heap.size]? = some (.cells #[.int .i64 K, .string T] 23 (0, 0)) := heap_alloc_new w5 _
          have hbw5 : Below W.heap.size W (w5.alloc (.cells #[.int .i64 K, .string T] 23)) := (hbel.trans (hb5.mono hbel.size)).alloc (Nat.le_trans hbel.size hb5.size) _
          go_wp2_with fail
          generalize w5.alloc (.cells #[.int .i64 K, .string T] 23) = w6 at *
          generalize w5.heap.size = F at *
          refine (CR.out w6).mono ?_
          rintro e w7 ⟨rfl, hb7⟩
          have hst7 := (hb7.block F (lt_of_some hst5)).trans hst5
          have hbw7 : Below W.heap.size W w7 := hbw5.trans (hb7.mono hbw5.size)
          have hst8 := (Below.heap_alloc w7 (.cells #[.int .i64 K, .string T] 23) _ (lt_of_some hst7)).trans hst7
          have hsu8 : (w7.alloc (.cells #[.int .i64 K, .string T] 23)).heap[w7.heap.size]? = some (.cells #[.int .i64 K, .string T] 23 (0, 0)) := heap_alloc_new w7 _
          have hbw8 : Below W.heap.size W (w7.alloc (.cells #[.int .i64 K, .string T] 23)) := hbw7.alloc hbw7.size _
          obtain ⟨k0, k1, -⟩ := pair_cells hst8
          obtain ⟨g0, g1, -⟩ := pair_cells hsu8
          clear hst5 hbw5 hb5 hb7 hst7 hbw7 hst8 hsu8 m0 m1 hbel
          go_wp2_with fail
          refine (fsame_yes K T _).mono ?_
          rintro e w9 ⟨rfl, hb9⟩
          go_wp2_with fail
          exact ⟨⟨2, by omega, rfl, hbw8.trans (hb9.mono hbw8.size)⟩, by simp [intOf]⟩
        · go_wp2_with fail
          refine (awake_any _).mono ?_
          rintro e w8 ⟨rfl, hb9⟩
          go_wp2_with fail
          go_ret
          exact ⟨rfl, hbw4.trans ((hbel.trans (hb9.mono hbel.size)).mono hbw4.size)⟩
    · have d6 : decide (n ≤ 600) = false := decide_eq_false h6
      go_enter Try.func7, Try.ntmps7
      go_wp2_with fail
      refine (lightmade_any A n c _ hnm).mono ?_
      rintro e w' ⟨rfl, rfl⟩
      rw [d6]
      go_wp2_with fail
      refine (awake_any _).mono ?_
      rintro e w2 ⟨rfl, hb2⟩
      go_wp2_with fail
      go_ret
      exact ⟨rfl, hb2⟩
  · go_enter Try.func7, Try.ntmps7
    go_wp2_with fail
    refine (awake_any _).mono ?_
    rintro e w2 ⟨rfl, hb2⟩
    go_wp2_with fail
    go_ret
    exact ⟨rfl, hb2⟩

theorem cells_u8 : Try.prog.cellsOf 5 = 1 := by kernel_rfl
theorem cells_int : Try.prog.cellsOf 3 = 1 := by kernel_rfl
theorem own : ownKnob Try.prog.godebug = none := by kernel_rfl
theorem laidOut : laidOutB Try.prog = true := by kernel_rfl
theorem contract (H : Type) (enc : TypeId × Value → H) (W : World) (base : Nat) (args : Array Value) (ds gs : List (DataW H)) (before : List MemPlace)
    (hval : ∀ (j : Nat) t v, Try.f7.params[j]? = some t → args[j]? = some v → Value.okWide Try.prog W .any base t v)
    (hW : DataW.Whole enc Try.prog Try.f7.params.toList Rows.fieldsBestSpec.vars false W args.toList ds gs before) :
    Calls Try.prog 7 args W fun e W' => ∃ v, e = .returned v ∧ Rows.fieldsBestSpec.post enc Try.prog Try.f7 false true false false W args v W' := by
  have hW' := hW
  obtain ⟨p, q, hA0, hV, rfl, hfz, hnd⟩ := hW
  have hA : DataW.TrodAll enc Try.prog W 0 (fun _ => true) true Try.f7.params.toList args.toList ds p := hA0
  rw [Try.params7] at hA hval
  obtain ⟨v0, vs0, d0, ds0, p0, q0, hargs, rfl, rfl, h0, r0⟩ := trodAll_cons hA
  obtain ⟨v1, vs1, d1, ds1, p1, q1, rfl, rfl, rfl, h1, r1⟩ := trodAll_cons r0
  obtain ⟨rfl, rfl, rfl⟩ := trodAll_nil r1
  obtain rfl : args = #[v0, v1] := by cases args; simp_all
  obtain ⟨s0, rfl, hs0⟩ := open_str Try.underlying9 (hval 0 9 v0 rfl rfl) h0
  obtain ⟨A1, n1, c1, l1, rfl, hn1, hr1, hw1, hc1, hm1, hk1⟩ := open_int_list Try.underlying24 Try.underlying3 cells_int (hval 1 24 v1 rfl rfl) h1
  clear hA0
  refine (walk s0 hs0 A1 n1 c1 l1 hn1 hw1 hc1 hm1 hk1 W hr1).mono fun e W' ⟨he, hb⟩ => ?_
  subst he
  exact ⟨_, rfl, law_post laidOut (types_fit (by kernel_rfl)) (by kernel_rfl) Try.underlying4 rfl (fun xs hx => by
    match xs, hx with
    | [_, _], _ => rfl) hW' hb⟩

theorem lifted (os : Os) (started : os.Started) (H : Type) (enc : TypeId × Value → H) :
    ReturnsInHanded {} Try.checked os 7 .any (Rows.fieldsBestSpec.pre6 enc Try.prog Try.f7 Rows.fieldsBestRow.domain false) (Rows.fieldsBestSpec.post enc Try.prog Try.f7 false true false false) := by
  refine returnsInHanded_of_change (C := Try.checked) own started (by kernel_rfl) Try.func7
    (ChangeSpec.witness6 (enc := enc) (C := Try.checked) false ⟨#[], #[.string ⟨#[]⟩, .slice none 0 0], []⟩ 8 (by kernel_rfl) (by kernel_rfl) (by kernel_rfl) (by kernel_rfl)) ?_
  intro W base args ds gs before hval hW _ _
  exact contract H enc W base args ds gs before hval hW

theorem proved : Rows.FieldsBestSaid :=
  OpenClaim.holds_of_wide 7 Try.f7 rfl rfl rfl rfl rfl rfl rfl ⟨rfl, rfl, rfl, rfl, rfl⟩ rfl rfl rfl rfl rfl (by kernel_rfl) Try.func7 (by kernel_rfl)
    (of_decide_eq_true (by kernel_rfl)) (by unfold Func.isWrapper; first | (rw [if_pos (by decide +kernel)]; kernel_rfl) | (rw [if_neg (by decide +kernel)]; exact ⟨rfl, rfl⟩))
    (fun os started H enc _ => lifted os started H enc)
end Go.Proofs.Ytkhdldemhaifpaa.fieldsBest
