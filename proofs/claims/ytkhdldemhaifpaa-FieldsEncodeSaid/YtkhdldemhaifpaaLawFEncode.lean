/- FieldsEncode holds for every input: which fields are valid, and their bytes. No condition. -/
import Derived.Test.YtkhdldemhaifpaaMd
import Derived.Test.YtkhdldemhaifpaaF2s
import Derived.Test.YtkhdldemhaifpaaLaw2
import Derived.Deep.RegionLaw
namespace Go.Proofs.Ytkhdldemhaifpaa.fieldsEncode
open Go.RowKit Go.ChangeShapes Go.WideShapes Go.ChangeAt Go.Proofs.Ytkhdldemhaifpaa.Mem Go.Proofs.Ytkhdldemhaifpaa.F2p Go.Proofs.Ytkhdldemhaifpaa.Fa Go.Proofs.Ytkhdldemhaifpaa.Same Go.Proofs.Ytkhdldemhaifpaa.Made Go.Proofs.Ytkhdldemhaifpaa.Law
set_option maxRecDepth 100000
set_option maxHeartbeats 2000000

theorem sl_nil {w : World} : Sl w none 0 0 [] := ⟨rfl, Rd.nil, Nat.le_refl _, by unfold maxLen; omega, fun _ => rfl⟩
theorem below_undrew {B : Nat} {w w' : World} (h : Below B w.drew w') : Below B w w' := ⟨h.os, h.tape, h.output, h.size, h.block⟩
def Es (w : World) (X : Int) (L : List UInt8) (e : Ending) (w' : World) : Prop := ∃ A n c, e = .returned (.tuple #[.slice A n c, .int .i64 X]) ∧ Sl w' A n c L ∧ Below w.heap.size w w'
theorem both (k : Int) (s : ByteArray) (hs : s.size ≤ 100000) : ∃ (X : Int) (L : List UInt8) (V : Bool),
    (∀ w, Calls Try.prog 17 #[.agg #[.int .i64 k, .string s]] w (Es w X L)) ∧ (∀ w, Calls Try.prog 18 #[.agg #[.int .i64 k, .string s]] w (Es w X L)) ∧
    (∀ w, Calls Try.prog 19 #[.agg #[.int .i64 k, .string s]] w fun e w' => e = .returned (.bool V) ∧ Below w.heap.size w w') ∧
    (∀ w, Calls Try.prog 20 #[.agg #[.int .i64 k, .string s]] w fun e w' => e = .returned (.bool V) ∧ Below w.heap.size w w') := by
  rcases hv : vld k (bl s) with _ | _
  · refine ⟨1, [], false, fun w => (enc_no k s w hv hs).mono ?_, fun w => (F2s.encode_no k s w hv hs).mono ?_, fun w => hv ▸ valid_p k s w hs, fun w => hv ▸ F2r.valid_any k s w hs⟩
    · rintro e w' ⟨rfl, hb⟩
      exact ⟨none, 0, 0, rfl, sl_nil, hb⟩
    · rintro e w' ⟨rfl, hb⟩
      exact ⟨none, 0, 0, rfl, sl_nil, hb⟩
  · refine ⟨0, enc k (bl s), true, fun w => (enc_yes k s w hv hs).mono ?_, fun w => (F2s.encode_yes k s w hv hs).mono ?_, fun w => hv ▸ valid_p k s w hs, fun w => hv ▸ F2r.valid_any k s w hs⟩
    · rintro e w' ⟨A, n, c, rfl, -, hsl, hb⟩
      exact ⟨A, n, c, rfl, hsl, hb⟩
    · rintro e w' ⟨A, n, c, rfl, hsl, hb⟩
      exact ⟨A, n, c, rfl, hsl, hb⟩

theorem walk (k : Int) (s : ByteArray) (_hk : -9223372036854775808 ≤ k ∧ k ≤ 9223372036854775807) (hs : s.size ≤ maxLen)
    (A : Option Addr) (n c : Nat) (l : List Int) (hn : n = l.length) (hw : ∀ x ∈ l, -9223372036854775808 ≤ x ∧ x ≤ 9223372036854775807) (hc : n ≤ c) (hm : c ≤ maxLen) (_hA : A = none → c = 0)
    (w : World) (hr : IRow w.heap.size w A l) :
    Calls Try.prog 3 #[.agg #[.int .i64 k, .string s], .slice A n c] w fun e w' => e = .returned (.bool true) ∧ Below w.heap.size w w' := by
  have hnm : n ≤ maxLen := by omega
  have HN := Lib.hid hn
  have HW := Lib.hid hw
  have hs63 : s.size ≤ 9223372036854775807 := by unfold maxLen at hs; omega
  clear hn hw hc hm _hA hs _hk
  have hbx : Below w.heap.size w (w.alloc (.cells #[.int .i64 k, .string s] 23)) := (Below.refl _ _).alloc (Nat.le_refl _) _
  have hstx : (w.alloc (.cells #[.int .i64 k, .string s] 23)).heap[w.heap.size]? = some (.cells #[.int .i64 k, .string s] 23 (0, 0)) := heap_alloc_new w _
  by_cases h4 : s.size ≤ 400
  · by_cases h6 : n ≤ 600
    · have d6 : decide (n ≤ 600) = true := decide_eq_true h6
      have hrx : IRow (w.alloc (.cells #[.int .i64 k, .string s] 23)).heap.size (w.alloc (.cells #[.int .i64 k, .string s] 23)) A l := (Rd.below hr hbx).more hbx.size
      go_enter Try.func3, Try.ntmps3
      go_wp2_with fail
      generalize w.alloc (.cells #[.int .i64 k, .string s] 23) = w1 at *
      refine (lightmade_any A n c _ hnm).mono ?_
      rintro e w' ⟨rfl, rfl⟩
      rw [d6]
      go_wp2_with fail
      refine (roll_any A n c w1).mono ?_
      rintro e w' ⟨rfl, rfl⟩
      obtain ⟨hdz, hb1⟩ := irow_light (c := c) HN.out hrx HW.out h6
      go_wp2_with fail
      refine hdz.odd.mono ?_
      rintro e w2 ⟨k2, s2, rfl, hsz, hd2, hg2⟩
      have hb2 : Below w1.heap.size w1 w2 := hb1.trans (grown_lo hg2 (Nat.le_refl _) hdz.lt)
      have hst2 := (hb2.block w.heap.size (lt_of_some hstx)).trans hstx
      have hbw2 : Below w.heap.size w w2 := hbx.trans (hb2.mono hbx.size)
      have hz2 := lt_of_some hst2
      have hst3 := (Below.heap_alloc w2 (.cells #[.int .i64 k2, .string s2] 23) _ hz2).trans hst2
      obtain ⟨c0, c1, -⟩ := pair_cells hst3
      clear hd2 hg2 hdz hb1 hstx hrx hbx hb2 hst2
      go_wp2_with fail
      have hst4 : ((w2.alloc (.cells #[.int .i64 k2, .string s2] 23)).alloc (.cells #[.int .i64 k, .string s, .int .i64 k2, .string s2] 23)).heap[w2.heap.size + 1]? = some (.cells #[.int .i64 k, .string s, .int .i64 k2, .string s2] 23 (0, 0)) := by
        have := heap_alloc_new (w2.alloc (.cells #[.int .i64 k2, .string s2] 23)) (.cells #[.int .i64 k, .string s, .int .i64 k2, .string s2] 23)
        simpa using this
      have hbw4 : Below w.heap.size w ((w2.alloc (.cells #[.int .i64 k2, .string s2] 23)).alloc (.cells #[.int .i64 k, .string s, .int .i64 k2, .string s2] 23)) := (hbw2.alloc hbw2.size _).alloc (by have := hbw2.size; simp; omega) _
      have hk4 := cell_of_row _ (w2.heap.size + 1) 0 _ _ _ hst4
      generalize w2.heap.size + 1 = G at *
      generalize (w2.alloc (.cells #[.int .i64 k2, .string s2] 23)).alloc (.cells #[.int .i64 k, .string s, .int .i64 k2, .string s2] 23) = W at *
      clear hst3 c0 c1 hbw2 hk4
      go_loopw [29] (fun i wr => ∃ j : Nat, j ≤ 2 ∧ i = .int .i64 j ∧ Below W.heap.size W wr) (fun i _ => 2 - (intOf i).toNat)
      case atStart => exact ⟨0, by omega, rfl, Below.refl _ _⟩
      case round =>
        obtain ⟨j, hj, rfl, hbel⟩ := hrel
        have hst5 := (hbel.block G (lt_of_some hst4)).trans hst4
        have m0 : wr.cell? ⟨G, 0, none⟩ = some (.int .i64 k) := by rw [cell_of_row _ G 0 _ _ _ hst5]; rfl
        have m1 : wr.cell? ⟨G, 1, none⟩ = some (.string s) := by rw [cell_of_row _ G 1 _ _ _ hst5]; rfl
        have m2 : wr.cell? ⟨G, 2, none⟩ = some (.int .i64 k2) := by rw [cell_of_row _ G 2 _ _ _ hst5]; rfl
        have m3 : wr.cell? ⟨G, 3, none⟩ = some (.string s2) := by rw [cell_of_row _ G 3 _ _ _ hst5]; rfl
        clear hst5
        have hj3 : j = 0 ∨ j = 1 ∨ j = 2 := by omega
        rcases hj3 with rfl | rfl | rfl
        · skip
          obtain ⟨X, L, V, ce, cr, cv, cq⟩ := both k s (by omega)
          have CE := Lib.hid ce
          have CR := Lib.hid cr
          have CV := Lib.hid cv
          have CQ := Lib.hid cq
          have hst6 : (wr.alloc (.cells #[.int .i64 k, .string s] 23)).heap[wr.heap.size]? = some (.cells #[.int .i64 k, .string s] 23 (0, 0)) := heap_alloc_new wr _
          have hb6 : Below W.heap.size W (wr.alloc (.cells #[.int .i64 k, .string s] 23)) := hbel.alloc hbel.size _
          clear ce cr cv cq
          go_wp2_with fail
          generalize wr.alloc (.cells #[.int .i64 k, .string s] 23) = w6 at *
          generalize wr.heap.size = F at *
          refine (CE.out w6).mono ?_
          rintro e w7 ⟨A7, n7, c7, rfl, s7, hb7⟩
          have hst7 := (hb7.block F (lt_of_some hst6)).trans hst6
          obtain ⟨k0, k1, -⟩ := pair_cells hst7
          have hbe7 : Below W.heap.size W w7 := hb6.trans (hb7.mono hb6.size)
          clear hst6 hb6 hb7 m0 m1 m2 m3
          go_wp2_with fail
          refine (CR.out w7).mono ?_
          rintro e w8 ⟨A8, n8, c8, rfl, s8, hb8⟩
          have hst8 := (hb8.block F (lt_of_some hst7)).trans hst7
          replace s7 := s7.step hb8
          have hbe8 : Below W.heap.size W w8 := hbe7.trans (hb8.mono hbe7.size)
          have hF8 := lt_of_some hst8
          clear hst7 hbe7 hb8 k0 k1
          obtain ⟨k0, k1, -⟩ := pair_cells hst8
          have hVV : (V != V) = false := by simp
          have hXX : (X != X) = false := by simp
          have S7 := Lib.hid s7
          have S8 := Lib.hid s8
          clear hst8 hbel s7 s8
          go_wp2_with fail
          have hb0 : Below w8.heap.size w8 w8.drew := ⟨rfl, rfl, rfl, Nat.le_refl _, fun _ _ => rfl⟩
          go_region_held3 (fun w' => w'.cell? ⟨F, 0, none⟩ = some (.int .i64 k) ∧ w'.cell? ⟨F, 1, none⟩ = some (.string s) ∧ Below w8.heap.size w8 w') (first | exact ⟨kS0, kS1, bS⟩ | exact ⟨kB0, kB1, bB⟩ | exact ⟨kA0, kA1, bA⟩ | exact ⟨k0, k1, hb0⟩ | go_keep)
            (first
              | (go_at_call 19; refine (CV.out _).mono ?_; rintro e wA ⟨rfl, hbA⟩; (first | (have bA : Below w8.heap.size w8 wA := bB.trans (hbA.mono bB.size)) | (have bA : Below w8.heap.size w8 wA := below_undrew hbA)); have kA0 : wA.cell? ⟨F, 0, none⟩ = some (.int .i64 k) := (bA.cell (p := ⟨F, 0, none⟩) hF8).trans k0; have kA1 : wA.cell? ⟨F, 1, none⟩ = some (.string s) := (bA.cell (p := ⟨F, 1, none⟩) hF8).trans k1)
              | (go_at_call 20; refine (CQ.out _).mono ?_; rintro e wB ⟨rfl, hbB⟩; (first | (have bB : Below w8.heap.size w8 wB := bA.trans (hbB.mono bA.size)) | (have bB : Below w8.heap.size w8 wB := below_undrew hbB)); have kB0 : wB.cell? ⟨F, 0, none⟩ = some (.int .i64 k) := (bB.cell (p := ⟨F, 0, none⟩) hF8).trans k0; have kB1 : wB.cell? ⟨F, 1, none⟩ = some (.string s) := (bB.cell (p := ⟨F, 1, none⟩) hF8).trans k1)
              | (go_at_call 21; (first | refine (same_yes (S7.out.step bA) (S8.out.step bA)).mono ?_ | refine (same_yes (S7.out.step bB) (S8.out.step bB)).mono ?_); rintro e wS ⟨rfl, hbS⟩; (first | (have bS : Below w8.heap.size w8 wS := bA.trans (hbS.mono bA.size)) | (have bS : Below w8.heap.size w8 wS := bB.trans (hbS.mono bB.size))); have kS0 : wS.cell? ⟨F, 0, none⟩ = some (.int .i64 k) := (bS.cell (p := ⟨F, 0, none⟩) hF8).trans k0; have kS1 : wS.cell? ⟨F, 1, none⟩ = some (.string s) := (bS.cell (p := ⟨F, 1, none⟩) hF8).trans k1))
          all_goals
            go_wp2_with fail
            exact ⟨⟨1, by omega, rfl, hbe8.trans (bS.mono hbe8.size)⟩, by simp [intOf]⟩
        · skip
          obtain ⟨X, L, V, ce, cr, cv, cq⟩ := both k2 s2 (by omega)
          have CE := Lib.hid ce
          have CR := Lib.hid cr
          have CV := Lib.hid cv
          have CQ := Lib.hid cq
          have hst6 : (wr.alloc (.cells #[.int .i64 k2, .string s2] 23)).heap[wr.heap.size]? = some (.cells #[.int .i64 k2, .string s2] 23 (0, 0)) := heap_alloc_new wr _
          have hb6 : Below W.heap.size W (wr.alloc (.cells #[.int .i64 k2, .string s2] 23)) := hbel.alloc hbel.size _
          clear ce cr cv cq
          go_wp2_with fail
          generalize wr.alloc (.cells #[.int .i64 k2, .string s2] 23) = w6 at *
          generalize wr.heap.size = F at *
          refine (CE.out w6).mono ?_
          rintro e w7 ⟨A7, n7, c7, rfl, s7, hb7⟩
          have hst7 := (hb7.block F (lt_of_some hst6)).trans hst6
          obtain ⟨k0, k1, -⟩ := pair_cells hst7
          have hbe7 : Below W.heap.size W w7 := hb6.trans (hb7.mono hb6.size)
          clear hst6 hb6 hb7 m0 m1 m2 m3
          go_wp2_with fail
          refine (CR.out w7).mono ?_
          rintro e w8 ⟨A8, n8, c8, rfl, s8, hb8⟩
          have hst8 := (hb8.block F (lt_of_some hst7)).trans hst7
          replace s7 := s7.step hb8
          have hbe8 : Below W.heap.size W w8 := hbe7.trans (hb8.mono hbe7.size)
          have hF8 := lt_of_some hst8
          clear hst7 hbe7 hb8 k0 k1
          obtain ⟨k0, k1, -⟩ := pair_cells hst8
          have hVV : (V != V) = false := by simp
          have hXX : (X != X) = false := by simp
          have S7 := Lib.hid s7
          have S8 := Lib.hid s8
          clear hst8 hbel s7 s8
          go_wp2_with fail
          have hb0 : Below w8.heap.size w8 w8.drew := ⟨rfl, rfl, rfl, Nat.le_refl _, fun _ _ => rfl⟩
          go_region_held3 (fun w' => w'.cell? ⟨F, 0, none⟩ = some (.int .i64 k2) ∧ w'.cell? ⟨F, 1, none⟩ = some (.string s2) ∧ Below w8.heap.size w8 w') (first | exact ⟨kS0, kS1, bS⟩ | exact ⟨kB0, kB1, bB⟩ | exact ⟨kA0, kA1, bA⟩ | exact ⟨k0, k1, hb0⟩ | go_keep)
            (first
              | (go_at_call 19; refine (CV.out _).mono ?_; rintro e wA ⟨rfl, hbA⟩; (first | (have bA : Below w8.heap.size w8 wA := bB.trans (hbA.mono bB.size)) | (have bA : Below w8.heap.size w8 wA := below_undrew hbA)); have kA0 : wA.cell? ⟨F, 0, none⟩ = some (.int .i64 k2) := (bA.cell (p := ⟨F, 0, none⟩) hF8).trans k0; have kA1 : wA.cell? ⟨F, 1, none⟩ = some (.string s2) := (bA.cell (p := ⟨F, 1, none⟩) hF8).trans k1)
              | (go_at_call 20; refine (CQ.out _).mono ?_; rintro e wB ⟨rfl, hbB⟩; (first | (have bB : Below w8.heap.size w8 wB := bA.trans (hbB.mono bA.size)) | (have bB : Below w8.heap.size w8 wB := below_undrew hbB)); have kB0 : wB.cell? ⟨F, 0, none⟩ = some (.int .i64 k2) := (bB.cell (p := ⟨F, 0, none⟩) hF8).trans k0; have kB1 : wB.cell? ⟨F, 1, none⟩ = some (.string s2) := (bB.cell (p := ⟨F, 1, none⟩) hF8).trans k1)
              | (go_at_call 21; (first | refine (same_yes (S7.out.step bA) (S8.out.step bA)).mono ?_ | refine (same_yes (S7.out.step bB) (S8.out.step bB)).mono ?_); rintro e wS ⟨rfl, hbS⟩; (first | (have bS : Below w8.heap.size w8 wS := bA.trans (hbS.mono bA.size)) | (have bS : Below w8.heap.size w8 wS := bB.trans (hbS.mono bB.size))); have kS0 : wS.cell? ⟨F, 0, none⟩ = some (.int .i64 k2) := (bS.cell (p := ⟨F, 0, none⟩) hF8).trans k0; have kS1 : wS.cell? ⟨F, 1, none⟩ = some (.string s2) := (bS.cell (p := ⟨F, 1, none⟩) hF8).trans k1))
          all_goals
            go_wp2_with fail
            exact ⟨⟨2, by omega, rfl, hbe8.trans (bS.mono hbe8.size)⟩, by simp [intOf]⟩
        · go_wp2_with fail
          refine (awake_any _).mono ?_
          rintro e w8 ⟨rfl, hb9⟩
          go_wp2_with fail
          go_ret
          exact ⟨rfl, hbw4.trans ((hbel.trans (hb9.mono hbel.size)).mono hbw4.size)⟩
    · have d6 : decide (n ≤ 600) = false := decide_eq_false h6
      go_enter Try.func3, Try.ntmps3
      go_wp2_with fail
      refine (lightmade_any A n c _ hnm).mono ?_
      rintro e w' ⟨rfl, rfl⟩
      rw [d6]
      go_wp2_with fail
      refine (awake_any _).mono ?_
      rintro e w2 ⟨rfl, hb2⟩
      go_wp2_with fail
      go_ret
      exact ⟨rfl, hbx.trans (hb2.mono hbx.size)⟩
  · go_enter Try.func3, Try.ntmps3
    go_wp2_with fail
    refine (awake_any _).mono ?_
    rintro e w2 ⟨rfl, hb2⟩
    go_wp2_with fail
    go_ret
    exact ⟨rfl, hbx.trans (hb2.mono hbx.size)⟩

theorem cells_u8 : Try.prog.cellsOf 5 = 1 := by kernel_rfl
theorem cells_int : Try.prog.cellsOf 3 = 1 := by kernel_rfl
theorem own : ownKnob Try.prog.godebug = none := by kernel_rfl
theorem laidOut : laidOutB Try.prog = true := by kernel_rfl
theorem contract (H : Type) (enc : TypeId × Value → H) (W : World) (base : Nat) (args : Array Value) (ds gs : List (DataW H)) (before : List MemPlace)
    (hval : ∀ (j : Nat) t v, Try.f3.params[j]? = some t → args[j]? = some v → Value.okWide Try.prog W .any base t v)
    (hW : DataW.Whole enc Try.prog Try.f3.params.toList Rows.fieldsEncodeSpec.vars false W args.toList ds gs before) :
    Calls Try.prog 3 args W fun e W' => ∃ v, e = .returned v ∧ Rows.fieldsEncodeSpec.post enc Try.prog Try.f3 false true false false W args v W' := by
  have hW' := hW
  obtain ⟨p, q, hA0, hV, rfl, hfz, hnd⟩ := hW
  have hA : DataW.TrodAll enc Try.prog W 0 (fun _ => true) true Try.f3.params.toList args.toList ds p := hA0
  rw [Try.params3] at hA hval
  obtain ⟨v0, vs0, d0, ds0, p0, q0, hargs, rfl, rfl, h0, r0⟩ := trodAll_cons hA
  obtain ⟨v1, vs1, d1, ds1, p1, q1, rfl, rfl, rfl, h1, r1⟩ := trodAll_cons r0
  obtain ⟨rfl, rfl, rfl⟩ := trodAll_nil r1
  obtain rfl : args = #[v0, v1] := by cases args; simp_all
  obtain ⟨k0, s0, rfl, hk0, hs0⟩ := open_field Try.underlying23 (by kernel_rfl) rfl rfl (by kernel_rfl) (by kernel_rfl) Try.underlying3 Try.underlying9 (hval 0 23 v0 rfl rfl) h0
  obtain ⟨A1, n1, c1, l1, rfl, hn1, hr1, hw1, hc1, hm1, hk1⟩ := open_int_list Try.underlying24 Try.underlying3 cells_int (hval 1 24 v1 rfl rfl) h1
  clear hA0
  refine (walk k0 s0 hk0 hs0 A1 n1 c1 l1 hn1 hw1 hc1 hm1 hk1 W hr1).mono fun e W' ⟨he, hb⟩ => ?_
  subst he
  exact ⟨_, rfl, law_post laidOut (types_fit (by kernel_rfl)) (by kernel_rfl) Try.underlying4 rfl (fun xs hx => by
    match xs, hx with
    | [_, _], _ => rfl) hW' hb⟩

theorem lifted (os : Os) (started : os.Started) (H : Type) (enc : TypeId × Value → H) :
    ReturnsInHanded {} Try.checked os 3 .any (Rows.fieldsEncodeSpec.pre6 enc Try.prog Try.f3 Rows.fieldsEncodeRow.domain false) (Rows.fieldsEncodeSpec.post enc Try.prog Try.f3 false true false false) := by
  refine returnsInHanded_of_change (C := Try.checked) own started (by kernel_rfl) Try.func3
    (ChangeSpec.witness6 (enc := enc) (C := Try.checked) false ⟨#[], #[.agg #[.int .i64 0, .string ⟨#[]⟩], .slice none 0 0], []⟩ 8 (by kernel_rfl) (by kernel_rfl) (by kernel_rfl) (by kernel_rfl)) ?_
  intro W base args ds gs before hval hW _ _
  exact contract H enc W base args ds gs before hval hW

theorem proved : Rows.FieldsEncodeSaid :=
  OpenClaim.holds_of_wide 3 Try.f3 rfl rfl rfl rfl rfl rfl rfl ⟨rfl, rfl, rfl, rfl, rfl⟩ rfl rfl rfl rfl rfl (by kernel_rfl) Try.func3 (by kernel_rfl)
    (of_decide_eq_true (by kernel_rfl)) (by unfold Func.isWrapper; first | (rw [if_pos (by decide +kernel)]; kernel_rfl) | (rw [if_neg (by decide +kernel)]; exact ⟨rfl, rfl⟩))
    (fun os started H enc _ => lifted os started H enc)
end Go.Proofs.Ytkhdldemhaifpaa.fieldsEncode
