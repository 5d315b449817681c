/- FieldsReturns holds for every input: a field is decoded from its bytes, whatever follows. No condition. -/
import Derived.Test.YtkhdldemhaifpaaFq
import Derived.Test.YtkhdldemhaifpaaLaw
namespace Go.Proofs.Ytkhdldemhaifpaa.fieldsReturns
open Go.RowKit Go.ChangeShapes Go.WideShapes Go.ChangeAt Go.Proofs.Ytkhdldemhaifpaa.Mem Go.Proofs.Ytkhdldemhaifpaa.F2p Go.Proofs.Ytkhdldemhaifpaa.Fa Go.Proofs.Ytkhdldemhaifpaa.Same Go.Proofs.Ytkhdldemhaifpaa.Made Go.Proofs.Ytkhdldemhaifpaa.Law
set_option maxRecDepth 100000
set_option maxHeartbeats 1000000

theorem walk (A : Option Addr) (n c : Nat) (l : List Int) (hn : n = l.length) (hw : ∀ x ∈ l, -9223372036854775808 ≤ x ∧ x ≤ 9223372036854775807) (hc : n ≤ c) (hm : c ≤ maxLen) (_hA : A = none → c = 0)
    (A' : Option Addr) (n' c' : Nat) (l' : List UInt8) (hn' : n' = l'.length) (hc' : n' ≤ c') (hm' : c' ≤ maxLen) (hA' : A' = none → c' = 0)
    (w : World) (hr : IRow w.heap.size w A l) (hr' : Row w.heap.size w A' l') :
    Calls Try.prog 5 #[.slice A n c, .slice A' n' c'] w fun e w' => e = .returned (.bool true) ∧ Below w.heap.size w w' := by
  have hs' : Sl w A' n' c' l' := ⟨hn', hr', hc', hm', hA'⟩
  have hnm : n ≤ maxLen := by omega
  have hnm' : n' ≤ 9223372036854775807 := by have := lite hs'; unfold maxLen at this; omega
  have HN := Lib.hid hn
  have HW := Lib.hid hw
  have HA' := Lib.hid hA'
  clear hn hw hc hm hn' hc' hm' hr' hA' _hA
  by_cases h6 : n ≤ 600
  · have d6 : decide (n ≤ 600) = true := decide_eq_true h6
    by_cases h1 : n' ≤ 100
    · obtain ⟨i0, hi0, hz0, hz1, hzq⟩ := info_parts info5
      go_enter Try.func5, Try.ntmps5
      go_wp2_with fail
      refine (lightmade_any A n c _ hnm).mono ?_
      rintro e w' ⟨rfl, rfl⟩
      rw [d6]
      go_wp2_with fail
      refine (roll_any A n c w).mono ?_
      rintro e w1 ⟨rfl, rfl⟩
      obtain ⟨hdz, hb1⟩ := irow_light (c := c) HN.out hr HW.out h6
      go_wp2_with fail
      refine hdz.field.mono ?_
      rintro e w2 ⟨k, s, rfl, hv, hd2, hg2⟩
      have hb2 : Below w.heap.size w w2 := hb1.trans (grown_lo hg2 (Nat.le_refl _) hdz.lt)
      clear hd2 hg2 hdz hb1
      have hs5 : s.size ≤ 100000 := by have := vld_size hv; omega
      go_wp2_with fail
      have hst : (w2.alloc (.cells #[.int .i64 k, .string s] 23)).heap[w2.heap.size]? = some (.cells #[.int .i64 k, .string s] 23 (0, 0)) := heap_alloc_new w2 _
      have hb3 : Below w.heap.size w (w2.alloc (.cells #[.int .i64 k, .string s] 23)) := hb2.alloc hb2.size _
      generalize w2.heap.size = F at *
      generalize w2.alloc (.cells #[.int .i64 k, .string s] 23) = w3 at *
      refine (enc_yes k s w3 hv hs5).mono ?_
      rintro e w4 ⟨A4, n4, c4, rfl, -, s4, hb4⟩
      have hst4 := (hb4.block F (lt_of_some hst)).trans hst
      have hbw4 : Below w.heap.size w w4 := hb3.trans (hb4.mono hb3.size)
      have hl4 : n4 ≤ 64 := by obtain ⟨h63, -⟩ := vld_dat hv; have := s4.len; rw [enc_len] at this; omega
      have hn4 : A4 = none → c4 = 0 := s4.nil
      have hrow4 := s4.row
      have HN4 := Lib.hid s4.len
      have hs4' := hs'.step hbw4
      have hrow' := hs4'.row
      have HN' := Lib.hid hs4'.len
      clear hst hb4 hb3 hb2
      go_wp2_with (first
        | (at_builtin; (refine wpList_append_rd _ rfl (.const (.slice none 0 0)) (.tmp 30) _ rfl w4.heap.size 5 i0 _ 1 Try.underlying31 hi0 hz0 hz1 hzq rfl (.slice none 0 0) 0 [] rfl (World.ownsRow_nil _ _ _ _) _ A4 n4 c4 (bvs (enc k (bl s))) rfl ((len_bvs _).trans HN4.out.symm) hrow4 hn4 (bvs_one _) (by unfold maxLen; omega) (by omega) (Nat.le_refl _) ?_); intro v5 w5 hown5 hg5; have hb5 : Below w4.heap.size w4 w5 := (Below.refl _ _).grown hg5 (Nat.le_refl _) (fun k hk => by cases hk))
        | (at_builtin; (refine wpList_append_rd _ rfl (.tmp 31) (.tmp 32) _ rfl w4.heap.size 5 i0 _ 1 Try.underlying31 hi0 hz0 hz1 hzq rfl _ (0 + n4) ([] ++ bvs (enc k (bl s))) rfl hown5 _ A' n' c' (bvs l') rfl ((len_bvs l').trans HN'.out.symm) (Rd.below hrow' hb5) HA'.out (bvs_one _) (by unfold maxLen; omega) (by omega) hb5.size ?_); intro v6 w6 hown6 hg6; have hb6 : Below w4.heap.size w4 w6 := below_grown hb5 hown5 hg6 hb5.size))
      have own6 : Own w4.heap.size w6 v6 (enc k (bl s) ++ l') := own_of hown6 (by rw [List.length_append, ← HN4.out, ← HN'.out]; omega) (by rw [bvs_app]; rfl)
      have hst6 := (hb6.block F (lt_of_some hst4)).trans hst4
      clear hown5 hg5 hb5 hown6 hg6 hst4 hrow4 hrow'
      obtain ⟨A6, n6, c6, rfl, s6⟩ := Sl.of_own own6
      have hn6 : n6 ≤ 100000 := by rw [s6.len, List.length_append, ← HN4.out, ← HN'.out]; omega
      refine (dec_p A6 n6 c6 _ w6 s6 hn6).mono ?_
      rw [dec_enc k (bl s) l' hv]
      rintro e w7 ⟨rfl, hb7⟩
      have hst7 := (hb7.block F (lt_of_some hst6)).trans hst6
      have hF7 := lt_of_some hst7
      unfold out
      simp only [mk_bl]
      have hstF := (Below.heap_alloc w7 (.cells #[.int .i64 k, .string s] 23) _ hF7).trans hst7
      have hstG : (w7.alloc (.cells #[.int .i64 k, .string s] 23)).heap[w7.heap.size]? = some (.cells #[.int .i64 k, .string s] 23 (0, 0)) := heap_alloc_new w7 _
      have hb8 : Below w4.heap.size w4 (w7.alloc (.cells #[.int .i64 k, .string s] 23)) := (hb6.trans (hb7.mono hb6.size)).alloc (by have := hb6.size; have := hb7.size; omega) _
      obtain ⟨k0, k1, -⟩ := pair_cells hstF
      have HX := Lib.hid (show (enc k (bl s)).length = n4 from HN4.out.symm)
      rw [HX.out]
      go_wp2_with fail
      generalize w7.heap.size = G at *
      generalize w7.alloc (.cells #[.int .i64 k, .string s] 23) = w8 at *
      refine (valid_p k s w8 hs5).mono ?_
      rintro e w9 ⟨rfl, hb9⟩
      rw [hv]
      have hstF9 := (hb9.block F (lt_of_some hstF)).trans hstF
      have hstG9 := (hb9.block G (lt_of_some hstG)).trans hstG
      obtain ⟨f0, f1, -⟩ := pair_cells hstF9
      obtain ⟨g0, g1, -⟩ := pair_cells hstG9
      have hb10 : Below w4.heap.size w4 w9 := hb8.trans (hb9.mono hb8.size)
      clear hstF hstG k0 k1 hstF9 hstG9 hb7 hst7 hst6 hF7
      go_wp2_with fail
      refine (fsame_yes k s w9).mono ?_
      rintro e w10 ⟨rfl, hb11⟩
      go_wp2_with fail
      refine (awake_any _).mono ?_
      rintro e w11 ⟨rfl, hb12⟩
      go_wp2_with fail
      go_ret
      exact ⟨rfl, hbw4.trans (((hb10.trans (hb11.mono hb10.size)).trans (hb12.mono (Nat.le_trans hb10.size hb11.size))).mono hbw4.size)⟩
    · go_enter Try.func5, Try.ntmps5
      go_wp2_with fail
      refine (lightmade_any A n c _ hnm).mono ?_
      rintro e w' ⟨rfl, rfl⟩
      rw [d6]
      go_wp2_with fail
      refine (awake_any _).mono ?_
      rintro e w2 ⟨rfl, hb2⟩
      go_wp2_with fail
      go_ret
      exact ⟨rfl, hb2⟩
  · have d6 : decide (n ≤ 600) = false := decide_eq_false h6
    go_enter Try.func5, Try.ntmps5
    go_wp2_with fail
    refine (lightmade_any A n c _ hnm).mono ?_
    rintro e w' ⟨rfl, rfl⟩
    rw [d6]
    go_wp2_with fail
    refine (awake_any _).mono ?_
    rintro e w2 ⟨rfl, hb2⟩
    go_wp2_with fail
    go_ret
    exact ⟨rfl, hb2⟩

theorem cells_u8 : Try.prog.cellsOf 5 = 1 := by kernel_rfl
theorem cells_int : Try.prog.cellsOf 3 = 1 := by kernel_rfl
theorem own : ownKnob Try.prog.godebug = none := by kernel_rfl
theorem laidOut : laidOutB Try.prog = true := by kernel_rfl
theorem contract (H : Type) (enc : TypeId × Value → H) (W : World) (base : Nat) (args : Array Value) (ds gs : List (DataW H)) (before : List MemPlace)
    (hval : ∀ (j : Nat) t v, Try.f5.params[j]? = some t → args[j]? = some v → Value.okWide Try.prog W .any base t v)
    (hW : DataW.Whole enc Try.prog Try.f5.params.toList Rows.fieldsReturnsSpec.vars false W args.toList ds gs before) :
    Calls Try.prog 5 args W fun e W' => ∃ v, e = .returned v ∧ Rows.fieldsReturnsSpec.post enc Try.prog Try.f5 false true false false W args v W' := by
  have hW' := hW
  obtain ⟨p, q, hA0, hV, rfl, hfz, hnd⟩ := hW
  have hA : DataW.TrodAll enc Try.prog W 0 (fun _ => true) true Try.f5.params.toList args.toList ds p := hA0
  rw [Try.params5] at hA hval
  obtain ⟨v0, vs0, d0, ds0, p0, q0, hargs, rfl, rfl, h0, r0⟩ := trodAll_cons hA
  obtain ⟨v1, vs1, d1, ds1, p1, q1, rfl, rfl, rfl, h1, r1⟩ := trodAll_cons r0
  obtain ⟨rfl, rfl, rfl⟩ := trodAll_nil r1
  obtain rfl : args = #[v0, v1] := by cases args; simp_all
  obtain ⟨A0, n0, c0, l0, rfl, hn0, hr0, hw0, hc0, hm0, hk0⟩ := open_int_list Try.underlying24 Try.underlying3 cells_int (hval 0 24 v0 rfl rfl) h0
  obtain ⟨A1, n1, c1, l1, rfl, hn1, hr1, hc1, hm1, hk1⟩ := open_bytes Try.underlying31 Try.underlying5 cells_u8 (hval 1 31 v1 rfl rfl) h1
  clear hA0
  refine (walk A0 n0 c0 l0 hn0 hw0 hc0 hm0 hk0 A1 n1 c1 l1 hn1 hc1 hm1 hk1 W hr0 hr1).mono fun e W' ⟨he, hb⟩ => ?_
  subst he
  exact ⟨_, rfl, law_post laidOut (types_fit (by kernel_rfl)) (by kernel_rfl) Try.underlying4 rfl (fun xs hx => by
    match xs, hx with
    | [_, _], _ => rfl) hW' hb⟩

theorem lifted (os : Os) (started : os.Started) (H : Type) (enc : TypeId × Value → H) :
    ReturnsInHanded {} Try.checked os 5 .any (Rows.fieldsReturnsSpec.pre6 enc Try.prog Try.f5 Rows.fieldsReturnsRow.domain false) (Rows.fieldsReturnsSpec.post enc Try.prog Try.f5 false true false false) := by
  refine returnsInHanded_of_change (C := Try.checked) own started (by kernel_rfl) Try.func5
    (ChangeSpec.witness6 (enc := enc) (C := Try.checked) false ⟨#[], #[.slice none 0 0, .slice none 0 0], []⟩ 8 (by kernel_rfl) (by kernel_rfl) (by kernel_rfl) (by kernel_rfl)) ?_
  intro W base args ds gs before hval hW _ _
  exact contract H enc W base args ds gs before hval hW

theorem proved : Rows.FieldsReturnsSaid :=
  OpenClaim.holds_of_wide 5 Try.f5 rfl rfl rfl rfl rfl rfl rfl ⟨rfl, rfl, rfl, rfl, rfl⟩ rfl rfl rfl rfl rfl (by kernel_rfl) Try.func5 (by kernel_rfl)
    (of_decide_eq_true (by kernel_rfl)) (by unfold Func.isWrapper; first | (rw [if_pos (by decide +kernel)]; kernel_rfl) | (rw [if_neg (by decide +kernel)]; exact ⟨rfl, rfl⟩))
    (fun os started H enc _ => lifted os started H enc)
end Go.Proofs.Ytkhdldemhaifpaa.fieldsReturns
