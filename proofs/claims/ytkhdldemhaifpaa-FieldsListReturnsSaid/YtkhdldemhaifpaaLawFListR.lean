/- FieldsListReturns holds for every input: a list is decoded from its bytes, whatever follows, and a list that is cut off is truncated. No condition. -/
import Derived.Test.YtkhdldemhaifpaaMf
import Derived.Test.YtkhdldemhaifpaaFo
import Derived.Test.YtkhdldemhaifpaaLaw
namespace Go.Proofs.Ytkhdldemhaifpaa.fieldsListReturns
open Go.RowKit Go.ChangeShapes Go.WideShapes Go.ChangeAt Go.Proofs.Ytkhdldemhaifpaa.Mem Go.Proofs.Ytkhdldemhaifpaa.F2p Go.Proofs.Ytkhdldemhaifpaa.Fa Go.Proofs.Ytkhdldemhaifpaa.Fl Go.Proofs.Ytkhdldemhaifpaa.Made Go.Proofs.Ytkhdldemhaifpaa.Law
set_option maxRecDepth 100000
set_option maxHeartbeats 3000000

theorem elist_ok {x : List Fi} (h : okf x = true) (hl : x.length ≤ 16) : elist x = (0, encs x ++ [193]) := by
  unfold elist
  rw [if_neg (by omega), if_pos h]
theorem encs_le {x : List Fi} (h : okf x = true) : (encs x).length ≤ 64 * x.length := by
  induction x with
  | nil => simp [encs]
  | cons y x ih =>
    obtain ⟨h1, h2⟩ := okf_cons h
    have := ih h2
    have := enc_len64 h1
    rw [encs_cons, List.length_append, List.length_cons]; omega
theorem walk (A : Option Addr) (n c : Nat) (l : List Int) (hn : n = l.length) (hw : ∀ x ∈ l, -9223372036854775808 ≤ x ∧ x ≤ 9223372036854775807) (hc : n ≤ c) (hm : c ≤ maxLen) (_hA : A = none → c = 0)
    (A' : Option Addr) (n' c' : Nat) (l' : List UInt8) (hn' : n' = l'.length) (hc' : n' ≤ c') (hm' : c' ≤ maxLen) (hA' : A' = none → c' = 0)
    (y : Int) (hy : -9223372036854775808 ≤ y ∧ y ≤ 9223372036854775807)
    (w : World) (hr : IRow w.heap.size w A l) (hr' : Row w.heap.size w A' l') :
    Calls Try.prog 10 #[.slice A n c, .slice A' n' c', .int .i64 y] w fun e w' => e = .returned (.bool true) ∧ Below w.heap.size w w' := by
  have hs' : Sl w A' n' c' l' := ⟨hn', hr', hc', hm', hA'⟩
  have hnm : n ≤ maxLen := by omega
  have hnm' : n' ≤ 9223372036854775807 := by have := lite hs'; unfold maxLen at this; omega
  have HN := Lib.hid hn
  have HW := Lib.hid hw
  have HA' := Lib.hid hA'
  clear hn hw hc hm hn' hc' hm' hr' hA' _hA
  by_cases h6 : n ≤ 600
  · have d6 : decide (n ≤ 600) = true := decide_eq_true h6
    by_cases h1 : n' ≤ 100
    · obtain ⟨i0, hi0, hz0, hz1, hzq⟩ := info_parts info5
      go_enter Try.func10, Try.ntmps10
      go_wp2_with fail
      refine (lightmade_any A n c _ hnm).mono ?_
      rintro e w' ⟨rfl, rfl⟩
      rw [d6]
      go_wp2_with fail
      refine (roll_any A n c w).mono ?_
      rintro e w1 ⟨rfl, rfl⟩
      obtain ⟨hdz, hb1⟩ := irow_light (c := c) HN.out hr HW.out h6
      go_wp2_with fail
      refine hdz.fields.mono ?_
      rintro e w2 ⟨v, x, rfl, hown, hok, hsz, hx16, hd2, hg2⟩
      have hb2 : Below w.heap.size w w2 := hb1.trans (grown_lo hg2 (Nat.le_refl _) hdz.lt)
      obtain ⟨A2, n2, c2, rfl, fs2⟩ := hown.sl
      have hn2 : n2 ≤ 16 := by rw [fs2.len]; exact hx16
      have hep := elist_p A2 n2 c2 x w2 fs2 hsz (by omega)
      rw [elist_ok hok hx16] at hep
      have HEP := Lib.hid hep
      have HL := Lib.hid (encs_le hok)
      have HOK := Lib.hid hok
      have FS2 := Lib.hid fs2
      have HX := Lib.hid hx16
      clear hd2 hg2 hdz hb1 hep hown hok hsz fs2 hr hx16
      go_wp2_with fail
      refine HEP.out.mono ?_
      rintro e w4 ⟨A4, n4, c4, rfl, s4, hb4⟩
      have hbw4 : Below w.heap.size w w4 := hb2.trans (hb4.mono hb2.size)
      have fs4 := FS2.out.step hb4
      have hl4 : n4 ≤ 1025 := by have := HL.out; have := HX.out; rw [s4.len, List.length_append]; simp; omega
      have hn4 : A4 = none → c4 = 0 := s4.nil
      have hrow4 := s4.row
      have h14 : 1 ≤ n4 := by rw [s4.len, List.length_append]; simp
      have hnz : ((n4 : Int) == 0) = false := by rw [beq_eq_false_iff_ne]; omega
      have HN4 := Lib.hid s4.len
      have S4 := Lib.hid s4
      have F4 := Lib.hid fs4
      have hs4' := hs'.step hbw4
      have hrow' := hs4'.row
      have HN' := Lib.hid hs4'.len
      clear hb4 hb2 s4 fs4
      go_wp2_with (first
        | (at_builtin; (refine wpList_append_rd _ rfl (.const (.slice none 0 0)) (.tmp 41) _ rfl w4.heap.size 5 i0 _ 1 Try.underlying31 hi0 hz0 hz1 hzq rfl (.slice none 0 0) 0 [] rfl (World.ownsRow_nil _ _ _ _) _ A4 n4 c4 (bvs (encs x ++ [193])) rfl ((len_bvs _).trans HN4.out.symm) hrow4 hn4 (bvs_one _) (by unfold maxLen; omega) (by omega) (Nat.le_refl _) ?_); intro v5 w5 hown5 hg5; have hb5 : Below w4.heap.size w4 w5 := (Below.refl _ _).grown hg5 (Nat.le_refl _) (fun k hk => by cases hk))
        | (at_builtin; (refine wpList_append_rd _ rfl (.tmp 42) (.tmp 43) _ rfl w4.heap.size 5 i0 _ 1 Try.underlying31 hi0 hz0 hz1 hzq rfl _ (0 + n4) ([] ++ bvs (encs x ++ [193])) rfl hown5 _ A' n' c' (bvs l') rfl ((len_bvs l').trans HN'.out.symm) (Rd.below hrow' hb5) HA'.out (bvs_one _) (by unfold maxLen; omega) (by omega) hb5.size ?_); intro v6 w6 hown6 hg6; have hb6 : Below w4.heap.size w4 w6 := below_grown hb5 hown5 hg6 hb5.size))
      have own6 : Own w4.heap.size w6 v6 (encs x ++ [193] ++ l') := own_of hown6 (by rw [List.length_append, ← HN4.out, ← HN'.out]; omega) (by rw [bvs_app (encs x ++ [193]) l']; rfl)
      clear hown5 hg5 hb5 hown6 hg6 hrow4 hrow'
      obtain ⟨A6, n6, c6, rfl, s6⟩ := Sl.of_own own6
      have hn6 : n6 ≤ 100000 := by rw [s6.len, List.length_append, ← HN4.out, ← HN'.out]; omega
      have hdp := dlist_p A6 n6 c6 _ w6 s6 hn6
      rw [dl_whole x l' HOK.out, if_pos HX.out] at hdp
      have hlx : (encs x).length + 1 = n4 := by rw [HN4.out, List.length_append]; rfl
      simp only [hlx] at hdp
      refine hdp.mono ?_
      rintro e w7 ⟨A7, n7, c7, rfl, fs7, hb7⟩
      have hb8 : Below w4.heap.size w4 w7 := hb6.trans (hb7.mono hb6.size)
      have F7 := Lib.hid fs7
      have hlx' := Lib.hid hlx
      have hn7 : n7 ≤ 16 := by rw [fs7.len]; exact HX.out
      clear hdp own6 s6 hb7 hb6 hlx fs7
      go_wp2_with fail
      refine (mod_at y n4 n4 w7 rfl hy.1 hy.2 h14 (by omega)).mono ?_
      rintro e w' ⟨m, hm4, rfl, rfl⟩
      have S7 := Lib.hid (S4.out.step hb8)
      have hcap := S4.out.cap
      have hmax := S4.out.max
      unfold maxLen at hmax
      go_wp2_with fail
      have sl7 : Sl w7 A4 m c4 ((encs x ++ [193]).take m) := by
        have h := S7.out
        exact ⟨by rw [List.length_take, ← h.len]; omega, row_take h.row m, by omega, h.max, h.nil⟩
      have hdq := dlist_p A4 m c4 _ w7 sl7 (by omega)
      rw [dl_part x m HOK.out (by rw [hlx'.out]; exact hm4) HX.out] at hdq
      refine hdq.mono ?_
      rintro e w8 ⟨A8, n8, c8, rfl, fs8, hb9⟩
      obtain rfl : n8 = 0 := fs8.len
      have hb10 : Below w4.heap.size w4 w8 := hb8.trans (hb9.mono hb8.size)
      have G4 := Lib.hid (F4.out.step hb10)
      have G7 := Lib.hid (F7.out.step hb9)
      clear hdq sl7 fs8 hb9
      go_wp2_with fail
      refine (fsame_list G4.out G7.out (by omega)).mono ?_
      rintro e w9 ⟨rfl, hb11⟩
      go_wp2_with fail
      refine (awake_any _).mono ?_
      rintro e w10 ⟨rfl, hb12⟩
      go_wp2_with fail
      go_ret
      exact ⟨rfl, hbw4.trans (((hb10.trans (hb11.mono hb10.size)).trans (hb12.mono (Nat.le_trans hb10.size hb11.size))).mono hbw4.size)⟩
    · go_enter Try.func10, Try.ntmps10
      go_wp2_with fail
      refine (lightmade_any A n c _ hnm).mono ?_
      rintro e w' ⟨rfl, rfl⟩
      rw [d6]
      go_wp2_with fail
      refine (awake_any _).mono ?_
      rintro e w2 ⟨rfl, hb2⟩
      go_wp2_with fail
      go_ret
      exact ⟨rfl, hb2⟩
  · have d6 : decide (n ≤ 600) = false := decide_eq_false h6
    go_enter Try.func10, Try.ntmps10
    go_wp2_with fail
    refine (lightmade_any A n c _ hnm).mono ?_
    rintro e w' ⟨rfl, rfl⟩
    rw [d6]
    go_wp2_with fail
    refine (awake_any _).mono ?_
    rintro e w2 ⟨rfl, hb2⟩
    go_wp2_with fail
    go_ret
    exact ⟨rfl, hb2⟩

theorem cells_u8 : Try.prog.cellsOf 5 = 1 := by kernel_rfl
theorem cells_int : Try.prog.cellsOf 3 = 1 := by kernel_rfl
theorem own : ownKnob Try.prog.godebug = none := by kernel_rfl
theorem laidOut : laidOutB Try.prog = true := by kernel_rfl
theorem contract (H : Type) (enc : TypeId × Value → H) (W : World) (base : Nat) (args : Array Value) (ds gs : List (DataW H)) (before : List MemPlace)
    (hval : ∀ (j : Nat) t v, Try.f10.params[j]? = some t → args[j]? = some v → Value.okWide Try.prog W .any base t v)
    (hW : DataW.Whole enc Try.prog Try.f10.params.toList Rows.fieldsListReturnsSpec.vars false W args.toList ds gs before) :
    Calls Try.prog 10 args W fun e W' => ∃ v, e = .returned v ∧ Rows.fieldsListReturnsSpec.post enc Try.prog Try.f10 false true false false W args v W' := by
  have hW' := hW
  obtain ⟨p, q, hA0, hV, rfl, hfz, hnd⟩ := hW
  have hA : DataW.TrodAll enc Try.prog W 0 (fun _ => true) true Try.f10.params.toList args.toList ds p := hA0
  rw [Try.params10] at hA hval
  obtain ⟨v0, vs0, d0, ds0, p0, q0, hargs, rfl, rfl, h0, r0⟩ := trodAll_cons hA
  obtain ⟨v1, vs1, d1, ds1, p1, q1, rfl, rfl, rfl, h1, r1⟩ := trodAll_cons r0
  obtain ⟨v2, vs2, d2, ds2, p2, q2, rfl, rfl, rfl, h2, r2⟩ := trodAll_cons r1
  obtain ⟨rfl, rfl, rfl⟩ := trodAll_nil r2
  obtain rfl : args = #[v0, v1, v2] := by cases args; simp_all
  obtain ⟨A0, n0, c0, l0, rfl, hn0, hr0, hw0, hc0, hm0, hk0⟩ := open_int_list Try.underlying24 Try.underlying3 cells_int (hval 0 24 v0 rfl rfl) h0
  obtain ⟨A1, n1, c1, l1, rfl, hn1, hr1, hc1, hm1, hk1⟩ := open_bytes Try.underlying31 Try.underlying5 cells_u8 (hval 1 31 v1 rfl rfl) h1
  obtain ⟨a2, rfl, -, -, w2⟩ := open_int Try.underlying3 (hval 2 3 v2 rfl rfl) h2
  clear hA0
  refine (walk A0 n0 c0 l0 hn0 hw0 hc0 hm0 hk0 A1 n1 c1 l1 hn1 hc1 hm1 hk1 a2 (bounds_i64 w2) W hr0 hr1).mono fun e W' ⟨he, hb⟩ => ?_
  subst he
  exact ⟨_, rfl, law_post laidOut (types_fit (by kernel_rfl)) (by kernel_rfl) Try.underlying4 rfl (fun xs hx => by
    match xs, hx with
    | [_, _, _], _ => rfl) hW' hb⟩

theorem lifted (os : Os) (started : os.Started) (H : Type) (enc : TypeId × Value → H) :
    ReturnsInHanded {} Try.checked os 10 .any (Rows.fieldsListReturnsSpec.pre6 enc Try.prog Try.f10 Rows.fieldsListReturnsRow.domain false) (Rows.fieldsListReturnsSpec.post enc Try.prog Try.f10 false true false false) := by
  refine returnsInHanded_of_change (C := Try.checked) own started (by kernel_rfl) Try.func10
    (ChangeSpec.witness6 (enc := enc) (C := Try.checked) false ⟨#[], #[.slice none 0 0, .slice none 0 0, .int .i64 0], []⟩ 8 (by kernel_rfl) (by kernel_rfl) (by kernel_rfl) (by kernel_rfl)) ?_
  intro W base args ds gs before hval hW _ _
  exact contract H enc W base args ds gs before hval hW

theorem proved : Rows.FieldsListReturnsSaid :=
  OpenClaim.holds_of_wide 10 Try.f10 rfl rfl rfl rfl rfl rfl rfl ⟨rfl, rfl, rfl, rfl, rfl⟩ rfl rfl rfl rfl rfl (by kernel_rfl) Try.func10 (by kernel_rfl)
    (of_decide_eq_true (by kernel_rfl)) (by unfold Func.isWrapper; first | (rw [if_pos (by decide +kernel)]; kernel_rfl) | (rw [if_neg (by decide +kernel)]; exact ⟨rfl, rfl⟩))
    (fun os started H enc _ => lifted os started H enc)
end Go.Proofs.Ytkhdldemhaifpaa.fieldsListReturns
