/- FieldsShortest holds for every input: no valid field of the text has a shorter encoding than Best's, and Best fails only if there is none. No condition. -/
import Derived.Test.YtkhdldemhaifpaaMd
import Derived.Test.YtkhdldemhaifpaaLaw
namespace Go.Proofs.Ytkhdldemhaifpaa.fieldsShortest
open Go.RowKit Go.ChangeShapes Go.WideShapes Go.ChangeAt Go.Proofs.Ytkhdldemhaifpaa.Mem Go.Proofs.Ytkhdldemhaifpaa.F2p Go.Proofs.Ytkhdldemhaifpaa.Fa Go.Proofs.Ytkhdldemhaifpaa.Same Go.Proofs.Ytkhdldemhaifpaa.Made Go.Proofs.Ytkhdldemhaifpaa.Law
set_option maxRecDepth 100000
set_option maxHeartbeats 2000000

theorem enc_gen (k : Int) (s : ByteArray) (w : World) (hs : s.size ≤ 100000) :
    Calls Try.prog 17 #[.agg #[.int .i64 k, .string s]] w fun e w' => ∃ A n c x, e = .returned (.tuple #[.slice A n c, .int .i64 x]) ∧ (vld k (bl s) = true → x = 0 ∧ n = (enc k (bl s)).length) ∧ (vld k (bl s) = false → x = 1 ∧ n = 0) ∧ n ≤ 64 ∧ Below w.heap.size w w' := by
  rcases hv : vld k (bl s) with _ | _
  · refine (enc_no k s w hv hs).mono ?_
    rintro e w' ⟨rfl, hb⟩
    exact ⟨none, 0, 0, 1, rfl, fun h => (by cases h), fun _ => ⟨rfl, rfl⟩, by omega, hb⟩
  · refine (enc_yes k s w hv hs).mono ?_
    rintro e w' ⟨A, n, c, rfl, -, hsl, hb⟩
    refine ⟨A, n, c, 0, rfl, fun _ => ⟨rfl, hsl.len⟩, fun h => (by cases h), ?_, hb⟩
    obtain ⟨h63, -⟩ := vld_dat hv
    rw [hsl.len, enc_len]; omega
theorem best_cases (l : List UInt8) : (∃ q : Nat, 1 ≤ q ∧ q ≤ 3 ∧ low l q ∧ vld (q : Int) l = true ∧ best l = ((q : Int), l, 0)) ∨ (low l 4 ∧ best l = (0, [], 6)) := by
  have l1 : low l 1 := fun k h1 h2 => by omega
  rcases h1 : vld 1 l with _ | _
  · have l2 := low_succ (q := 1) l1 h1
    rcases h2 : vld 2 l with _ | _
    · have l3 := low_succ (q := 2) l2 h2
      rcases h3 : vld 3 l with _ | _
      · have l4 := low_succ (q := 3) l3 h3
        exact .inr ⟨l4, best_no l4⟩
      · exact .inl ⟨3, by omega, by omega, l3, h3, best_yes l3 (by omega) (by omega) h3⟩
    · exact .inl ⟨2, by omega, by omega, l2, h2, best_yes l2 (by omega) (by omega) h2⟩
  · exact .inl ⟨1, by omega, by omega, l1, h1, best_yes l1 (by omega) (by omega) h1⟩
theorem enc_least (l : List UInt8) {q p : Nat} (h1 : 1 ≤ q) (hqp : q ≤ p) (h3 : p ≤ 3) : (enc (q : Int) l).length ≤ (enc (p : Int) l).length := by
  obtain ⟨e1, e2⟩ := enc_short l
  have hq : q = 1 ∨ q = 2 ∨ q = 3 := by omega
  have hp : p = 1 ∨ p = 2 ∨ p = 3 := by omega
  rcases hq with rfl | rfl | rfl <;> rcases hp with rfl | rfl | rfl <;> first | exact Nat.le_refl _ | exact e1 | exact e2 | exact Nat.le_trans e1 e2 | omega

theorem walk (A : Option Addr) (n c : Nat) (l : List Int) (hn : n = l.length) (hw : ∀ x ∈ l, -9223372036854775808 ≤ x ∧ x ≤ 9223372036854775807) (hc : n ≤ c) (hm : c ≤ maxLen) (_hA : A = none → c = 0)
    (y : Int) (hy : -9223372036854775808 ≤ y ∧ y ≤ 9223372036854775807)
    (w : World) (hr : IRow w.heap.size w A l) :
    Calls Try.prog 8 #[.slice A n c, .int .i64 y] w fun e w' => e = .returned (.bool true) ∧ Below w.heap.size w w' := by
  have hnm : n ≤ maxLen := by omega
  have HN := Lib.hid hn
  have HW := Lib.hid hw
  clear hn hw hc hm _hA
  by_cases h6 : n ≤ 600
  · have d6 : decide (n ≤ 600) = true := decide_eq_true h6
    go_enter Try.func8, Try.ntmps8
    go_wp2_with fail
    refine (lightmade_any A n c _ hnm).mono ?_
    rintro e w' ⟨rfl, rfl⟩
    rw [d6]
    go_wp2_with fail
    refine (roll_any A n c w).mono ?_
    rintro e w1 ⟨rfl, rfl⟩
    obtain ⟨hdz, hb1⟩ := irow_light (c := c) HN.out hr HW.out h6
    go_wp2_with fail
    refine hdz.odd.mono ?_
    rintro e w2 ⟨k, s, rfl, hsz, hd2, hg2⟩
    have hb2 : Below w.heap.size w w2 := hb1.trans (grown_lo hg2 (Nat.le_refl _) hdz.lt)
    clear hd2 hg2 hdz hb1
    have hs5 : s.size ≤ 100000 := by omega
    have hfl : ∀ u : World, (Instr.field 23 (.agg #[.int .i64 k, .string s]) 1).run Try.prog u = .ok (.string s) u := fun _ => by kernel_rfl
    go_wp2_with fail
    clear hfl
    refine (best_p s w2 hs5).mono ?_
    rintro e w3 ⟨rfl, hb3⟩
    have hz2 := hb2.size
    have hz3 := hb3.size
    rcases best_cases (bl s) with ⟨q, hq1, hq3, hlow, hvq, hbest⟩ | ⟨hlow, hbest⟩
    · rw [hbest]
      unfold bout
      simp only [mk_bl]
      have hst3 : (w3.alloc (.cells #[.int .i64 (q : Int), .string s] 23)).heap[w3.heap.size]? = some (.cells #[.int .i64 (q : Int), .string s] 23 (0, 0)) := heap_alloc_new w3 _
      have hb4 : Below w.heap.size w (w3.alloc (.cells #[.int .i64 (q : Int), .string s] 23)) := (hb2.trans (hb3.mono hz2)).alloc (by omega) _
      have hlq := Lib.hid hlow
      clear hlow hbest
      go_wp2_with fail
      generalize w3.alloc (.cells #[.int .i64 (q : Int), .string s] 23) = w4 at *
      refine (mod_at y 3 3 w4 rfl hy.1 hy.2 (by omega) (by omega)).mono ?_
      rintro e w' ⟨m, hm3, rfl, rfl⟩
      go_wp2_with fail
      have hst5 := (Below.heap_alloc w4 (.cells #[.int .i64 (1 + (m : Int)), .string s] 23) _ (lt_of_some hst3)).trans hst3
      have hb5 : Below w.heap.size w (w4.alloc (.cells #[.int .i64 (1 + (m : Int)), .string s] 23)) := hb4.alloc hb4.size _
      generalize w4.alloc (.cells #[.int .i64 (1 + (m : Int)), .string s] 23) = w5 at *
      refine (enc_gen (1 + (m : Int)) s w5 hs5).mono ?_
      rintro e w6 ⟨A6, n6, c6, x6, rfl, y6, z6, b6, hb6⟩
      have hst6 := (hb6.block w3.heap.size (lt_of_some hst5)).trans hst5
      have hb7 : Below w.heap.size w w6 := hb5.trans (hb6.mono hb5.size)
      obtain ⟨c0, c1, -⟩ := pair_cells hst6
      clear hst3 hst5 hb6 hb5 hb4 hb3 hb2 hz2 hz3
      go_wp2_with fail
      refine (enc_yes (q : Int) s w6 hvq hs5).mono ?_
      rintro e w7 ⟨A7, n7, c7, rfl, -, s7, hb8⟩
      obtain ⟨k0, k1, -⟩ := pair_cells ((hb8.block w3.heap.size (lt_of_some hst6)).trans hst6)
      have hb9 : Below w.heap.size w w7 := hb7.trans (hb8.mono hb7.size)
      have hle : vld (1 + (m : Int)) (bl s) = true → n7 ≤ n6 := fun h => by
        rw [(y6 h).2, s7.len]
        have e1 : (1 + (m : Int)) = ((1 + m : Nat) : Int) := by omega
        rw [e1] at h ⊢
        refine enc_least (bl s) hq1 ?_ (by omega)
        rcases Nat.lt_or_ge (1 + m) q with hlt | hge
        · rw [hlq.out (1 + m) (by omega) hlt] at h; cases h
        · exact hge
      have hn7 : n7 ≤ 64 := by
        obtain ⟨h63, -⟩ := vld_dat hvq
        rw [s7.len, enc_len]; omega
      have hqn : (((q : Int)) != 0) = true := by simp; omega
      have HS7 := Lib.hid s7
      clear c0 c1 hst6 hb8 hb7 s7 hvq
      rcases hvm : vld (1 + (m : Int)) (bl s) with _ | _
      · obtain ⟨rfl, -⟩ := z6 hvm
        clear y6 z6 hvm hle
        go_wp2_with fail
        refine (awake_any _).mono ?_
        rintro e w8 ⟨rfl, hb10⟩
        go_wp2_with fail
        go_ret
        exact ⟨rfl, hb9.trans (hb10.mono hb9.size)⟩
      · obtain ⟨rfl, -⟩ := y6 hvm
        have hle2 := hle hvm
        clear y6 z6 hvm hle
        go_wp2_with fail
        refine (awake_any _).mono ?_
        rintro e w8 ⟨rfl, hb10⟩
        go_wp2_with fail
        go_ret
        exact ⟨rfl, hb9.trans (hb10.mono hb9.size)⟩
    · rw [hbest]
      unfold bout
      have hb4 : Below w.heap.size w (w3.alloc (.cells #[.int .i64 0, .string ⟨#[]⟩] 23)) := (hb2.trans (hb3.mono hz2)).alloc (by omega) _
      have hlq := Lib.hid hlow
      clear hlow hbest
      go_wp2_with fail
      generalize w3.alloc (.cells #[.int .i64 0, .string ⟨#[]⟩] 23) = w4 at *
      refine (mod_at y 3 3 w4 rfl hy.1 hy.2 (by omega) (by omega)).mono ?_
      rintro e w' ⟨m, hm3, rfl, rfl⟩
      go_wp2_with fail
      have hb5 : Below w.heap.size w (w4.alloc (.cells #[.int .i64 (1 + (m : Int)), .string s] 23)) := hb4.alloc hb4.size _
      generalize w4.alloc (.cells #[.int .i64 (1 + (m : Int)), .string s] 23) = w5 at *
      have hvm : vld (1 + (m : Int)) (bl s) = false := by
        have e1 : (1 + (m : Int)) = ((1 + m : Nat) : Int) := by omega
        rw [e1]; exact hlq.out (1 + m) (by omega) (by omega)
      refine (enc_no (1 + (m : Int)) s w5 hvm hs5).mono ?_
      rintro e w6 ⟨rfl, hb6⟩
      have hb7 : Below w.heap.size w w6 := hb5.trans (hb6.mono hb5.size)
      clear hvm
      go_wp2_with fail
      refine (awake_any _).mono ?_
      rintro e w8 ⟨rfl, hb10⟩
      go_wp2_with fail
      go_ret
      exact ⟨rfl, hb7.trans (hb10.mono hb7.size)⟩
  · have d6 : decide (n ≤ 600) = false := decide_eq_false h6
    go_enter Try.func8, Try.ntmps8
    go_wp2_with fail
    refine (lightmade_any A n c _ hnm).mono ?_
    rintro e w' ⟨rfl, rfl⟩
    rw [d6]
    go_wp2_with fail
    refine (awake_any _).mono ?_
    rintro e w2 ⟨rfl, hb2⟩
    go_wp2_with fail
    go_ret
    exact ⟨rfl, hb2⟩

theorem cells_u8 : Try.prog.cellsOf 5 = 1 := by kernel_rfl
theorem cells_int : Try.prog.cellsOf 3 = 1 := by kernel_rfl
theorem own : ownKnob Try.prog.godebug = none := by kernel_rfl
theorem laidOut : laidOutB Try.prog = true := by kernel_rfl
theorem contract (H : Type) (enc : TypeId × Value → H) (W : World) (base : Nat) (args : Array Value) (ds gs : List (DataW H)) (before : List MemPlace)
    (hval : ∀ (j : Nat) t v, Try.f8.params[j]? = some t → args[j]? = some v → Value.okWide Try.prog W .any base t v)
    (hW : DataW.Whole enc Try.prog Try.f8.params.toList Rows.fieldsShortestSpec.vars false W args.toList ds gs before) :
    Calls Try.prog 8 args W fun e W' => ∃ v, e = .returned v ∧ Rows.fieldsShortestSpec.post enc Try.prog Try.f8 false true false false W args v W' := by
  have hW' := hW
  obtain ⟨p, q, hA0, hV, rfl, hfz, hnd⟩ := hW
  have hA : DataW.TrodAll enc Try.prog W 0 (fun _ => true) true Try.f8.params.toList args.toList ds p := hA0
  rw [Try.params8] at hA hval
  obtain ⟨v0, vs0, d0, ds0, p0, q0, hargs, rfl, rfl, h0, r0⟩ := trodAll_cons hA
  obtain ⟨v1, vs1, d1, ds1, p1, q1, rfl, rfl, rfl, h1, r1⟩ := trodAll_cons r0
  obtain ⟨rfl, rfl, rfl⟩ := trodAll_nil r1
  obtain rfl : args = #[v0, v1] := by cases args; simp_all
  obtain ⟨A0, n0, c0, l0, rfl, hn0, hr0, hw0, hc0, hm0, hk0⟩ := open_int_list Try.underlying24 Try.underlying3 cells_int (hval 0 24 v0 rfl rfl) h0
  obtain ⟨a1, rfl, -, -, w1⟩ := open_int Try.underlying3 (hval 1 3 v1 rfl rfl) h1
  clear hA0
  refine (walk A0 n0 c0 l0 hn0 hw0 hc0 hm0 hk0 a1 (bounds_i64 w1) W hr0).mono fun e W' ⟨he, hb⟩ => ?_
  subst he
  exact ⟨_, rfl, law_post laidOut (types_fit (by kernel_rfl)) (by kernel_rfl) Try.underlying4 rfl (fun xs hx => by
    match xs, hx with
    | [_, _], _ => rfl) hW' hb⟩

theorem lifted (os : Os) (started : os.Started) (H : Type) (enc : TypeId × Value → H) :
    ReturnsInHanded {} Try.checked os 8 .any (Rows.fieldsShortestSpec.pre6 enc Try.prog Try.f8 Rows.fieldsShortestRow.domain false) (Rows.fieldsShortestSpec.post enc Try.prog Try.f8 false true false false) := by
  refine returnsInHanded_of_change (C := Try.checked) own started (by kernel_rfl) Try.func8
    (ChangeSpec.witness6 (enc := enc) (C := Try.checked) false ⟨#[], #[.slice none 0 0, .int .i64 0], []⟩ 8 (by kernel_rfl) (by kernel_rfl) (by kernel_rfl) (by kernel_rfl)) ?_
  intro W base args ds gs before hval hW _ _
  exact contract H enc W base args ds gs before hval hW

theorem proved : Rows.FieldsShortestSaid :=
  OpenClaim.holds_of_wide 8 Try.f8 rfl rfl rfl rfl rfl rfl rfl ⟨rfl, rfl, rfl, rfl, rfl⟩ rfl rfl rfl rfl rfl (by kernel_rfl) Try.func8 (by kernel_rfl)
    (of_decide_eq_true (by kernel_rfl)) (by unfold Func.isWrapper; first | (rw [if_pos (by decide +kernel)]; kernel_rfl) | (rw [if_neg (by decide +kernel)]; exact ⟨rfl, rfl⟩))
    (fun os started H enc _ => lifted os started H enc)
end Go.Proofs.Ytkhdldemhaifpaa.fieldsShortest
