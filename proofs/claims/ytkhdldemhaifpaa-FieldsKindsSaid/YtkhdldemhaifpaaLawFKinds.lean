/- FieldsKinds holds for every input: which kinds a text of digits has, and how many bytes each takes. No condition. -/
import Derived.Test.YtkhdldemhaifpaaFq
import Derived.Test.YtkhdldemhaifpaaLaw
namespace Go.Proofs.Ytkhdldemhaifpaa.fieldsKinds
open Go.RowKit Go.ChangeShapes Go.WideShapes Go.ChangeAt Go.Proofs.Ytkhdldemhaifpaa.Mem Go.Proofs.Ytkhdldemhaifpaa.F2p Go.Proofs.Ytkhdldemhaifpaa.Fa Go.Proofs.Ytkhdldemhaifpaa.Same Go.Proofs.Ytkhdldemhaifpaa.Made Go.Proofs.Ytkhdldemhaifpaa.Law
set_option maxRecDepth 100000
set_option maxHeartbeats 4000000

theorem enc_gen (k : Int) (s : ByteArray) (w : World) (hs : s.size ≤ 100000) :
    Calls Try.prog 17 #[.agg #[.int .i64 k, .string s]] w fun e w' => ∃ A n c x, e = .returned (.tuple #[.slice A n c, .int .i64 x]) ∧ (vld k (bl s) = true → x = 0 ∧ n = (enc k (bl s)).length) ∧ (vld k (bl s) = false → x = 1 ∧ n = 0) ∧ n ≤ 64 ∧ Below w.heap.size w w' := by
  rcases hv : vld k (bl s) with _ | _
  · refine (enc_no k s w hv hs).mono ?_
    rintro e w' ⟨rfl, hb⟩
    exact ⟨none, 0, 0, 1, rfl, fun h => (by cases h), fun _ => ⟨rfl, rfl⟩, by omega, hb⟩
  · refine (enc_yes k s w hv hs).mono ?_
    rintro e w' ⟨A, n, c, rfl, -, hsl, hb⟩
    refine ⟨A, n, c, 0, rfl, fun _ => ⟨rfl, hsl.len⟩, fun h => (by cases h), ?_, hb⟩
    obtain ⟨h63, -⟩ := vld_dat hv
    rw [hsl.len, enc_len]; omega
theorem digits_oks {t : ByteArray} (h : ∀ x ∈ bl t, x ∈ bl ⟨#[48, 49, 50, 51, 52, 53, 54, 55, 56, 57, 32, 45, 46]⟩) : okd (bl t) = true ∧ oks (bl t) = true := by
  have k1 : ∀ x ∈ bl digs, decide (0 ≤ dig x.toNat) = true := by decide
  have k2 : ∀ x ∈ bl digs, decide (32 ≤ x.toNat ∧ x.toNat ≤ 95) = true := by decide
  exact ⟨List.all_eq_true.2 fun x hx => k1 x (h x hx), List.all_eq_true.2 fun x hx => k2 x (h x hx)⟩
theorem kinds {t : ByteArray} {m : Nat} (hm : t.size = m) (h : ∀ x ∈ bl t, x ∈ bl ⟨#[48, 49, 50, 51, 52, 53, 54, 55, 56, 57, 32, 45, 46]⟩) :
    vld 1 (bl t) = decide (m % 2 = 0 ∧ m ≤ 126) ∧ vld 2 (bl t) = decide (m % 4 ≠ 3 ∧ m ≤ 84) ∧ vld 3 (bl t) = decide (m ≠ 1 ∧ m ≤ 63) := by
  obtain ⟨h1, h2⟩ := digits_oks h
  subst hm
  refine ⟨?_, ?_, ?_⟩
  · unfold vld
    rw [if_neg (by decide), if_pos rfl, h1, Bool.and_true, bl_len]
  · unfold vld
    rw [if_neg (by decide), if_neg (by decide), if_pos rfl, h2, Bool.and_true, bl_len]
    exact decide_eq_decide.2 (by unfold sixB; omega)
  · unfold vld
    rw [if_neg (by decide), if_neg (by decide), if_neg (by decide), if_pos rfl, bl_len]
    exact decide_eq_decide.2 (by omega)

theorem walk (A : Option Addr) (n c : Nat) (l : List Int) (hn : n = l.length) (hw : ∀ x ∈ l, -9223372036854775808 ≤ x ∧ x ≤ 9223372036854775807) (hc : n ≤ c) (hm : c ≤ maxLen) (_hA : A = none → c = 0)
    (y : Int) (hy : -9223372036854775808 ≤ y ∧ y ≤ 9223372036854775807)
    (w : World) (hr : IRow w.heap.size w A l) :
    Calls Try.prog 12 #[.slice A n c, .int .i64 y] w fun e w' => e = .returned (.bool true) ∧ Below w.heap.size w w' := by
  have hnm : n ≤ maxLen := by omega
  have HN := Lib.hid hn
  have HW := Lib.hid hw
  clear hn hw hc hm _hA
  by_cases h6 : n ≤ 600
  · have d6 : decide (n ≤ 600) = true := decide_eq_true h6
    go_enter Try.func12, Try.ntmps12
    go_wp2_with fail
    refine (lightmade_any A n c _ hnm).mono ?_
    rintro e w' ⟨rfl, rfl⟩
    rw [d6]
    go_wp2_with fail
    refine (mod_at y 140 140 w rfl hy.1 hy.2 (by omega) (by omega)).mono ?_
    rintro e w' ⟨m, hm140, rfl, rfl⟩
    go_wp2_with fail
    refine (roll_any A n c w).mono ?_
    rintro e w1 ⟨rfl, rfl⟩
    obtain ⟨hdz, hb1⟩ := irow_light (c := c) HN.out hr HW.out h6
    go_wp2_with fail
    refine (hdz.text _ m (by decide) (by decide) (by omega)).mono ?_
    rintro e w2 ⟨t, rfl, ht, hall, hd2, hg2⟩
    have hb2 : Below w.heap.size w w2 := hb1.trans (grown_lo hg2 (Nat.le_refl _) hdz.lt)
    obtain ⟨v1, v2, v3⟩ := kinds ht hall
    have hts : t.size ≤ 100000 := by omega
    have L1 := dat_len 1 (bl t)
    have L2 := dat_len 2 (bl t)
    have L3 := dat_len 3 (bl t)
    simp only [bl_len, ht] at L1 L2 L3
    clear hd2 hg2 hdz hb1 hall ht
    go_wp2_with fail
    refine (enc_gen 1 t w2 hts).mono ?_
    rintro e w3 ⟨A3, n3, c3, x1, rfl, y1, z1, b1, hb3⟩
    go_wp2_with fail
    refine (enc_gen 2 t w3 hts).mono ?_
    rintro e w4 ⟨A4, n4, c4, x2, rfl, y2, z2, b2, hb4⟩
    go_wp2_with fail
    refine (enc_gen 3 t w4 hts).mono ?_
    rintro e w5 ⟨A5, n5, c5, x3, rfl, y3, z3, b3, hb5⟩
    have hb : Below w.heap.size w w5 := ((hb2.trans (hb3.mono hb2.size)).trans (hb4.mono (Nat.le_trans hb2.size hb3.size))).trans (hb5.mono (Nat.le_trans hb2.size (Nat.le_trans hb3.size hb4.size)))
    rw [enc_len, L1] at y1
    rw [enc_len, L2] at y2
    rw [enc_len, L3] at y3
    rw [v1, decide_eq_true_iff] at y1
    rw [v1, decide_eq_false_iff_not] at z1
    rw [v2, decide_eq_true_iff] at y2
    rw [v2, decide_eq_false_iff_not] at z2
    rw [v3, decide_eq_true_iff] at y3
    rw [v3, decide_eq_false_iff_not] at z3
    simp only [if_true, sixB] at y1 y2 y3
    clear v1 v2 v3 L1 L2 L3 hb2 hb3 hb4 hb5
    have haw := Lib.hid (fun u => awake_any u)
    have HB := Lib.hid hb
    clear hb
    have c1 : m = 1 ∨ m ≠ 1 := by omega
    have c2 : m % 4 = 0 ∨ m % 4 = 1 ∨ m % 4 = 2 ∨ m % 4 = 3 := by omega
    have c3 : m ≤ 63 ∨ (63 < m ∧ m ≤ 84) ∨ (84 < m ∧ m ≤ 126) ∨ 126 < m := by omega
    have e1 : x1 = if m % 2 = 0 ∧ m ≤ 126 then 0 else 1 := by
      split
      · exact (y1 ‹_›).1
      · exact (z1 ‹_›).1
    have e2 : x2 = if m % 4 ≠ 3 ∧ m ≤ 84 then 0 else 1 := by
      split
      · exact (y2 ‹_›).1
      · exact (z2 ‹_›).1
    have e3 : x3 = if m ≠ 1 ∧ m ≤ 63 then 0 else 1 := by
      split
      · exact (y3 ‹_›).1
      · exact (z3 ‹_›).1
    have Y1 := Lib.hid (fun h => (y1 h).2)
    have Y2 := Lib.hid (fun h => (y2 h).2)
    have Y3 := Lib.hid (fun h => (y3 h).2)
    clear y1 y2 y3 z1 z2 z3
    rcases c1 with c1 | c1 <;> rcases c2 with c2 | c2 | c2 | c2 <;> rcases c3 with c3 | ⟨c3, c4⟩ | ⟨c3, c4⟩ | c3 <;> (try (exfalso; omega)) <;> skip
    all_goals
      have t2 : ∃ b : Bool, (((m : Int) % 2) == 0) = b ∧ b = decide (m % 2 = 0) := ⟨_, rfl, by rw [Bool.eq_iff_iff]; simp; omega⟩
      have t4 : ∃ b : Bool, (((m : Int) % 4) != 3) = b ∧ b = decide (m % 4 ≠ 3) := ⟨_, rfl, by rw [Bool.eq_iff_iff]; simp; omega⟩
      have t1 : ∃ b : Bool, ((m : Int) != 1) = b ∧ b = decide (m ≠ 1) := ⟨_, rfl, by rw [Bool.eq_iff_iff]; simp; omega⟩
      obtain ⟨p2, t2, h2⟩ := t2
      obtain ⟨p4, t4, h4⟩ := t4
      obtain ⟨p1, t1, h1⟩ := t1
      first | (have g : m % 2 = 0 ∧ m ≤ 126 := (by omega); rw [if_pos g] at e1; subst e1) | (have g : ¬ (m % 2 = 0 ∧ m ≤ 126) := (by omega); rw [if_neg g] at e1; subst e1)
      first | (have g : m % 4 ≠ 3 ∧ m ≤ 84 := (by omega); rw [if_pos g] at e2; subst e2) | (have g : ¬ (m % 4 ≠ 3 ∧ m ≤ 84) := (by omega); rw [if_neg g] at e2; subst e2)
      first | (have g : m ≠ 1 ∧ m ≤ 63 := (by omega); rw [if_pos g] at e3; subst e3) | (have g : ¬ (m ≠ 1 ∧ m ≤ 63) := (by omega); rw [if_neg g] at e3; subst e3)
      first | (have g2 : m % 2 = 0 := (by omega); rw [decide_eq_true g2] at h2; subst h2; clear g2) | (have g2 : ¬ (m % 2 = 0) := (by omega); rw [decide_eq_false g2] at h2; subst h2; clear g2)
      first | (have g4 : m % 4 ≠ 3 := (by omega); rw [decide_eq_true g4] at h4; subst h4; clear g4) | (have g4 : ¬ (m % 4 ≠ 3) := (by omega); rw [decide_eq_false g4] at h4; subst h4; clear g4)
      first | (have g1 : m ≠ 1 := (by omega); rw [decide_eq_true g1] at h1; subst h1; clear g1) | (have g1 : ¬ (m ≠ 1) := (by omega); rw [decide_eq_false g1] at h1; subst h1; clear g1)
      have l1 : ((n3 : Int) == 1 + (m : Int) / 2) = true ∨ True := .inr trivial
      first | (have g : m % 2 = 0 ∧ m ≤ 126 := (by omega); have q1 := Y1.out g) | skip
      first | (have g : m % 4 ≠ 3 ∧ m ≤ 84 := (by omega); have q2 := Y2.out g) | skip
      first | (have g : m ≠ 1 ∧ m ≤ 63 := (by omega); have q3 := Y3.out g) | skip
      clear l1 c1 c2
      go_wp2_with fail
      all_goals first
        | (refine (haw.out _).mono ?_; rintro e w6 ⟨rfl, hb6⟩; go_wp2_with fail; go_ret; exact ⟨rfl, HB.out.trans (hb6.mono HB.out.size)⟩)
        | (exfalso; rename_i hx; simp at hx; omega)
  · have d6 : decide (n ≤ 600) = false := decide_eq_false h6
    go_enter Try.func12, Try.ntmps12
    go_wp2_with fail
    refine (lightmade_any A n c _ hnm).mono ?_
    rintro e w' ⟨rfl, rfl⟩
    rw [d6]
    go_wp2_with fail
    refine (awake_any _).mono ?_
    rintro e w2 ⟨rfl, hb2⟩
    go_wp2_with fail
    go_ret
    exact ⟨rfl, hb2⟩

theorem cells_u8 : Try.prog.cellsOf 5 = 1 := by kernel_rfl
theorem cells_int : Try.prog.cellsOf 3 = 1 := by kernel_rfl
theorem own : ownKnob Try.prog.godebug = none := by kernel_rfl
theorem laidOut : laidOutB Try.prog = true := by kernel_rfl
theorem contract (H : Type) (enc : TypeId × Value → H) (W : World) (base : Nat) (args : Array Value) (ds gs : List (DataW H)) (before : List MemPlace)
    (hval : ∀ (j : Nat) t v, Try.f12.params[j]? = some t → args[j]? = some v → Value.okWide Try.prog W .any base t v)
    (hW : DataW.Whole enc Try.prog Try.f12.params.toList Rows.fieldsKindsSpec.vars false W args.toList ds gs before) :
    Calls Try.prog 12 args W fun e W' => ∃ v, e = .returned v ∧ Rows.fieldsKindsSpec.post enc Try.prog Try.f12 false true false false W args v W' := by
  have hW' := hW
  obtain ⟨p, q, hA0, hV, rfl, hfz, hnd⟩ := hW
  have hA : DataW.TrodAll enc Try.prog W 0 (fun _ => true) true Try.f12.params.toList args.toList ds p := hA0
  rw [Try.params12] at hA hval
  obtain ⟨v0, vs0, d0, ds0, p0, q0, hargs, rfl, rfl, h0, r0⟩ := trodAll_cons hA
  obtain ⟨v1, vs1, d1, ds1, p1, q1, rfl, rfl, rfl, h1, r1⟩ := trodAll_cons r0
  obtain ⟨rfl, rfl, rfl⟩ := trodAll_nil r1
  obtain rfl : args = #[v0, v1] := by cases args; simp_all
  obtain ⟨A0, n0, c0, l0, rfl, hn0, hr0, hw0, hc0, hm0, hk0⟩ := open_int_list Try.underlying24 Try.underlying3 cells_int (hval 0 24 v0 rfl rfl) h0
  obtain ⟨a1, rfl, -, -, w1⟩ := open_int Try.underlying3 (hval 1 3 v1 rfl rfl) h1
  clear hA0
  refine (walk A0 n0 c0 l0 hn0 hw0 hc0 hm0 hk0 a1 (bounds_i64 w1) W hr0).mono fun e W' ⟨he, hb⟩ => ?_
  subst he
  exact ⟨_, rfl, law_post laidOut (types_fit (by kernel_rfl)) (by kernel_rfl) Try.underlying4 rfl (fun xs hx => by
    match xs, hx with
    | [_, _], _ => rfl) hW' hb⟩

theorem lifted (os : Os) (started : os.Started) (H : Type) (enc : TypeId × Value → H) :
    ReturnsInHanded {} Try.checked os 12 .any (Rows.fieldsKindsSpec.pre6 enc Try.prog Try.f12 Rows.fieldsKindsRow.domain false) (Rows.fieldsKindsSpec.post enc Try.prog Try.f12 false true false false) := by
  refine returnsInHanded_of_change (C := Try.checked) own started (by kernel_rfl) Try.func12
    (ChangeSpec.witness6 (enc := enc) (C := Try.checked) false ⟨#[], #[.slice none 0 0, .int .i64 0], []⟩ 8 (by kernel_rfl) (by kernel_rfl) (by kernel_rfl) (by kernel_rfl)) ?_
  intro W base args ds gs before hval hW _ _
  exact contract H enc W base args ds gs before hval hW

theorem proved : Rows.FieldsKindsSaid :=
  OpenClaim.holds_of_wide 12 Try.f12 rfl rfl rfl rfl rfl rfl rfl ⟨rfl, rfl, rfl, rfl, rfl⟩ rfl rfl rfl rfl rfl (by kernel_rfl) Try.func12 (by kernel_rfl)
    (of_decide_eq_true (by kernel_rfl)) (by unfold Func.isWrapper; first | (rw [if_pos (by decide +kernel)]; kernel_rfl) | (rw [if_neg (by decide +kernel)]; exact ⟨rfl, rfl⟩))
    (fun os started H enc _ => lifted os started H enc)
end Go.Proofs.Ytkhdldemhaifpaa.fieldsKinds
