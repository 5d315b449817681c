/- ChecksumReturns holds for every input: opening a sealed string returns the string, also through three seals. No condition. -/
import Derived.Test.YtnmakbbbbcngbaaWf
import Derived.Test.YtnmakbbbbcngbaaLaw
namespace Go.Proofs.Ytnmakbbbbcngbaa.checksumReturns
open Go.RowKit Go.ChangeShapes Go.WideShapes Go.ChangeAt Go.Proofs.Ytnmakbbbbcngbaa.Mem Go.Proofs.Ytnmakbbbbcngbaa.Pl Go.Proofs.Ytnmakbbbbcngbaa.Wa Go.Proofs.Ytnmakbbbbcngbaa.Wb Go.Proofs.Ytnmakbbbbcngbaa.Wc Go.Proofs.Ytnmakbbbbcngbaa.We Go.Proofs.Ytnmakbbbbcngbaa.Wf Go.Proofs.Ytnmakbbbbcngbaa.Law
set_option maxRecDepth 100000
set_option maxHeartbeats 1000000

theorem walk (A : Option Addr) (n c : Nat) (l : List UInt8) (hn : n = l.length) (hc : n ≤ c) (hm : c ≤ maxLen) (hA : A = none → c = 0) (w : World) (hr : Row w.heap.size w A l) :
    Calls Try.prog 5 #[.slice A n c] w fun e w' => e = .returned (.bool true) ∧ Below w.heap.size w w' := by
  have hs : Sl w A n c l := ⟨hn, hr, hc, hm, hA⟩
  clear hn hr hc hA
  have hbase := Below.refl w.heap.size w
  by_cases hl : n ≤ 2000
  · have hd : decide (n ≤ 2000) = true := by simpa using hl
    go_enter Try.func5, Try.ntmps5
    go_wp2_with fail
    refine (light_s hs).mono ?_
    rintro e w' ⟨rfl, rfl⟩
    rw [hd]
    go_wp2_with fail
    refine (seal8_s hs (by omega)).mono ?_
    rintro e w1 ⟨A1, n1, c1, rfl, o1, p0, b1⟩
    replace hs := hs.step b1
    replace hbase := hbase.trans (b1.mono hbase.size)
    go_wp2_with fail
    refine (open8_s p0 (by have := p0.len; simp at this; have := hs.len; omega)).mono ?_
    rintro e w2 ⟨A2, n2, c2, rfl, x, b2⟩
    rw [open8_sealed] at x ⊢
    replace hs := hs.step b2
    replace p0 := p0.step b2
    replace hbase := hbase.trans (b2.mono hbase.size)
    go_wp2_with fail
    refine (sealcrc8_s hs (by omega)).mono ?_
    rintro e w3 ⟨A3, n3, c3, rfl, o3, p1, b3⟩
    replace hs := hs.step b3
    replace p0 := p0.step b3
    replace x := x.step b3
    replace hbase := hbase.trans (b3.mono hbase.size)
    go_wp2_with fail
    refine (opencrc8_s p1 (by have := p1.len; simp at this; have := hs.len; omega)).mono ?_
    rintro e w4 ⟨A4, n4, c4, rfl, y, b4⟩
    rw [opencrc8_sealed] at y ⊢
    replace hs := hs.step b4
    replace p0 := p0.step b4
    replace x := x.step b4
    replace p1 := p1.step b4
    replace hbase := hbase.trans (b4.mono hbase.size)
    go_wp2_with fail
    refine (sealcrc32_s hs (by omega)).mono ?_
    rintro e w5 ⟨A5, n5, c5, rfl, o5, p2, b5⟩
    replace hs := hs.step b5
    replace p0 := p0.step b5
    replace x := x.step b5
    replace p1 := p1.step b5
    replace y := y.step b5
    replace hbase := hbase.trans (b5.mono hbase.size)
    go_wp2_with fail
    refine (opencrc32_s p2 (by have := p2.len; simp [lit_len] at this; have := hs.len; omega)).mono ?_
    rintro e w6 ⟨A6, n6, c6, rfl, z, b6⟩
    rw [opencrc32_sealed] at z ⊢
    replace hs := hs.step b6
    replace p0 := p0.step b6
    replace x := x.step b6
    replace p1 := p1.step b6
    replace y := y.step b6
    replace p2 := p2.step b6
    replace hbase := hbase.trans (b6.mono hbase.size)
    go_wp2_with fail
    refine (seal8_s hs (by omega)).mono ?_
    rintro e w7 ⟨A7, n7, c7, rfl, o7, q0, b7⟩
    replace hs := hs.step b7
    replace p0 := p0.step b7
    replace x := x.step b7
    replace p1 := p1.step b7
    replace y := y.step b7
    replace p2 := p2.step b7
    replace z := z.step b7
    replace hbase := hbase.trans (b7.mono hbase.size)
    go_wp2_with fail
    refine (sealcrc32_s q0 (by have := q0.len; simp at this; have := hs.len; omega)).mono ?_
    rintro e w8 ⟨A8, n8, c8, rfl, o8, q1, b8⟩
    replace hs := hs.step b8
    replace p0 := p0.step b8
    replace x := x.step b8
    replace p1 := p1.step b8
    replace y := y.step b8
    replace p2 := p2.step b8
    replace z := z.step b8
    replace q0 := q0.step b8
    replace hbase := hbase.trans (b8.mono hbase.size)
    go_wp2_with fail
    refine (sealcrc8_s q1 (by have := q1.len; simp [lit_len] at this; have := hs.len; omega)).mono ?_
    rintro e w9 ⟨A9, n9, c9, rfl, o9, q2, b9⟩
    replace hs := hs.step b9
    replace p0 := p0.step b9
    replace x := x.step b9
    replace p1 := p1.step b9
    replace y := y.step b9
    replace p2 := p2.step b9
    replace z := z.step b9
    replace q0 := q0.step b9
    replace q1 := q1.step b9
    replace hbase := hbase.trans (b9.mono hbase.size)
    go_wp2_with fail
    refine (opencrc8_s q2 (by have := q2.len; simp [lit_len] at this; have := hs.len; omega)).mono ?_
    rintro e w10 ⟨A10, n10, c10, rfl, u, b10⟩
    rw [opencrc8_sealed] at u ⊢
    replace hs := hs.step b10
    replace p0 := p0.step b10
    replace x := x.step b10
    replace p1 := p1.step b10
    replace y := y.step b10
    replace p2 := p2.step b10
    replace z := z.step b10
    replace q0 := q0.step b10
    replace q1 := q1.step b10
    replace q2 := q2.step b10
    replace hbase := hbase.trans (b10.mono hbase.size)
    go_wp2_with fail
    refine (opencrc32_s u (by have := u.len; simp [lit_len] at this; have := hs.len; omega)).mono ?_
    rintro e w11 ⟨A11, n11, c11, rfl, v, b11⟩
    rw [opencrc32_sealed] at v ⊢
    replace hs := hs.step b11
    replace p0 := p0.step b11
    replace x := x.step b11
    replace p1 := p1.step b11
    replace y := y.step b11
    replace p2 := p2.step b11
    replace z := z.step b11
    replace q0 := q0.step b11
    replace q1 := q1.step b11
    replace q2 := q2.step b11
    replace u := u.step b11
    replace hbase := hbase.trans (b11.mono hbase.size)
    go_wp2_with fail
    refine (open8_s v (by have := v.len; simp at this; have := hs.len; omega)).mono ?_
    rintro e w12 ⟨A12, n12, c12, rfl, t, b12⟩
    rw [open8_sealed] at t ⊢
    replace hs := hs.step b12
    replace p0 := p0.step b12
    replace x := x.step b12
    replace p1 := p1.step b12
    replace y := y.step b12
    replace p2 := p2.step b12
    replace z := z.step b12
    replace q0 := q0.step b12
    replace q1 := q1.step b12
    replace q2 := q2.step b12
    replace u := u.step b12
    replace v := v.step b12
    replace hbase := hbase.trans (b12.mono hbase.size)
    go_wp2_with fail
    refine (same_yes x hs).mono ?_
    rintro e w13 ⟨rfl, b13⟩
    replace hs := hs.step b13
    replace p0 := p0.step b13
    replace x := x.step b13
    replace p1 := p1.step b13
    replace y := y.step b13
    replace p2 := p2.step b13
    replace z := z.step b13
    replace q0 := q0.step b13
    replace q1 := q1.step b13
    replace q2 := q2.step b13
    replace u := u.step b13
    replace v := v.step b13
    replace t := t.step b13
    replace hbase := hbase.trans (b13.mono hbase.size)
    go_wp2_with fail
    refine (same_yes y hs).mono ?_
    rintro e w14 ⟨rfl, b14⟩
    replace hs := hs.step b14
    replace p0 := p0.step b14
    replace x := x.step b14
    replace p1 := p1.step b14
    replace y := y.step b14
    replace p2 := p2.step b14
    replace z := z.step b14
    replace q0 := q0.step b14
    replace q1 := q1.step b14
    replace q2 := q2.step b14
    replace u := u.step b14
    replace v := v.step b14
    replace t := t.step b14
    replace hbase := hbase.trans (b14.mono hbase.size)
    go_wp2_with fail
    refine (same_yes z hs).mono ?_
    rintro e w15 ⟨rfl, b15⟩
    replace hs := hs.step b15
    replace p0 := p0.step b15
    replace x := x.step b15
    replace p1 := p1.step b15
    replace y := y.step b15
    replace p2 := p2.step b15
    replace z := z.step b15
    replace q0 := q0.step b15
    replace q1 := q1.step b15
    replace q2 := q2.step b15
    replace u := u.step b15
    replace v := v.step b15
    replace t := t.step b15
    replace hbase := hbase.trans (b15.mono hbase.size)
    go_wp2_with fail
    refine (same_yes t hs).mono ?_
    rintro e w16 ⟨rfl, b16⟩
    replace hs := hs.step b16
    replace p0 := p0.step b16
    replace x := x.step b16
    replace p1 := p1.step b16
    replace y := y.step b16
    replace p2 := p2.step b16
    replace z := z.step b16
    replace q0 := q0.step b16
    replace q1 := q1.step b16
    replace q2 := q2.step b16
    replace u := u.step b16
    replace v := v.step b16
    replace t := t.step b16
    replace hbase := hbase.trans (b16.mono hbase.size)
    go_wp2_with fail
    refine (awake_any _).mono ?_
    rintro e w17 ⟨rfl, b17⟩
    replace hs := hs.step b17
    replace p0 := p0.step b17
    replace x := x.step b17
    replace p1 := p1.step b17
    replace y := y.step b17
    replace p2 := p2.step b17
    replace z := z.step b17
    replace q0 := q0.step b17
    replace q1 := q1.step b17
    replace q2 := q2.step b17
    replace u := u.step b17
    replace v := v.step b17
    replace t := t.step b17
    replace hbase := hbase.trans (b17.mono hbase.size)
    go_wp2_with fail
    go_ret
    exact ⟨rfl, hbase⟩
  · have hd : decide (n ≤ 2000) = false := by simpa using hl
    go_enter Try.func5, Try.ntmps5
    go_wp2_with fail
    refine (light_s hs).mono ?_
    rintro e w' ⟨rfl, rfl⟩
    rw [hd]
    go_wp2_with fail
    refine (awake_any w).mono ?_
    rintro e w' ⟨rfl, hb⟩
    go_wp2_with fail
    go_ret
    exact ⟨rfl, hb⟩

theorem cells_u8 : Try.prog.cellsOf 5 = 1 := by kernel_rfl
theorem own : ownKnob Try.prog.godebug = none := by kernel_rfl
theorem laidOut : laidOutB Try.prog = true := by kernel_rfl
theorem contract (H : Type) (enc : TypeId × Value → H) (W : World) (base : Nat) (args : Array Value) (ds gs : List (DataW H)) (before : List MemPlace)
    (hval : ∀ (j : Nat) t v, Try.f5.params[j]? = some t → args[j]? = some v → Value.okWide Try.prog W .any base t v)
    (hW : DataW.Whole enc Try.prog Try.f5.params.toList Rows.checksumReturnsSpec.vars false W args.toList ds gs before) :
    Calls Try.prog 5 args W fun e W' => ∃ v, e = .returned v ∧ Rows.checksumReturnsSpec.post enc Try.prog Try.f5 false true false false W args v W' := by
  have hW' := hW
  obtain ⟨p, q, hA0, hV, rfl, hfz, hnd⟩ := hW
  have hA : DataW.TrodAll enc Try.prog W 0 (fun _ => true) true Try.f5.params.toList args.toList ds p := hA0
  rw [Try.params5] at hA hval
  obtain ⟨v0, vs0, d0, ds0, p0, q0, hargs, rfl, rfl, h0, r0⟩ := trodAll_cons hA
  obtain ⟨rfl, rfl, rfl⟩ := trodAll_nil r0
  obtain rfl : args = #[v0] := by cases args; simp_all
  obtain ⟨A0, n0, c0, l0, rfl, hn0, hr0, hc0, hm0, hk0⟩ := open_bytes Try.underlying22 Try.underlying5 cells_u8 (hval 0 22 v0 rfl rfl) h0
  clear hA0
  refine (walk A0 n0 c0 l0 hn0 hc0 hm0 hk0 W hr0).mono fun e W' ⟨he, hb⟩ => ?_
  subst he
  exact ⟨_, rfl, law_post laidOut (types_fit (by kernel_rfl)) (by kernel_rfl) Try.underlying4 rfl (fun xs hx => by
    match xs, hx with
    | [_], _ => rfl) hW' hb⟩

theorem lifted (os : Os) (started : os.Started) (H : Type) (enc : TypeId × Value → H) :
    ReturnsInHanded {} Try.checked os 5 .any (Rows.checksumReturnsSpec.pre6 enc Try.prog Try.f5 Rows.checksumReturnsRow.domain false) (Rows.checksumReturnsSpec.post enc Try.prog Try.f5 false true false false) := by
  refine returnsInHanded_of_change (C := Try.checked) own started (by kernel_rfl) Try.func5
    (ChangeSpec.witness6 (enc := enc) (C := Try.checked) false ⟨#[], #[.slice none 0 0], []⟩ 8 (by kernel_rfl) (by kernel_rfl) (by kernel_rfl) (by kernel_rfl)) ?_
  intro W base args ds gs before hval hW _ _
  exact contract H enc W base args ds gs before hval hW

theorem proved : Rows.ChecksumReturnsSaid :=
  OpenClaim.holds_of_wide 5 Try.f5 rfl rfl rfl rfl rfl rfl rfl ⟨rfl, rfl, rfl, rfl, rfl⟩ rfl rfl rfl rfl rfl (by kernel_rfl) Try.func5 (by kernel_rfl)
    (of_decide_eq_true (by kernel_rfl)) (by unfold Func.isWrapper; first | (rw [if_pos (by decide +kernel)]; kernel_rfl) | (rw [if_neg (by decide +kernel)]; exact ⟨rfl, rfl⟩))
    (fun os started H enc _ => lifted os started H enc)
end Go.Proofs.Ytnmakbbbbcngbaa.checksumReturns
