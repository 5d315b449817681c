/- ChecksumSeals holds for every input: the sealed strings, and what opening any bytes returns, are those of the reference. No condition. -/
import Derived.Test.YtnmakbbbbcngbaaWf
import Derived.Test.YtnmakbbbbcngbaaLaw
namespace Go.Proofs.Ytnmakbbbbcngbaa.checksumSeals
open Go.RowKit Go.ChangeShapes Go.WideShapes Go.ChangeAt Go.Proofs.Ytnmakbbbbcngbaa.Mem Go.Proofs.Ytnmakbbbbcngbaa.Pl Go.Proofs.Ytnmakbbbbcngbaa.Wa Go.Proofs.Ytnmakbbbbcngbaa.Wb Go.Proofs.Ytnmakbbbbcngbaa.Wc Go.Proofs.Ytnmakbbbbcngbaa.We Go.Proofs.Ytnmakbbbbcngbaa.Wf Go.Proofs.Ytnmakbbbbcngbaa.Law
set_option maxRecDepth 100000
set_option maxHeartbeats 1000000

theorem walk (A : Option Addr) (n c : Nat) (l : List UInt8) (hn : n = l.length) (hc : n ≤ c) (hm : c ≤ maxLen) (hA : A = none → c = 0) (w : World) (hr : Row w.heap.size w A l) :
    Calls Try.prog 4 #[.slice A n c] w fun e w' => e = .returned (.bool true) ∧ Below w.heap.size w w' := by
  have hs : Sl w A n c l := ⟨hn, hr, hc, hm, hA⟩
  clear hn hr hc hA
  have hbase := Below.refl w.heap.size w
  by_cases hl : n ≤ 2000
  · have hd : decide (n ≤ 2000) = true := by simpa using hl
    go_enter Try.func4, Try.ntmps4
    go_wp2_with fail
    refine (light_s hs).mono ?_
    rintro e w' ⟨rfl, rfl⟩
    rw [hd]
    go_wp2_with fail
    refine (open8_s hs (by omega)).mono ?_
    rintro e w1 ⟨A1, n1, c1, rfl, x0, b1⟩
    replace hs := hs.step b1
    replace hbase := hbase.trans (b1.mono hbase.size)
    go_wp2_with fail
    refine (ropen8_s hs (by omega)).mono ?_
    rintro e w2 ⟨A2, n2, c2, rfl, y0, b2⟩
    replace hs := hs.step b2
    replace x0 := x0.step b2
    replace hbase := hbase.trans (b2.mono hbase.size)
    go_wp2_with fail
    refine (opencrc8_s hs (by omega)).mono ?_
    rintro e w3 ⟨A3, n3, c3, rfl, x1, b3⟩
    replace hs := hs.step b3
    replace x0 := x0.step b3
    replace y0 := y0.step b3
    replace hbase := hbase.trans (b3.mono hbase.size)
    go_wp2_with fail
    refine (ropencrc8_s hs (by omega)).mono ?_
    rintro e w4 ⟨A4, n4, c4, rfl, y1, b4⟩
    replace hs := hs.step b4
    replace x0 := x0.step b4
    replace y0 := y0.step b4
    replace x1 := x1.step b4
    replace hbase := hbase.trans (b4.mono hbase.size)
    go_wp2_with fail
    refine (opencrc32_s hs (by omega)).mono ?_
    rintro e w5 ⟨A5, n5, c5, rfl, x2, b5⟩
    replace hs := hs.step b5
    replace x0 := x0.step b5
    replace y0 := y0.step b5
    replace x1 := x1.step b5
    replace y1 := y1.step b5
    replace hbase := hbase.trans (b5.mono hbase.size)
    go_wp2_with fail
    refine (ropencrc32_s hs (by omega)).mono ?_
    rintro e w6 ⟨A6, n6, c6, rfl, y2, b6⟩
    replace hs := hs.step b6
    replace x0 := x0.step b6
    replace y0 := y0.step b6
    replace x1 := x1.step b6
    replace y1 := y1.step b6
    replace x2 := x2.step b6
    replace hbase := hbase.trans (b6.mono hbase.size)
    go_wp2_with fail
    refine (same_yes x0 y0).mono ?_
    rintro e w7 ⟨rfl, b7⟩
    replace hs := hs.step b7
    replace x0 := x0.step b7
    replace y0 := y0.step b7
    replace x1 := x1.step b7
    replace y1 := y1.step b7
    replace x2 := x2.step b7
    replace y2 := y2.step b7
    replace hbase := hbase.trans (b7.mono hbase.size)
    go_wp2_with fail
    refine (same_yes x1 y1).mono ?_
    rintro e w8 ⟨rfl, b8⟩
    replace hs := hs.step b8
    replace x0 := x0.step b8
    replace y0 := y0.step b8
    replace x1 := x1.step b8
    replace y1 := y1.step b8
    replace x2 := x2.step b8
    replace y2 := y2.step b8
    replace hbase := hbase.trans (b8.mono hbase.size)
    go_wp2_with fail
    refine (same_yes x2 y2).mono ?_
    rintro e w9 ⟨rfl, b9⟩
    replace hs := hs.step b9
    replace x0 := x0.step b9
    replace y0 := y0.step b9
    replace x1 := x1.step b9
    replace y1 := y1.step b9
    replace x2 := x2.step b9
    replace y2 := y2.step b9
    replace hbase := hbase.trans (b9.mono hbase.size)
    go_wp2_with fail
    refine (seal8_s hs (by omega)).mono ?_
    rintro e w10 ⟨A10, n10, c10, rfl, o10, p0, b10⟩
    replace hs := hs.step b10
    replace x0 := x0.step b10
    replace y0 := y0.step b10
    replace x1 := x1.step b10
    replace y1 := y1.step b10
    replace x2 := x2.step b10
    replace y2 := y2.step b10
    replace hbase := hbase.trans (b10.mono hbase.size)
    go_wp2_with fail
    refine (rseal8_s hs (by omega)).mono ?_
    rintro e w11 ⟨A11, n11, c11, rfl, o11, q0, b11⟩
    replace hs := hs.step b11
    replace x0 := x0.step b11
    replace y0 := y0.step b11
    replace x1 := x1.step b11
    replace y1 := y1.step b11
    replace x2 := x2.step b11
    replace y2 := y2.step b11
    replace p0 := p0.step b11
    replace hbase := hbase.trans (b11.mono hbase.size)
    go_wp2_with fail
    refine (same_yes p0 q0).mono ?_
    rintro e w12 ⟨rfl, b12⟩
    replace hs := hs.step b12
    replace x0 := x0.step b12
    replace y0 := y0.step b12
    replace x1 := x1.step b12
    replace y1 := y1.step b12
    replace x2 := x2.step b12
    replace y2 := y2.step b12
    replace p0 := p0.step b12
    replace q0 := q0.step b12
    replace hbase := hbase.trans (b12.mono hbase.size)
    go_wp2_with fail
    refine (sealcrc8_s hs (by omega)).mono ?_
    rintro e w13 ⟨A13, n13, c13, rfl, o13, p1, b13⟩
    replace hs := hs.step b13
    replace x0 := x0.step b13
    replace y0 := y0.step b13
    replace x1 := x1.step b13
    replace y1 := y1.step b13
    replace x2 := x2.step b13
    replace y2 := y2.step b13
    replace p0 := p0.step b13
    replace q0 := q0.step b13
    replace hbase := hbase.trans (b13.mono hbase.size)
    go_wp2_with fail
    refine (rsealcrc8_s hs (by omega)).mono ?_
    rintro e w14 ⟨A14, n14, c14, rfl, o14, q1, b14⟩
    replace hs := hs.step b14
    replace x0 := x0.step b14
    replace y0 := y0.step b14
    replace x1 := x1.step b14
    replace y1 := y1.step b14
    replace x2 := x2.step b14
    replace y2 := y2.step b14
    replace p0 := p0.step b14
    replace q0 := q0.step b14
    replace p1 := p1.step b14
    replace hbase := hbase.trans (b14.mono hbase.size)
    go_wp2_with fail
    refine (same_yes p1 q1).mono ?_
    rintro e w15 ⟨rfl, b15⟩
    replace hs := hs.step b15
    replace x0 := x0.step b15
    replace y0 := y0.step b15
    replace x1 := x1.step b15
    replace y1 := y1.step b15
    replace x2 := x2.step b15
    replace y2 := y2.step b15
    replace p0 := p0.step b15
    replace q0 := q0.step b15
    replace p1 := p1.step b15
    replace q1 := q1.step b15
    replace hbase := hbase.trans (b15.mono hbase.size)
    go_wp2_with fail
    refine (sealcrc32_s hs (by omega)).mono ?_
    rintro e w16 ⟨A16, n16, c16, rfl, o16, p2, b16⟩
    replace hs := hs.step b16
    replace x0 := x0.step b16
    replace y0 := y0.step b16
    replace x1 := x1.step b16
    replace y1 := y1.step b16
    replace x2 := x2.step b16
    replace y2 := y2.step b16
    replace p0 := p0.step b16
    replace q0 := q0.step b16
    replace p1 := p1.step b16
    replace q1 := q1.step b16
    replace hbase := hbase.trans (b16.mono hbase.size)
    go_wp2_with fail
    refine (rsealcrc32_s hs (by omega)).mono ?_
    rintro e w17 ⟨A17, n17, c17, rfl, o17, q2, b17⟩
    replace hs := hs.step b17
    replace x0 := x0.step b17
    replace y0 := y0.step b17
    replace x1 := x1.step b17
    replace y1 := y1.step b17
    replace x2 := x2.step b17
    replace y2 := y2.step b17
    replace p0 := p0.step b17
    replace q0 := q0.step b17
    replace p1 := p1.step b17
    replace q1 := q1.step b17
    replace p2 := p2.step b17
    replace hbase := hbase.trans (b17.mono hbase.size)
    go_wp2_with fail
    refine (same_yes p2 q2).mono ?_
    rintro e w18 ⟨rfl, b18⟩
    replace hs := hs.step b18
    replace x0 := x0.step b18
    replace y0 := y0.step b18
    replace x1 := x1.step b18
    replace y1 := y1.step b18
    replace x2 := x2.step b18
    replace y2 := y2.step b18
    replace p0 := p0.step b18
    replace q0 := q0.step b18
    replace p1 := p1.step b18
    replace q1 := q1.step b18
    replace p2 := p2.step b18
    replace q2 := q2.step b18
    replace hbase := hbase.trans (b18.mono hbase.size)
    go_wp2_with fail
    refine (awake_any _).mono ?_
    rintro e w19 ⟨rfl, b19⟩
    replace hs := hs.step b19
    replace x0 := x0.step b19
    replace y0 := y0.step b19
    replace x1 := x1.step b19
    replace y1 := y1.step b19
    replace x2 := x2.step b19
    replace y2 := y2.step b19
    replace p0 := p0.step b19
    replace q0 := q0.step b19
    replace p1 := p1.step b19
    replace q1 := q1.step b19
    replace p2 := p2.step b19
    replace q2 := q2.step b19
    replace hbase := hbase.trans (b19.mono hbase.size)
    go_wp2_with fail
    go_ret
    exact ⟨rfl, hbase⟩
  · have hd : decide (n ≤ 2000) = false := by simpa using hl
    go_enter Try.func4, Try.ntmps4
    go_wp2_with fail
    refine (light_s hs).mono ?_
    rintro e w' ⟨rfl, rfl⟩
    rw [hd]
    go_wp2_with fail
    refine (awake_any w).mono ?_
    rintro e w' ⟨rfl, hb⟩
    go_wp2_with fail
    go_ret
    exact ⟨rfl, hb⟩

theorem cells_u8 : Try.prog.cellsOf 5 = 1 := by kernel_rfl
theorem own : ownKnob Try.prog.godebug = none := by kernel_rfl
theorem laidOut : laidOutB Try.prog = true := by kernel_rfl
theorem contract (H : Type) (enc : TypeId × Value → H) (W : World) (base : Nat) (args : Array Value) (ds gs : List (DataW H)) (before : List MemPlace)
    (hval : ∀ (j : Nat) t v, Try.f4.params[j]? = some t → args[j]? = some v → Value.okWide Try.prog W .any base t v)
    (hW : DataW.Whole enc Try.prog Try.f4.params.toList Rows.checksumSealsSpec.vars false W args.toList ds gs before) :
    Calls Try.prog 4 args W fun e W' => ∃ v, e = .returned v ∧ Rows.checksumSealsSpec.post enc Try.prog Try.f4 false true false false W args v W' := by
  have hW' := hW
  obtain ⟨p, q, hA0, hV, rfl, hfz, hnd⟩ := hW
  have hA : DataW.TrodAll enc Try.prog W 0 (fun _ => true) true Try.f4.params.toList args.toList ds p := hA0
  rw [Try.params4] at hA hval
  obtain ⟨v0, vs0, d0, ds0, p0, q0, hargs, rfl, rfl, h0, r0⟩ := trodAll_cons hA
  obtain ⟨rfl, rfl, rfl⟩ := trodAll_nil r0
  obtain rfl : args = #[v0] := by cases args; simp_all
  obtain ⟨A0, n0, c0, l0, rfl, hn0, hr0, hc0, hm0, hk0⟩ := open_bytes Try.underlying22 Try.underlying5 cells_u8 (hval 0 22 v0 rfl rfl) h0
  clear hA0
  refine (walk A0 n0 c0 l0 hn0 hc0 hm0 hk0 W hr0).mono fun e W' ⟨he, hb⟩ => ?_
  subst he
  exact ⟨_, rfl, law_post laidOut (types_fit (by kernel_rfl)) (by kernel_rfl) Try.underlying4 rfl (fun xs hx => by
    match xs, hx with
    | [_], _ => rfl) hW' hb⟩

theorem lifted (os : Os) (started : os.Started) (H : Type) (enc : TypeId × Value → H) :
    ReturnsInHanded {} Try.checked os 4 .any (Rows.checksumSealsSpec.pre6 enc Try.prog Try.f4 Rows.checksumSealsRow.domain false) (Rows.checksumSealsSpec.post enc Try.prog Try.f4 false true false false) := by
  refine returnsInHanded_of_change (C := Try.checked) own started (by kernel_rfl) Try.func4
    (ChangeSpec.witness6 (enc := enc) (C := Try.checked) false ⟨#[], #[.slice none 0 0], []⟩ 8 (by kernel_rfl) (by kernel_rfl) (by kernel_rfl) (by kernel_rfl)) ?_
  intro W base args ds gs before hval hW _ _
  exact contract H enc W base args ds gs before hval hW

theorem proved : Rows.ChecksumSealsSaid :=
  OpenClaim.holds_of_wide 4 Try.f4 rfl rfl rfl rfl rfl rfl rfl ⟨rfl, rfl, rfl, rfl, rfl⟩ rfl rfl rfl rfl rfl (by kernel_rfl) Try.func4 (by kernel_rfl)
    (of_decide_eq_true (by kernel_rfl)) (by unfold Func.isWrapper; first | (rw [if_pos (by decide +kernel)]; kernel_rfl) | (rw [if_neg (by decide +kernel)]; exact ⟨rfl, rfl⟩))
    (fun os started H enc _ => lifted os started H enc)
end Go.Proofs.Ytnmakbbbbcngbaa.checksumSeals
