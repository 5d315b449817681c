/- ChecksumByte holds for every input: a changed byte of a sealed string is detected by each of the three checksums. No condition. -/
import Derived.Test.YtnmakbbbbcngbaaWg
import Derived.Test.YtnmakbbbbcngbaaLaw
namespace Go.Proofs.Ytnmakbbbbcngbaa.checksumByte
open Go.RowKit Go.ChangeShapes Go.WideShapes Go.ChangeAt Go.Proofs.Ytnmakbbbbcngbaa.Mem Go.Proofs.Ytnmakbbbbcngbaa.Pl Go.Proofs.Ytnmakbbbbcngbaa.Wa Go.Proofs.Ytnmakbbbbcngbaa.Wb Go.Proofs.Ytnmakbbbbcngbaa.Wc Go.Proofs.Ytnmakbbbbcngbaa.We Go.Proofs.Ytnmakbbbbcngbaa.Wf Go.Proofs.Ytnmakbbbbcngbaa.Crc Go.Proofs.Ytnmakbbbbcngbaa.Wg Go.Proofs.Ytnmakbbbbcngbaa.Law
set_option maxRecDepth 100000
set_option maxHeartbeats 1000000

theorem walk (A : Option Addr) (n c : Nat) (l : List UInt8) (hn : n = l.length) (hc : n ≤ c) (hm : c ≤ maxLen) (hA : A = none → c = 0)
    (i : Int) (hi : -9223372036854775808 ≤ i ∧ i ≤ 9223372036854775807) (m : Int) (hmm : 0 ≤ m ∧ m ≤ 255) (w : World) (hr : Row w.heap.size w A l) :
    Calls Try.prog 6 #[.slice A n c, .int .i64 i, .int .u8 m] w fun e w' => e = .returned (.bool true) ∧ Below w.heap.size w w' := by
  have hs : Sl w A n c l := ⟨hn, hr, hc, hm, hA⟩
  clear hn hr hc hA
  obtain ⟨m, rfl⟩ := Int.eq_ofNat_of_zero_le hmm.1
  by_cases hl : n ≤ 2000
  · have hd : decide (n ≤ 2000) = true := by simpa using hl
    by_cases hm0 : m = 0
    · subst hm0
      go_enter Try.func6, Try.ntmps6
      go_wp2_with fail
      refine (light_s hs).mono ?_
      rintro e w' ⟨rfl, rfl⟩
      rw [hd]
      go_wp2_with fail
      refine (awake_any w).mono ?_
      rintro e w' ⟨rfl, hb⟩
      go_wp2_with fail
      go_ret
      exact ⟨rfl, hb⟩
    · have hmz : ((m : Int) == 0) = false := by rw [beq_eq_false_iff_ne]; omega
      have hm256 : m < 256 := by omega
      go_enter Try.func6, Try.ntmps6
      go_wp2_with fail
      refine (light_s hs).mono ?_
      rintro e w' ⟨rfl, rfl⟩
      rw [hd]
      go_wp2_with fail
      refine (seal8_s hs (by omega)).mono ?_
      rintro e w1 ⟨A1, n1, c1, rfl, o1, s1, b1⟩
      obtain rfl : n1 = n + 1 := by have h1 := s1.len; have h2 := hs.len; simp at h1; omega
      obtain ⟨g1, rfl, p1, q1⟩ := own_some o1 (by simp)
      have X0 := Lib.hid (sum8_sealed l)
      have XL := Lib.hid (s1.len.symm : (l ++ [UInt8.ofNat (sum8 l)]).length = n + 1)
      generalize l ++ [UInt8.ofNat (sum8 l)] = x at *
      replace hs := hs.step b1
      go_wp2_with fail
      refine (sealcrc8_s hs (by omega)).mono ?_
      rintro e w2 ⟨A2, n2, c2, rfl, o2, s2, b2⟩
      obtain rfl : n2 = n + 1 := by have h1 := s2.len; have h2 := hs.len; simp at h1; omega
      obtain ⟨g2, rfl, p2, q2⟩ := own_some o2 (by simp)
      have Y0 := Lib.hid (crc8_good l)
      have YL := Lib.hid (s2.len.symm : (l ++ [UInt8.ofNat (crc8 l)]).length = n + 1)
      generalize l ++ [UInt8.ofNat (crc8 l)] = y at *
      replace hs := hs.step b2
      replace o1 := o1.below b2 (Nat.le_refl _)
      replace b2 := b1.trans (b2.mono b1.size)
      go_wp2_with fail
      refine (sealcrc32_s hs (by omega)).mono ?_
      rintro e w3 ⟨A3, n3, c3, rfl, o3, s3, b3⟩
      obtain rfl : n3 = n + 4 := by have h1 := s3.len; have h2 := hs.len; simp [lit_len] at h1; omega
      obtain ⟨g3, rfl, p3, q3⟩ := own_some o3 (by simp [lit_len])
      have Z0 := Lib.hid (raw32_good l)
      have ZL := Lib.hid (s3.len.symm : (l ++ lit (crc32 l) 4).length = n + 4)
      generalize l ++ lit (crc32 l) 4 = z at *
      replace o1 := o1.below b3 (Nat.le_refl _)
      replace o2 := o2.below b3 (Nat.le_refl _)
      replace b3 := b2.trans (b3.mono b2.size)
      clear s1 s2 s3 hs
      have hz1 := b1.size; have hz2 := b2.size; have hz3 := b3.size
      go_wp2_with fail
      refine (mod_at i _ (n + 1) w3 (by omega) hi.1 hi.2 (by omega) (by omega)).mono ?_
      rintro e w' ⟨k1, hk1, rfl, rfl⟩
      obtain ⟨xb, hcell1, hfz1, t1, x', XL1, r1, X1, -, -⟩ := poke o1 XL.out.symm hk1 hm256 hm0
      have X2 := Lib.hid (X1 X0.out)
      go_wp2_with fail
      rw [bv_xor _ _ hm256]
      replace o2 := own_far o2 t1 (by omega)
      replace o3 := own_far o3 t1 (by omega)
      have b4 := b3.grown t1 b3.size (fun q hq => by cases hq; exact p1)
      generalize w3.setCell ⟨g1, k1, none⟩ (bv (xb ^^^ UInt8.ofNat m)) = w4 at *
      clear hcell1 hfz1 o1 t1 X1
      go_wp2_with fail
      refine (mod_at i _ (n + 1) w4 (by omega) hi.1 hi.2 (by omega) (by omega)).mono ?_
      rintro e w' ⟨k2, hk2, rfl, rfl⟩
      obtain ⟨yb, hcell2, hfz2, t2, y', YL1, r2, -, Y1, -⟩ := poke o2 YL.out.symm hk2 hm256 hm0
      have Y2 := Lib.hid (Y1 Y0.out)
      go_wp2_with fail
      rw [bv_xor _ _ hm256]
      replace r1 := own_far r1 t2 (by omega)
      replace o3 := own_far o3 t2 (by omega)
      have b5 := b4.grown t2 b4.size (fun q hq => by cases hq; omega)
      generalize w4.setCell ⟨g2, k2, none⟩ (bv (yb ^^^ UInt8.ofNat m)) = w5 at *
      clear hcell2 hfz2 o2 t2 Y1
      go_wp2_with fail
      refine (mod_at i _ (n + 4) w5 (by omega) hi.1 hi.2 (by omega) (by omega)).mono ?_
      rintro e w' ⟨k3, hk3, rfl, rfl⟩
      obtain ⟨zb, hcell3, hfz3, t3, z', ZL1, r3, -, -, Z1⟩ := poke o3 ZL.out.symm hk3 hm256 hm0
      have Z2 := Lib.hid (Z1 Z0.out)
      go_wp2_with fail
      rw [bv_xor _ _ hm256]
      replace r1 := own_far r1 t3 (by omega)
      replace r2 := own_far r2 t3 (by omega)
      have b6 := b5.grown t3 b5.size (fun q hq => by cases hq; omega)
      generalize w5.setCell ⟨g3, k3, none⟩ (bv (zb ^^^ UInt8.ofNat m)) = w6 at *
      clear hcell3 hfz3 o3 t3 Z1
      have sx := sl_own r1 XL1.out
      have sy := sl_own r2 YL1.out
      have sz := sl_own r3 ZL1.out
      clear r1 r2 r3
      go_wp2_with fail
      refine (open8_s sx (by omega)).mono ?_
      rw [open8_bad x' (by rw [← XL1.out]; omega) X2.out]
      rintro e w7 ⟨A7, n7, c7, rfl, s7, b7⟩
      obtain rfl : n7 = 0 := s7.len
      replace sy := sy.step b7
      replace sz := sz.step b7
      replace b7 := b6.trans (b7.mono b6.size)
      go_wp2_with fail
      refine (opencrc8_s sy (by omega)).mono ?_
      rw [opencrc8_bad y' (by rw [← YL1.out]; omega) Y2.out]
      rintro e w8 ⟨A8, n8, c8, rfl, s8, b8⟩
      obtain rfl : n8 = 0 := s8.len
      replace sz := sz.step b8
      replace b8 := b7.trans (b8.mono b7.size)
      go_wp2_with fail
      refine (opencrc32_s sz (by omega)).mono ?_
      rw [opencrc32_bad z' (by rw [← ZL1.out]; omega) Z2.out]
      rintro e w9 ⟨A9, n9, c9, rfl, s9, b9⟩
      obtain rfl : n9 = 0 := s9.len
      replace b9 := b8.trans (b9.mono b8.size)
      go_wp2_with fail
      refine (awake_any w9).mono ?_
      rintro e w10 ⟨rfl, b10⟩
      go_wp2_with fail
      go_ret
      exact ⟨rfl, b9.trans (b10.mono b9.size)⟩
  · have hd : decide (n ≤ 2000) = false := by simpa using hl
    go_enter Try.func6, Try.ntmps6
    go_wp2_with fail
    refine (light_s hs).mono ?_
    rintro e w' ⟨rfl, rfl⟩
    rw [hd]
    go_wp2_with fail
    refine (awake_any w).mono ?_
    rintro e w' ⟨rfl, hb⟩
    go_wp2_with fail
    go_ret
    exact ⟨rfl, hb⟩

theorem cells_u8 : Try.prog.cellsOf 5 = 1 := by kernel_rfl
theorem own : ownKnob Try.prog.godebug = none := by kernel_rfl
theorem laidOut : laidOutB Try.prog = true := by kernel_rfl
theorem contract (H : Type) (enc : TypeId × Value → H) (W : World) (base : Nat) (args : Array Value) (ds gs : List (DataW H)) (before : List MemPlace)
    (hval : ∀ (j : Nat) t v, Try.f6.params[j]? = some t → args[j]? = some v → Value.okWide Try.prog W .any base t v)
    (hW : DataW.Whole enc Try.prog Try.f6.params.toList Rows.checksumByteSpec.vars false W args.toList ds gs before) :
    Calls Try.prog 6 args W fun e W' => ∃ v, e = .returned v ∧ Rows.checksumByteSpec.post enc Try.prog Try.f6 false true false false W args v W' := by
  have hW' := hW
  obtain ⟨p, q, hA0, hV, rfl, hfz, hnd⟩ := hW
  have hA : DataW.TrodAll enc Try.prog W 0 (fun _ => true) true Try.f6.params.toList args.toList ds p := hA0
  rw [Try.params6] at hA hval
  obtain ⟨v0, vs0, d0, ds0, p0, q0, hargs, rfl, rfl, h0, r0⟩ := trodAll_cons hA
  obtain ⟨v1, vs1, d1, ds1, p1, q1, rfl, rfl, rfl, h1, r1⟩ := trodAll_cons r0
  obtain ⟨v2, vs2, d2, ds2, p2, q2, rfl, rfl, rfl, h2, r2⟩ := trodAll_cons r1
  obtain ⟨rfl, rfl, rfl⟩ := trodAll_nil r2
  obtain rfl : args = #[v0, v1, v2] := by cases args; simp_all
  obtain ⟨A0, n0, c0, l0, rfl, hn0, hr0, hc0, hm0, hk0⟩ := open_bytes Try.underlying22 Try.underlying5 cells_u8 (hval 0 22 v0 rfl rfl) h0
  obtain ⟨a1, rfl, -, -, w1⟩ := open_int Try.underlying3 (hval 1 3 v1 rfl rfl) h1
  obtain ⟨a2, rfl, -, -, w2⟩ := open_int Try.underlying5 (hval 2 5 v2 rfl rfl) h2
  clear hA0
  refine (walk A0 n0 c0 l0 hn0 hc0 hm0 hk0 a1 (bounds_i64 w1) a2 (bounds_u8 w2) W hr0).mono fun e W' ⟨he, hb⟩ => ?_
  subst he
  exact ⟨_, rfl, law_post laidOut (types_fit (by kernel_rfl)) (by kernel_rfl) Try.underlying4 rfl (fun xs hx => by
    match xs, hx with
    | [_, _, _], _ => rfl) hW' hb⟩

theorem lifted (os : Os) (started : os.Started) (H : Type) (enc : TypeId × Value → H) :
    ReturnsInHanded {} Try.checked os 6 .any (Rows.checksumByteSpec.pre6 enc Try.prog Try.f6 Rows.checksumByteRow.domain false) (Rows.checksumByteSpec.post enc Try.prog Try.f6 false true false false) := by
  refine returnsInHanded_of_change (C := Try.checked) own started (by kernel_rfl) Try.func6
    (ChangeSpec.witness6 (enc := enc) (C := Try.checked) false ⟨#[], #[.slice none 0 0, .int .i64 0, .int .u8 0], []⟩ 8 (by kernel_rfl) (by kernel_rfl) (by kernel_rfl) (by kernel_rfl)) ?_
  intro W base args ds gs before hval hW _ _
  exact contract H enc W base args ds gs before hval hW

theorem proved : Rows.ChecksumByteSaid :=
  OpenClaim.holds_of_wide 6 Try.f6 rfl rfl rfl rfl rfl rfl rfl ⟨rfl, rfl, rfl, rfl, rfl⟩ rfl rfl rfl rfl rfl (by kernel_rfl) Try.func6 (by kernel_rfl)
    (of_decide_eq_true (by kernel_rfl)) (by unfold Func.isWrapper; first | (rw [if_pos (by decide +kernel)]; kernel_rfl) | (rw [if_neg (by decide +kernel)]; exact ⟨rfl, rfl⟩))
    (fun os started H enc _ => lifted os started H enc)
end Go.Proofs.Ytnmakbbbbcngbaa.checksumByte
