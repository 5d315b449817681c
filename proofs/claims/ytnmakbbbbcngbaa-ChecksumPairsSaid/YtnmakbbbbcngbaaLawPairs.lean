/- ChecksumPairs holds for every input: two changed bits of a sealed string that are at most 126 bits apart are detected by the CRC-8. No condition. -/
import Derived.Test.YtnmakbbbbcngbaaWg
import Derived.Test.YtnmakbbbbcngbaaLaw
namespace Go.Proofs.Ytnmakbbbbcngbaa.checksumPairs
open Go.RowKit Go.ChangeShapes Go.WideShapes Go.ChangeAt Go.Proofs.Ytnmakbbbbcngbaa.Mem Go.Proofs.Ytnmakbbbbcngbaa.Pl Go.Proofs.Ytnmakbbbbcngbaa.Wa Go.Proofs.Ytnmakbbbbcngbaa.Wb Go.Proofs.Ytnmakbbbbcngbaa.Wc Go.Proofs.Ytnmakbbbbcngbaa.We Go.Proofs.Ytnmakbbbbcngbaa.Wf Go.Proofs.Ytnmakbbbbcngbaa.Crc Go.Proofs.Ytnmakbbbbcngbaa.Wg Go.Proofs.Ytnmakbbbbcngbaa.Law
set_option maxRecDepth 100000
set_option maxHeartbeats 1000000

theorem walk (A : Option Addr) (n c : Nat) (l : List UInt8) (hn : n = l.length) (hc : n ≤ c) (hm : c ≤ maxLen) (hA : A = none → c = 0)
    (i : Int) (hi : -9223372036854775808 ≤ i ∧ i ≤ 9223372036854775807) (j : Int) (hj : -9223372036854775808 ≤ j ∧ j ≤ 9223372036854775807) (w : World) (hr : Row w.heap.size w A l) :
    Calls Try.prog 9 #[.slice A n c, .int .i64 i, .int .i64 j] w fun e w' => e = .returned (.bool true) ∧ Below w.heap.size w w' := by
  have hs : Sl w A n c l := ⟨hn, hr, hc, hm, hA⟩
  clear hn hr hc hA
  by_cases hl : n ≤ 2000
  · have hd : decide (n ≤ 2000) = true := by simpa using hl
    go_enter Try.func9, Try.ntmps9
    go_wp2_with fail
    refine (light_s hs).mono ?_
    rintro e w' ⟨rfl, rfl⟩
    rw [hd]
    go_wp2_with fail
    refine (sealcrc8_s hs (by omega)).mono ?_
    rintro e w1 ⟨A1, n1, c1, rfl, o1, s1, b1⟩
    obtain rfl : n1 = n + 1 := by have h1 := s1.len; have h2 := hs.len; simp at h1; omega
    obtain ⟨g, rfl, hg1, hg2⟩ := own_some o1 (by simp)
    have hgood := Lib.hid (crc8_good l)
    have hlen : (l ++ [UInt8.ofNat (crc8 l)]).length = n + 1 := s1.len.symm
    have HL := Lib.hid hlen; clear hlen
    generalize l ++ [UInt8.ofNat (crc8 l)] = s at *
    have hm1 : 1 ≤ min 126 (8 * n + 7) := by omega
    have hmh := Lib.hid (rfl : min 126 (8 * n + 7) = min 126 (8 * n + 7))
    go_wp2_with fail
    all_goals
      refine (mod_at j _ (min 126 (8 * n + 7)) w1 (by omega) hj.1 hj.2 hm1 (by omega)).mono ?_
      rintro e w' ⟨d, hd1, rfl, rfl⟩
      have hd2 : d < 126 := by omega
      have hd3 : d < 8 * n + 7 := by omega
      go_wp2_with fail
      refine (mod_at i _ (8 * n + 7 - d) w1 (by omega) hi.1 hi.2 (by omega) (by omega)).mono ?_
      rintro e w' ⟨k, hk1, rfl, rfl⟩
      go_wp2_with fail
      refine (flip_at g (n + 1) c1 _ k _ s w1 rfl o1 HL.out.symm (by omega) (by omega)).mono ?_
      rintro e w2 ⟨rfl, o2, g2⟩
      go_wp2_with fail
      refine (flip_at g (n + 1) c1 _ (k + (d + 1)) _ (flip s k) w2 (by omega) o2 ((flip_len _ _).trans HL.out).symm (by omega) (by omega)).mono ?_
      rintro e w3 ⟨rfl, o3, g3⟩
      have hb2 : Below w.heap.size w w2 := b1.grown g2 b1.size (fun q hq => by cases hq; exact hg1)
      have hb3 : Below w.heap.size w w3 := hb2.grown g3 hb2.size (fun q hq => by cases hq; exact hg1)
      have hbad := opencrc8_bad (flip (flip s k) (k + (d + 1))) (by rw [flip_len, flip_len, HL.out]; omega) (crc8_pair s k d hd2 (by rw [HL.out]; omega) hgood.out)
      go_wp2_with fail
      refine (opencrc8_s (sl_own o3 (by rw [flip_len, flip_len, HL.out])) (by omega)).mono ?_
      rw [hbad]
      rintro e w4 ⟨A4, n4, c4, rfl, s4, b4⟩
      go_wp2_with fail
      refine (awake_any w4).mono ?_
      rintro e w5 ⟨rfl, b5⟩
      go_wp2_with fail
      go_ret
      exact ⟨rfl, (hb3.trans (b4.mono hb3.size)).trans (b5.mono (Nat.le_trans hb3.size b4.size))⟩
  · have hd : decide (n ≤ 2000) = false := by simpa using hl
    go_enter Try.func9, Try.ntmps9
    go_wp2_with fail
    refine (light_s hs).mono ?_
    rintro e w' ⟨rfl, rfl⟩
    rw [hd]
    go_wp2_with fail
    refine (awake_any w).mono ?_
    rintro e w' ⟨rfl, hb⟩
    go_wp2_with fail
    go_ret
    exact ⟨rfl, hb⟩

theorem cells_u8 : Try.prog.cellsOf 5 = 1 := by kernel_rfl
theorem own : ownKnob Try.prog.godebug = none := by kernel_rfl
theorem laidOut : laidOutB Try.prog = true := by kernel_rfl
theorem contract (H : Type) (enc : TypeId × Value → H) (W : World) (base : Nat) (args : Array Value) (ds gs : List (DataW H)) (before : List MemPlace)
    (hval : ∀ (j : Nat) t v, Try.f9.params[j]? = some t → args[j]? = some v → Value.okWide Try.prog W .any base t v)
    (hW : DataW.Whole enc Try.prog Try.f9.params.toList Rows.checksumPairsSpec.vars false W args.toList ds gs before) :
    Calls Try.prog 9 args W fun e W' => ∃ v, e = .returned v ∧ Rows.checksumPairsSpec.post enc Try.prog Try.f9 false true false false W args v W' := by
  have hW' := hW
  obtain ⟨p, q, hA0, hV, rfl, hfz, hnd⟩ := hW
  have hA : DataW.TrodAll enc Try.prog W 0 (fun _ => true) true Try.f9.params.toList args.toList ds p := hA0
  rw [Try.params9] at hA hval
  obtain ⟨v0, vs0, d0, ds0, p0, q0, hargs, rfl, rfl, h0, r0⟩ := trodAll_cons hA
  obtain ⟨v1, vs1, d1, ds1, p1, q1, rfl, rfl, rfl, h1, r1⟩ := trodAll_cons r0
  obtain ⟨v2, vs2, d2, ds2, p2, q2, rfl, rfl, rfl, h2, r2⟩ := trodAll_cons r1
  obtain ⟨rfl, rfl, rfl⟩ := trodAll_nil r2
  obtain rfl : args = #[v0, v1, v2] := by cases args; simp_all
  obtain ⟨A0, n0, c0, l0, rfl, hn0, hr0, hc0, hm0, hk0⟩ := open_bytes Try.underlying22 Try.underlying5 cells_u8 (hval 0 22 v0 rfl rfl) h0
  obtain ⟨a1, rfl, -, -, w1⟩ := open_int Try.underlying3 (hval 1 3 v1 rfl rfl) h1
  obtain ⟨a2, rfl, -, -, w2⟩ := open_int Try.underlying3 (hval 2 3 v2 rfl rfl) h2
  clear hA0
  refine (walk A0 n0 c0 l0 hn0 hc0 hm0 hk0 a1 (bounds_i64 w1) a2 (bounds_i64 w2) W hr0).mono fun e W' ⟨he, hb⟩ => ?_
  subst he
  exact ⟨_, rfl, law_post laidOut (types_fit (by kernel_rfl)) (by kernel_rfl) Try.underlying4 rfl (fun xs hx => by
    match xs, hx with
    | [_, _, _], _ => rfl) hW' hb⟩

theorem lifted (os : Os) (started : os.Started) (H : Type) (enc : TypeId × Value → H) :
    ReturnsInHanded {} Try.checked os 9 .any (Rows.checksumPairsSpec.pre6 enc Try.prog Try.f9 Rows.checksumPairsRow.domain false) (Rows.checksumPairsSpec.post enc Try.prog Try.f9 false true false false) := by
  refine returnsInHanded_of_change (C := Try.checked) own started (by kernel_rfl) Try.func9
    (ChangeSpec.witness6 (enc := enc) (C := Try.checked) false ⟨#[], #[.slice none 0 0, .int .i64 0, .int .i64 0], []⟩ 8 (by kernel_rfl) (by kernel_rfl) (by kernel_rfl) (by kernel_rfl)) ?_
  intro W base args ds gs before hval hW _ _
  exact contract H enc W base args ds gs before hval hW

theorem proved : Rows.ChecksumPairsSaid :=
  OpenClaim.holds_of_wide 9 Try.f9 rfl rfl rfl rfl rfl rfl rfl ⟨rfl, rfl, rfl, rfl, rfl⟩ rfl rfl rfl rfl rfl (by kernel_rfl) Try.func9 (by kernel_rfl)
    (of_decide_eq_true (by kernel_rfl)) (by unfold Func.isWrapper; first | (rw [if_pos (by decide +kernel)]; kernel_rfl) | (rw [if_neg (by decide +kernel)]; exact ⟨rfl, rfl⟩))
    (fun os started H enc _ => lifted os started H enc)
end Go.Proofs.Ytnmakbbbbcngbaa.checksumPairs
