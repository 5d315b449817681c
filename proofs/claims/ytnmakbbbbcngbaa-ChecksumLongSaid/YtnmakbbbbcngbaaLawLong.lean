/- ChecksumLong holds for every input: a change of a sealed string that is confined to 32 consecutive bits (least significant bit of each byte first) is detected by the CRC-32. No condition. -/
import Derived.Test.YtnmakbbbbcngbaaWg
import Derived.Test.YtnmakbbbbcngbaaLaw
namespace Go.Proofs.Ytnmakbbbbcngbaa.checksumLong
open Go.RowKit Go.ChangeShapes Go.WideShapes Go.ChangeAt Go.Proofs.Ytnmakbbbbcngbaa.Mem Go.Proofs.Ytnmakbbbbcngbaa.Pl Go.Proofs.Ytnmakbbbbcngbaa.Wa Go.Proofs.Ytnmakbbbbcngbaa.Wb Go.Proofs.Ytnmakbbbbcngbaa.Wc Go.Proofs.Ytnmakbbbbcngbaa.We Go.Proofs.Ytnmakbbbbcngbaa.Wf Go.Proofs.Ytnmakbbbbcngbaa.Crc Go.Proofs.Ytnmakbbbbcngbaa.Wg Go.Proofs.Ytnmakbbbbcngbaa.Law
set_option maxRecDepth 100000
set_option maxHeartbeats 1000000

/-- Behind q rounds of the loop. -/
def Rel (base : Nat) (w0 wr : World) (v : Value) (N k m q : Nat) : Prop := ∃ s, Own base wr v s ∧ s.length = N ∧ raw32 s = K32 ^^^ it sh32 (8 * N - k) (m % 2 ^ q) ∧ Below base w0 wr

theorem walk (A : Option Addr) (n c : Nat) (l : List UInt8) (hn : n = l.length) (hc : n ≤ c) (hm : c ≤ maxLen) (hA : A = none → c = 0)
    (i : Int) (hi : -9223372036854775808 ≤ i ∧ i ≤ 9223372036854775807) (m : Int) (hmm : 0 ≤ m ∧ m ≤ 4294967295) (w : World) (hr : Row w.heap.size w A l) :
    Calls Try.prog 10 #[.slice A n c, .int .i64 i, .int .u32 m] w fun e w' => e = .returned (.bool true) ∧ Below w.heap.size w w' := by
  have hs : Sl w A n c l := ⟨hn, hr, hc, hm, hA⟩
  clear hn hr hc hA
  obtain ⟨m, rfl⟩ := Int.eq_ofNat_of_zero_le hmm.1
  by_cases hl : n ≤ 2000
  · have hd : decide (n ≤ 2000) = true := by simpa using hl
    by_cases hm0 : m = 0
    · subst hm0
      go_enter Try.func10, Try.ntmps10
      go_wp2_with fail
      refine (light_s hs).mono ?_
      rintro e w' ⟨rfl, rfl⟩
      rw [hd]
      go_wp2_with fail
      refine (awake_any w).mono ?_
      rintro e w' ⟨rfl, hb⟩
      go_wp2_with fail
      go_ret
      exact ⟨rfl, hb⟩
    · have hmz : ((m : Int) == 0) = false := by rw [beq_eq_false_iff_ne]; omega
      have hm256 : m < 4294967296 := by omega
      go_enter Try.func10, Try.ntmps10
      go_wp2_with fail
      refine (light_s hs).mono ?_
      rintro e w' ⟨rfl, rfl⟩
      rw [hd]
      go_wp2_with fail
      refine (sealcrc32_s hs (by omega)).mono ?_
      rintro e w1 ⟨A1, n1, c1, rfl, o1, s1, b1⟩
      obtain rfl : n1 = n + 4 := by have h1 := s1.len; have h2 := hs.len; simp [lit_len] at h1; omega
      obtain ⟨g, rfl, hg1, hg2⟩ := own_some o1 (by simp [lit_len])
      have hgood := Lib.hid (raw32_good l)
      have HL := Lib.hid (s1.len.symm : (l ++ lit (crc32 l) 4).length = n + 4)
      generalize l ++ lit (crc32 l) 4 = s at *
      go_wp2_with fail
      refine (mod_at i _ (8 * n + 1) w1 (by omega) hi.1 hi.2 (by omega) (by omega)).mono ?_
      rintro e w' ⟨k, hk1, rfl, rfl⟩
      go_wp2_with fail
      go_loopw [9] (fun v wr => ∃ q : Nat, q ≤ 32 ∧ v = .int .i64 q ∧ Rel w.heap.size w wr (.slice (some ⟨g, 0, none⟩) (n + 4) c1) (n + 4) k m q) (fun v _ => 32 - (intOf v).toNat)
      case atStart => exact ⟨0, by omega, rfl, s, o1, HL.out, by rw [hgood.out, Nat.pow_zero, Nat.mod_one, it_zero reg32, Nat.xor_zero], b1⟩
      case round =>
        obtain ⟨q, hq, rfl, hrel⟩ := hrel
        by_cases hlt : q < 32
        · obtain ⟨s', o', hl', hc', hb'⟩ := hrel
          by_cases hbit : m / 2 ^ q % 2 = 1
          · have hy : (k + q) / 8 < s'.length := by omega
            have hcell := own_cell o' hl'.symm hy
            have hfz := own_frozen o' hl'.symm ((k + q) / 8)
            have hx := s'[(k + q) / 8].toNat_lt
            have htb := tbit_one hbit
            have HL2 := Lib.hid hl'; have HC := Lib.hid hc'; have HB := Lib.hid hbit
            clear hl' hc' hbit
            go_wp2_with fail
            rw [lflip_bv]
            obtain ⟨o2, g2⟩ := own_store o' HL2.out.symm ((k + q) / 8) (s'[(k + q) / 8] ^^^ lbit (k + q))
            have e2 : s'.set ((k + q) / 8) (s'[(k + q) / 8] ^^^ lbit (k + q)) = lflip s' (k + q) := by rw [lflip, List.getElem?_eq_getElem hy]; rfl
            rw [e2] at o2
            refine ⟨⟨q + 1, by omega, by go_num, lflip s' (k + q), o2, (lflip_len _ _).trans HL2.out, ?_, hb'.grown g2 hb'.size (fun x hx => by cases hx; exact hg1)⟩, by simp [intOf]; omega⟩
            have hc' := HC.out
            have hl' := HL2.out
            rw [← hl'] at hc' ⊢
            exact burst32 s' k q m _ hlt (by omega) HB.out hc'
          · have htb := tbit_zero hbit
            have HL2 := Lib.hid hl'; have HC := Lib.hid hc'; have HB := Lib.hid hbit
            clear hl' hc' hbit
            go_wp2_with fail
            exact ⟨⟨q + 1, by omega, by go_num, s', o', HL2.out, by rw [HC.out, low_no m q (by have := HB.out; omega)], hb'⟩, by simp [intOf]; omega⟩
        · obtain rfl : q = 32 := by omega
          obtain ⟨s', o', hl', hc', hb'⟩ := hrel
          have hbad := opencrc32_bad s' (by omega) (by rw [hc']; exact burst32_end _ m hm256 hm0)
          have HS := Lib.hid hl'; clear hl' hc'
          go_wp2_with fail
          refine (opencrc32_s (sl_own o' HS.out.symm) (by omega)).mono ?_
          rw [hbad]
          rintro e w4 ⟨A4, n4, c4, rfl, s4, b4⟩
          go_wp2_with fail
          refine (awake_any w4).mono ?_
          rintro e w5 ⟨rfl, b5⟩
          go_wp2_with fail
          go_ret
          exact ⟨rfl, (hb'.trans (b4.mono hb'.size)).trans (b5.mono (Nat.le_trans hb'.size b4.size))⟩
  · have hd : decide (n ≤ 2000) = false := by simpa using hl
    go_enter Try.func10, Try.ntmps10
    go_wp2_with fail
    refine (light_s hs).mono ?_
    rintro e w' ⟨rfl, rfl⟩
    rw [hd]
    go_wp2_with fail
    refine (awake_any w).mono ?_
    rintro e w' ⟨rfl, hb⟩
    go_wp2_with fail
    go_ret
    exact ⟨rfl, hb⟩

theorem cells_u8 : Try.prog.cellsOf 5 = 1 := by kernel_rfl
theorem own : ownKnob Try.prog.godebug = none := by kernel_rfl
theorem laidOut : laidOutB Try.prog = true := by kernel_rfl
theorem contract (H : Type) (enc : TypeId × Value → H) (W : World) (base : Nat) (args : Array Value) (ds gs : List (DataW H)) (before : List MemPlace)
    (hval : ∀ (j : Nat) t v, Try.f10.params[j]? = some t → args[j]? = some v → Value.okWide Try.prog W .any base t v)
    (hW : DataW.Whole enc Try.prog Try.f10.params.toList Rows.checksumLongSpec.vars false W args.toList ds gs before) :
    Calls Try.prog 10 args W fun e W' => ∃ v, e = .returned v ∧ Rows.checksumLongSpec.post enc Try.prog Try.f10 false true false false W args v W' := by
  have hW' := hW
  obtain ⟨p, q, hA0, hV, rfl, hfz, hnd⟩ := hW
  have hA : DataW.TrodAll enc Try.prog W 0 (fun _ => true) true Try.f10.params.toList args.toList ds p := hA0
  rw [Try.params10] at hA hval
  obtain ⟨v0, vs0, d0, ds0, p0, q0, hargs, rfl, rfl, h0, r0⟩ := trodAll_cons hA
  obtain ⟨v1, vs1, d1, ds1, p1, q1, rfl, rfl, rfl, h1, r1⟩ := trodAll_cons r0
  obtain ⟨v2, vs2, d2, ds2, p2, q2, rfl, rfl, rfl, h2, r2⟩ := trodAll_cons r1
  obtain ⟨rfl, rfl, rfl⟩ := trodAll_nil r2
  obtain rfl : args = #[v0, v1, v2] := by cases args; simp_all
  obtain ⟨A0, n0, c0, l0, rfl, hn0, hr0, hc0, hm0, hk0⟩ := open_bytes Try.underlying22 Try.underlying5 cells_u8 (hval 0 22 v0 rfl rfl) h0
  obtain ⟨a1, rfl, -, -, w1⟩ := open_int Try.underlying3 (hval 1 3 v1 rfl rfl) h1
  obtain ⟨a2, rfl, -, -, w2⟩ := open_int Try.underlying26 (hval 2 26 v2 rfl rfl) h2
  clear hA0
  refine (walk A0 n0 c0 l0 hn0 hc0 hm0 hk0 a1 (bounds_i64 w1) a2 (bounds_u32 w2) W hr0).mono fun e W' ⟨he, hb⟩ => ?_
  subst he
  exact ⟨_, rfl, law_post laidOut (types_fit (by kernel_rfl)) (by kernel_rfl) Try.underlying4 rfl (fun xs hx => by
    match xs, hx with
    | [_, _, _], _ => rfl) hW' hb⟩

theorem lifted (os : Os) (started : os.Started) (H : Type) (enc : TypeId × Value → H) :
    ReturnsInHanded {} Try.checked os 10 .any (Rows.checksumLongSpec.pre6 enc Try.prog Try.f10 Rows.checksumLongRow.domain false) (Rows.checksumLongSpec.post enc Try.prog Try.f10 false true false false) := by
  refine returnsInHanded_of_change (C := Try.checked) own started (by kernel_rfl) Try.func10
    (ChangeSpec.witness6 (enc := enc) (C := Try.checked) false ⟨#[], #[.slice none 0 0, .int .i64 0, .int .u32 0], []⟩ 8 (by kernel_rfl) (by kernel_rfl) (by kernel_rfl) (by kernel_rfl)) ?_
  intro W base args ds gs before hval hW _ _
  exact contract H enc W base args ds gs before hval hW

theorem proved : Rows.ChecksumLongSaid :=
  OpenClaim.holds_of_wide 10 Try.f10 rfl rfl rfl rfl rfl rfl rfl ⟨rfl, rfl, rfl, rfl, rfl⟩ rfl rfl rfl rfl rfl (by kernel_rfl) Try.func10 (by kernel_rfl)
    (of_decide_eq_true (by kernel_rfl)) (by unfold Func.isWrapper; first | (rw [if_pos (by decide +kernel)]; kernel_rfl) | (rw [if_neg (by decide +kernel)]; exact ⟨rfl, rfl⟩))
    (fun os started H enc _ => lifted os started H enc)
end Go.Proofs.Ytnmakbbbbcngbaa.checksumLong
