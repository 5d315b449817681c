/- ChecksumOdd holds for every input: an odd number of changed bits of a sealed string is detected by the CRC-8, and an unchanged string is opened. No condition. -/
import Derived.Test.YtnmakbbbbcngbaaWg
import Derived.Test.YtnmakbbbbcngbaaLaw
namespace Go.Proofs.Ytnmakbbbbcngbaa.checksumOdd
open Go.RowKit Go.ChangeShapes Go.WideShapes Go.ChangeAt Go.Proofs.Ytnmakbbbbcngbaa.Mem Go.Proofs.Ytnmakbbbbcngbaa.Pl Go.Proofs.Ytnmakbbbbcngbaa.Wa Go.Proofs.Ytnmakbbbbcngbaa.Wb Go.Proofs.Ytnmakbbbbcngbaa.Wc Go.Proofs.Ytnmakbbbbcngbaa.We Go.Proofs.Ytnmakbbbbcngbaa.Wf Go.Proofs.Ytnmakbbbbcngbaa.Crc Go.Proofs.Ytnmakbbbbcngbaa.Wg Go.Proofs.Ytnmakbbbbcngbaa.Law
set_option maxRecDepth 100000
set_option maxHeartbeats 1000000

/-- Behind some rounds: the string s, the marks bs, the number of changed bits. -/
def Rel (base : Nat) (w0 wr : World) (x y : Value) (s0 : List UInt8) (N k : Nat) : Prop :=
  ∃ s bs, Own base wr x s ∧ s.length = N ∧ BOwn base wr y bs ∧ bs.length = 8 * N ∧ par (crc8 s) = k % 2 ∧ (k = 0 → s = s0) ∧ Below base w0 wr

theorem odd_end (s s0 : List UInt8) (k : Nat) (hl : 0 < s.length) (hp : par (crc8 s) = k % 2) (h0 : k = 0 → s = s0) (hs0 : opencrc8 s0 = (0, s0.take (s0.length - 1))) :
    (k = 0 ∧ (opencrc8 s).1 = 0) ∨ (k ≠ 0 ∧ k % 2 = 0) ∨ (k % 2 = 1 ∧ (opencrc8 s).1 = 5) := by
  by_cases hk : k = 0
  · left; rw [h0 hk, hs0]; exact ⟨hk, rfl⟩
  · by_cases h2 : k % 2 = 0
    · right; left; exact ⟨hk, h2⟩
    · right; right
      refine ⟨by omega, ?_⟩
      rw [opencrc8_bad s hl (fun h => by rw [h, show par 0 = 0 from rfl] at hp; omega)]

theorem walk (A : Option Addr) (n c : Nat) (l : List UInt8) (hn : n = l.length) (hc : n ≤ c) (hm : c ≤ maxLen) (hA : A = none → c = 0)
    (A' : Option Addr) (n' c' : Nat) (l' : List Int) (hn' : n' = l'.length) (hw' : ∀ x ∈ l', -9223372036854775808 ≤ x ∧ x ≤ 9223372036854775807) (hc' : n' ≤ c') (hm' : c' ≤ maxLen) (_hA' : A' = none → c' = 0)
    (w : World) (hr : Row w.heap.size w A l) (hr' : IRow w.heap.size w A' l') :
    Calls Try.prog 8 #[.slice A n c, .slice A' n' c'] w fun e w' => e = .returned (.bool true) ∧ Below w.heap.size w w' := by
  have hs : Sl w A n c l := ⟨hn, hr, hc, hm, hA⟩
  clear hn hr hc hA
  have hmx : n' ≤ 9223372036854775807 := by have := hm'; unfold maxLen at this; omega
  have HN := Lib.hid hn'; have HW := Lib.hid hw'
  clear hn' hw'
  by_cases hl : n ≤ 2000
  · have hd : decide (n ≤ 2000) = true := by simpa using hl
    by_cases h40 : n' ≤ 40
    · go_enter Try.func8, Try.ntmps8
      go_wp2_with fail
      refine (light_s hs).mono ?_
      rintro e w' ⟨rfl, rfl⟩
      rw [hd]
      go_wp2_with fail
      refine (sealcrc8_s hs (by omega)).mono ?_
      rintro e w1 ⟨A1, n1, c1, rfl, o1, s1, b1⟩
      obtain rfl : n1 = n + 1 := by have h1 := s1.len; have h2 := hs.len; simp at h1; omega
      obtain ⟨g, rfl, hg1, hg2⟩ := own_some o1 (by simp)
      have hgood := Lib.hid (crc8_good l)
      have hopen := Lib.hid (by rw [opencrc8_sealed]; simp : opencrc8 (l ++ [UInt8.ofNat (crc8 l)]) = (0, (l ++ [UInt8.ofNat (crc8 l)]).take ((l ++ [UInt8.ofNat (crc8 l)]).length - 1)))
      have HL := Lib.hid (s1.len.symm : (l ++ [UInt8.ofNat (crc8 l)]).length = n + 1)
      generalize l ++ [UInt8.ofNat (crc8 l)] = s at *
      obtain ⟨i0, hi0, hz0, hz1, hz2⟩ := info_parts info_bool
      have hb1 := b1.size
      go_wp2_with (at_make; (refine wpList_make_full _ rfl _ _ 38 rfl w.heap.size 4 i0 _ 1 Try.underlying38 hi0 hz0 hz1 _ _ _ _ (8 * (n + 1)) rfl rfl (by omega) (by omega) (by rw [hz2]; omega) (by unfold maxLen; omega) hb1 ?_); intro w2 hown2 hgr2)
      have hB2 := bown_made hown2
      have o2 : Own w.heap.size w2 (.slice (some ⟨g, 0, none⟩) (n + 1) c1) s := World.ownsRow.kept o1 hgr2 (.inr (by simp [Value.ownBlock]))
      have b2 : Below w.heap.size w w2 := b1.grown hgr2 hb1 (fun k hk => by cases hk)
      clear hown2 hgr2 o1 s1 b1
      generalize w1.heap.size = gs at *
      go_loopw [6, 8] (fun kv v wr => ∃ q k : Nat, q ≤ n' ∧ k ≤ q ∧ v = .int .i64 q ∧ kv = .int .i64 k ∧ Rel w.heap.size w wr (.slice (some ⟨g, 0, none⟩) (n + 1) c1) (.slice (some ⟨gs, 0, none⟩) (8 * (n + 1)) (8 * (n + 1))) s (n + 1) k) (fun _ v _ => n' - (intOf v).toNat)
      case atStart => exact ⟨0, 0, by omega, by omega, rfl, rfl, s, List.replicate (8 * (n + 1)) false, o2, HL.out, hB2, by rw [List.length_replicate], by rw [hgood.out]; rfl, fun _ => rfl, b2⟩
      case round =>
        clear o2 hB2 b2
        obtain ⟨q, k, hq, hkq, rfl, rfl, hrel⟩ := hrel
        by_cases hlt : q < n'
        · obtain ⟨s', bs, o', hl', hB', hbl', hp', h0', hb'⟩ := hrel
          have hql : q < l'.length := by rw [← HN.out]; exact hlt
          obtain ⟨a, rfl, hab, hcell⟩ := irow_at (Rd.below hr' hb') hql
          obtain ⟨hz3, hz4⟩ := HW.out _ (List.getElem_mem hql)
          generalize l'[q] = z at *
          have HSL := Lib.hid hl'; have HBL := Lib.hid hbl'; have HP := Lib.hid hp'; have H0 := Lib.hid h0'
          clear hl' hbl' hp' h0'
          go_wp2_with fail
          refine (mod_at z _ (8 * (n + 1)) wr (by omega) hz3 hz4 (by omega) (by omega)).mono ?_
          rintro e w' ⟨j, hj, rfl, rfl⟩
          have hjb : j < bs.length := by rw [HBL.out]; exact hj
          have hcellb := bown_cell hB' HBL.out.symm hjb
          have hfzb := bown_frozen hB' HBL.out.symm j
          have hjn : (j : Int) < 8 * ((n : Int) + 1) := by omega
          obtain ⟨bj, hbj⟩ : ∃ b, bs[j] = b := ⟨_, rfl⟩
          rw [hbj] at hcellb
          clear hbj
          rcases bj with _ | _
          · obtain ⟨hB2, gr2⟩ := bown_store hB' HBL.out.symm j true
            have o2 := own_far o' gr2 (by omega : g ≠ gs)
            have b2 := hb'.grown gr2 hb'.size (fun x hx => by cases hx; omega)
            go_wp2_with fail
            refine (flip_at g (n + 1) c1 _ j _ s' _ rfl o2 HSL.out.symm (by omega) (by omega)).mono ?_
            rintro e w3 ⟨rfl, o3, gr3⟩
            have hB3 := bown_far hB2 gr3 (by omega : gs ≠ g)
            have b3 := b2.grown gr3 b2.size (fun x hx => by cases hx; exact hg1)
            have hrel3 : Rel w.heap.size w w3 (.slice (some ⟨g, 0, none⟩) (n + 1) c1) (.slice (some ⟨gs, 0, none⟩) (8 * (n + 1)) (8 * (n + 1))) s (n + 1) (k + 1) :=
              ⟨flip s' j, _, o3, (flip_len _ _).trans HSL.out, hB3, by rw [List.length_set, HBL.out], by rw [par_flip s' j (by rw [HSL.out]; exact hj), HP.out]; omega, fun h => by omega, b3⟩
            clear o3 hB3 b3 o2 hB2 b2 gr2 gr3 o' hB' hb' hcellb hfzb
            go_wp2_with fail
            exact ⟨⟨q + 1, k + 1, by omega, by omega, by go_num, by go_num, hrel3⟩, by simp [intOf]; omega⟩
          · go_wp2_with fail
            exact ⟨⟨q + 1, k, by omega, by omega, by go_num, rfl, s', bs, o', HSL.out, hB', HBL.out, HP.out, H0.out, hb'⟩, by simp [intOf]; omega⟩
        · obtain ⟨s', bs, o', hl', -, -, hp', h0', hb'⟩ := hrel
          have hend := odd_end s' s k (by omega) hp' h0' hopen.out
          have HSL := Lib.hid hl'
          have hso := sl_own o' hl'.symm
          clear hp' h0' hl'
          rcases hend with ⟨hk0, h1⟩ | ⟨hk0, hk2⟩ | ⟨hk2, h1⟩
          · subst hk0
            have H1 := Lib.hid h1; clear h1
            go_wp2_with fail
            refine (opencrc8_s hso (by omega)).mono ?_
            rintro e w4 ⟨A4, n4, c4, rfl, s4, b4⟩
            rw [H1.out]
            go_wp2_with fail
            refine (awake_any w4).mono ?_
            rintro e w5 ⟨rfl, b5⟩
            go_wp2_with fail
            go_ret
            exact ⟨rfl, (hb'.trans (b4.mono hb'.size)).trans (b5.mono (Nat.le_trans hb'.size b4.size))⟩
          · have hz : ((k : Int) == 0) = false := by rw [beq_eq_false_iff_ne]; omega
            have hz2 : ((k : Int) % 2 == 0) = true := by rw [beq_iff_eq]; omega
            clear hk0 hk2
            go_wp2_with fail
            refine (opencrc8_s hso (by omega)).mono ?_
            rintro e w4 ⟨A4, n4, c4, rfl, s4, b4⟩
            go_wp2_with fail
            refine (awake_any w4).mono ?_
            rintro e w5 ⟨rfl, b5⟩
            go_wp2_with fail
            go_ret
            exact ⟨rfl, (hb'.trans (b4.mono hb'.size)).trans (b5.mono (Nat.le_trans hb'.size b4.size))⟩
          · have hz : ((k : Int) == 0) = false := by rw [beq_eq_false_iff_ne]; omega
            have hz2 : ((k : Int) % 2 == 0) = false := by rw [beq_eq_false_iff_ne]; omega
            have H1 := Lib.hid h1; clear h1 hk2
            go_wp2_with fail
            refine (opencrc8_s hso (by omega)).mono ?_
            rintro e w4 ⟨A4, n4, c4, rfl, s4, b4⟩
            rw [H1.out]
            go_wp2_with fail
            refine (awake_any w4).mono ?_
            rintro e w5 ⟨rfl, b5⟩
            go_wp2_with fail
            go_ret
            exact ⟨rfl, (hb'.trans (b4.mono hb'.size)).trans (b5.mono (Nat.le_trans hb'.size b4.size))⟩
    · go_enter Try.func8, Try.ntmps8
      go_wp2_with fail
      refine (light_s hs).mono ?_
      rintro e w' ⟨rfl, rfl⟩
      rw [hd]
      go_wp2_with fail
      refine (awake_any w).mono ?_
      rintro e w' ⟨rfl, hb⟩
      go_wp2_with fail
      go_ret
      exact ⟨rfl, hb⟩
  · have hd : decide (n ≤ 2000) = false := by simpa using hl
    go_enter Try.func8, Try.ntmps8
    go_wp2_with fail
    refine (light_s hs).mono ?_
    rintro e w' ⟨rfl, rfl⟩
    rw [hd]
    go_wp2_with fail
    refine (awake_any w).mono ?_
    rintro e w' ⟨rfl, hb⟩
    go_wp2_with fail
    go_ret
    exact ⟨rfl, hb⟩

theorem cells_u8 : Try.prog.cellsOf 5 = 1 := by kernel_rfl
theorem cells_int : Try.prog.cellsOf 3 = 1 := by kernel_rfl
theorem own : ownKnob Try.prog.godebug = none := by kernel_rfl
theorem laidOut : laidOutB Try.prog = true := by kernel_rfl
theorem contract (H : Type) (enc : TypeId × Value → H) (W : World) (base : Nat) (args : Array Value) (ds gs : List (DataW H)) (before : List MemPlace)
    (hval : ∀ (j : Nat) t v, Try.f8.params[j]? = some t → args[j]? = some v → Value.okWide Try.prog W .any base t v)
    (hW : DataW.Whole enc Try.prog Try.f8.params.toList Rows.checksumOddSpec.vars false W args.toList ds gs before) :
    Calls Try.prog 8 args W fun e W' => ∃ v, e = .returned v ∧ Rows.checksumOddSpec.post enc Try.prog Try.f8 false true false false W args v W' := by
  have hW' := hW
  obtain ⟨p, q, hA0, hV, rfl, hfz, hnd⟩ := hW
  have hA : DataW.TrodAll enc Try.prog W 0 (fun _ => true) true Try.f8.params.toList args.toList ds p := hA0
  rw [Try.params8] at hA hval
  obtain ⟨v0, vs0, d0, ds0, p0, q0, hargs, rfl, rfl, h0, r0⟩ := trodAll_cons hA
  obtain ⟨v1, vs1, d1, ds1, p1, q1, rfl, rfl, rfl, h1, r1⟩ := trodAll_cons r0
  obtain ⟨rfl, rfl, rfl⟩ := trodAll_nil r1
  obtain rfl : args = #[v0, v1] := by cases args; simp_all
  obtain ⟨A0, n0, c0, l0, rfl, hn0, hr0, hc0, hm0, hk0⟩ := open_bytes Try.underlying22 Try.underlying5 cells_u8 (hval 0 22 v0 rfl rfl) h0
  obtain ⟨A1, n1, c1, l1, rfl, hn1, hr1, hw1, hc1, hm1, hk1⟩ := open_int_list Try.underlying37 Try.underlying3 cells_int (hval 1 37 v1 rfl rfl) h1
  clear hA0
  refine (walk A0 n0 c0 l0 hn0 hc0 hm0 hk0 A1 n1 c1 l1 hn1 hw1 hc1 hm1 hk1 W hr0 hr1).mono fun e W' ⟨he, hb⟩ => ?_
  subst he
  exact ⟨_, rfl, law_post laidOut (types_fit (by kernel_rfl)) (by kernel_rfl) Try.underlying4 rfl (fun xs hx => by
    match xs, hx with
    | [_, _], _ => rfl) hW' hb⟩

theorem lifted (os : Os) (started : os.Started) (H : Type) (enc : TypeId × Value → H) :
    ReturnsInHanded {} Try.checked os 8 .any (Rows.checksumOddSpec.pre6 enc Try.prog Try.f8 Rows.checksumOddRow.domain false) (Rows.checksumOddSpec.post enc Try.prog Try.f8 false true false false) := by
  refine returnsInHanded_of_change (C := Try.checked) own started (by kernel_rfl) Try.func8
    (ChangeSpec.witness6 (enc := enc) (C := Try.checked) false ⟨#[], #[.slice none 0 0, .slice none 0 0], []⟩ 8 (by kernel_rfl) (by kernel_rfl) (by kernel_rfl) (by kernel_rfl)) ?_
  intro W base args ds gs before hval hW _ _
  exact contract H enc W base args ds gs before hval hW

theorem proved : Rows.ChecksumOddSaid :=
  OpenClaim.holds_of_wide 8 Try.f8 rfl rfl rfl rfl rfl rfl rfl ⟨rfl, rfl, rfl, rfl, rfl⟩ rfl rfl rfl rfl rfl (by kernel_rfl) Try.func8 (by kernel_rfl)
    (of_decide_eq_true (by kernel_rfl)) (by unfold Func.isWrapper; first | (rw [if_pos (by decide +kernel)]; kernel_rfl) | (rw [if_neg (by decide +kernel)]; exact ⟨rfl, rfl⟩))
    (fun os started H enc _ => lifted os started H enc)
end Go.Proofs.Ytnmakbbbbcngbaa.checksumOdd
