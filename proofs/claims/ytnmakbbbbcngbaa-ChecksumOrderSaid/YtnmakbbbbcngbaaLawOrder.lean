/- ChecksumOrder holds for every input: the 8-bit sum does not depend on the order of the bytes, and the sums of two strings add up. No condition. -/
import Derived.Test.YtnmakbbbbcngbaaWg
import Derived.Test.YtnmakbbbbcngbaaLaw
namespace Go.Proofs.Ytnmakbbbbcngbaa.checksumOrder
open Go.RowKit Go.ChangeShapes Go.WideShapes Go.ChangeAt Go.Proofs.Ytnmakbbbbcngbaa.Mem Go.Proofs.Ytnmakbbbbcngbaa.Pl Go.Proofs.Ytnmakbbbbcngbaa.Wa Go.Proofs.Ytnmakbbbbcngbaa.Wb Go.Proofs.Ytnmakbbbbcngbaa.Wc Go.Proofs.Ytnmakbbbbcngbaa.We Go.Proofs.Ytnmakbbbbcngbaa.Wf Go.Proofs.Ytnmakbbbbcngbaa.Crc Go.Proofs.Ytnmakbbbbcngbaa.Wg Go.Proofs.Ytnmakbbbbcngbaa.Law
set_option maxRecDepth 100000
set_option maxHeartbeats 1000000

theorem sum8_app (a b : List UInt8) : sum8 (a ++ b) = (sum8 a + sum8 b) % 256 := by
  have h1 := total_lt a
  have h2 := total_lt b
  unfold sum8
  rw [total_app]; omega
theorem total_swap (x : List UInt8) (p q : Nat) (hp : p < x.length) (hq : q < x.length) : total ((x.set p x[q]).set q x[p]) = total x := by
  have e1 := total_set x p x[q] hp
  have hq2 : q < (x.set p x[q]).length := by rw [List.length_set]; exact hq
  have e2 := total_set (x.set p x[q]) q x[p] hq2
  have e3 : (x.set p x[q])[q] = x[q] := by rw [List.getElem_set]; split <;> rfl
  rw [e3] at e2
  have h1 := total_lt x
  have h2 := total_lt ((x.set p x[q]).set q x[p])
  have h3 := x[p].toNat_lt
  have h4 := x[q].toNat_lt
  omega

theorem walk (A : Option Addr) (n c : Nat) (l : List UInt8) (hn : n = l.length) (hc : n ≤ c) (hm : c ≤ maxLen) (hA : A = none → c = 0)
    (A' : Option Addr) (n' c' : Nat) (l' : List UInt8) (hn' : n' = l'.length) (hc' : n' ≤ c') (hm' : c' ≤ maxLen) (hA' : A' = none → c' = 0)
    (i : Int) (hi : -9223372036854775808 ≤ i ∧ i ≤ 9223372036854775807) (j : Int) (hj : -9223372036854775808 ≤ j ∧ j ≤ 9223372036854775807)
    (w : World) (hr : Row w.heap.size w A l) (hr' : Row w.heap.size w A' l') :
    Calls Try.prog 12 #[.slice A n c, .slice A' n' c', .int .i64 i, .int .i64 j] w fun e w' => e = .returned (.bool true) ∧ Below w.heap.size w w' := by
  have hs : Sl w A n c l := ⟨hn, hr, hc, hm, hA⟩
  have hs' : Sl w A' n' c' l' := ⟨hn', hr', hc', hm', hA'⟩
  clear hn hc hn' hc'
  by_cases hl : n ≤ 2000
  · have hd : decide (n ≤ 2000) = true := by simpa using hl
    by_cases hl' : n' ≤ 2000
    · have hd' : decide (n' ≤ 2000) = true := by simpa using hl'
      obtain ⟨i0, hi0, hz0, hz1, hz2⟩ := info_parts info5
      have hsum := Lib.hid (sum8_app l l')
      go_enter Try.func12, Try.ntmps12
      go_wp2_with fail
      refine (light_s hs).mono ?_
      rintro e w' ⟨rfl, rfl⟩
      rw [hd]
      go_wp2_with fail
      refine (light_s hs').mono ?_
      rintro e w' ⟨rfl, rfl⟩
      rw [hd']
      have HA := Lib.hid hA; have HA' := Lib.hid hA'; have HNl := Lib.hid hs.len; have HNl' := Lib.hid hs'.len
      clear hA hA'
      go_wp2_with (first
        | (at_builtin; (refine wpList_append_rd _ rfl (.const (.slice none 0 0)) (.tmp 22) _ rfl w.heap.size 5 i0 _ 1 Try.underlying22 hi0 hz0 hz1 hz2 rfl (.slice none 0 0) 0 [] rfl (World.ownsRow_nil _ _ _ _) _ A n c (bvs l) rfl ((len_bvs l).trans HNl.out.symm) hr HA.out (bvs_one _) (by unfold maxLen; omega) (by omega) (Nat.le_refl _) ?_); intro v1 w1 hown1 hg1; have hb1 : Below w.heap.size w w1 := (Below.refl _ _).grown hg1 (Nat.le_refl _) (fun k hk => by cases hk))
        | (at_builtin; (refine wpList_append_rd _ rfl (.tmp 23) (.tmp 24) _ rfl w.heap.size 5 i0 _ 1 Try.underlying22 hi0 hz0 hz1 hz2 rfl _ (0 + n) ([] ++ bvs l) rfl hown1 _ A' n' c' (bvs l') rfl ((len_bvs l').trans HNl'.out.symm) (Rd.below hr' hb1) HA'.out (bvs_one _) (by unfold maxLen; omega) (by omega) hb1.size ?_); intro v2 w2 hown2 hg2; have hb2 : Below w.heap.size w w2 := below_grown hb1 hown1 hg2 hb1.size))
      have own2 : Own w.heap.size w2 v2 (l ++ l') := own_of hown2 (by rw [List.length_append, ← HNl.out, ← HNl'.out]; omega) (by rw [bvs_app]; rfl)
      clear hown1 hg1 hb1 hown2 hg2 hr hr' HA HA'
      obtain ⟨A2, n2, c2, rfl, s2⟩ := Sl.of_own own2
      have hn2 : n2 = n + n' := by rw [s2.len, List.length_append, ← HNl.out, ← HNl'.out]
      have hn2b : n2 ≤ 4000 := by omega
      replace hs := hs.step hb2
      replace hs' := hs'.step hb2
      clear hn2
      have hne : ((sum8 (l ++ l') : Int) != ((sum8 l : Int) + (sum8 l' : Int)) % 256) = false := by
        rw [hsum.out]; simp
      generalize hx : l ++ l' = x at *
      clear hx hsum
      have hz2 := hb2.size
      refine (sum8_s s2).mono ?_
      rintro e w' ⟨rfl, rfl⟩
      go_wp2_with fail
      refine (sum8_s hs).mono ?_
      rintro e w' ⟨rfl, rfl⟩
      go_wp2_with fail
      refine (sum8_s hs').mono ?_
      rintro e w' ⟨rfl, rfl⟩
      by_cases hp0 : n2 = 0
      · subst hp0
        go_wp2_with fail
        refine (sum8_s s2).mono ?_
        rintro e w' ⟨rfl, rfl⟩
        go_wp2_with fail
        refine (awake_any _).mono ?_
        rintro e w' ⟨rfl, b3⟩
        go_wp2_with fail
        go_ret
        exact ⟨rfl, hb2.trans (b3.mono hz2)⟩
      · have hpos : 0 < n2 := by omega
        obtain ⟨g, rfl, hg1, hg2⟩ := own_some own2 (by rw [← s2.len]; exact hpos)
        have HL := Lib.hid s2.len
        go_wp2_with fail
        refine (mod_at i _ n2 _ rfl hi.1 hi.2 hpos (by omega)).mono ?_
        rintro e w' ⟨p, hp, rfl, rfl⟩
        go_wp2_with fail
        refine (mod_at j _ n2 _ rfl hj.1 hj.2 hpos (by omega)).mono ?_
        rintro e w' ⟨q, hq, rfl, rfl⟩
        have hpx : p < x.length := by rw [← HL.out]; exact hp
        have hqx : q < x.length := by rw [← HL.out]; exact hq
        have cp := own_cell own2 HL.out hpx
        have cq := own_cell own2 HL.out hqx
        have fp := own_frozen own2 HL.out p
        have fq := own_frozen own2 HL.out q
        have hsw := Lib.hid (total_swap x p q hpx hqx)
        obtain ⟨o3, t3⟩ := own_store own2 HL.out p x[q]
        obtain ⟨o4, t4⟩ := own_store o3 (by rw [List.length_set]; exact HL.out) q x[p]
        have b3 := hb2.grown t3 hz2 (fun k hk => by cases hk; exact hg1)
        have b4 := b3.grown t4 b3.size (fun k hk => by cases hk; exact hg1)
        have ip1 : (0 : Int) ≤ (p : Int) := by omega
        have iq1 : (0 : Int) ≤ (q : Int) := by omega
        have ip2 : (p : Int) < (n2 : Int) := by omega
        have iq2 : (q : Int) < (n2 : Int) := by omega
        by_cases hpq : p = q
        · subst hpq
          go_wp2_with fail
          go_region
          go_wp2_with fail
          refine (sum8_s (sl_own (World.ownsRow.drew o4) (by rw [List.length_set, List.length_set]; exact HL.out))).mono ?_
          rintro e w' ⟨rfl, rfl⟩
          rw [show sum8 ((x.set p x[p]).set p x[p]) = sum8 x by unfold sum8; rw [hsw.out]]
          go_wp2_with fail
          refine (awake_any _).mono ?_
          rintro e w' ⟨rfl, b5⟩
          go_wp2_with fail
          go_ret
          exact ⟨rfl, b4.drew.trans (b5.mono b4.size)⟩
        · go_wp2_with fail
          go_region
          go_wp2_with fail
          refine (sum8_s (sl_own (World.ownsRow.drew o4) (by rw [List.length_set, List.length_set]; exact HL.out))).mono ?_
          rintro e w' ⟨rfl, rfl⟩
          rw [show sum8 ((x.set p x[q]).set q x[p]) = sum8 x by unfold sum8; rw [hsw.out]]
          go_wp2_with fail
          refine (awake_any _).mono ?_
          rintro e w' ⟨rfl, b5⟩
          go_wp2_with fail
          go_ret
          exact ⟨rfl, b4.drew.trans (b5.mono b4.size)⟩
    · have hd' : decide (n' ≤ 2000) = false := by simpa using hl'
      go_enter Try.func12, Try.ntmps12
      go_wp2_with fail
      refine (light_s hs).mono ?_
      rintro e w' ⟨rfl, rfl⟩
      rw [hd]
      go_wp2_with fail
      refine (light_s hs').mono ?_
      rintro e w' ⟨rfl, rfl⟩
      rw [hd']
      go_wp2_with fail
      refine (awake_any w).mono ?_
      rintro e w' ⟨rfl, hb⟩
      go_wp2_with fail
      go_ret
      exact ⟨rfl, hb⟩
  · have hd : decide (n ≤ 2000) = false := by simpa using hl
    go_enter Try.func12, Try.ntmps12
    go_wp2_with fail
    refine (light_s hs).mono ?_
    rintro e w' ⟨rfl, rfl⟩
    rw [hd]
    go_wp2_with fail
    refine (awake_any w).mono ?_
    rintro e w' ⟨rfl, hb⟩
    go_wp2_with fail
    go_ret
    exact ⟨rfl, hb⟩

theorem cells_u8 : Try.prog.cellsOf 5 = 1 := by kernel_rfl
theorem own : ownKnob Try.prog.godebug = none := by kernel_rfl
theorem laidOut : laidOutB Try.prog = true := by kernel_rfl
theorem contract (H : Type) (enc : TypeId × Value → H) (W : World) (base : Nat) (args : Array Value) (ds gs : List (DataW H)) (before : List MemPlace)
    (hval : ∀ (j : Nat) t v, Try.f12.params[j]? = some t → args[j]? = some v → Value.okWide Try.prog W .any base t v)
    (hW : DataW.Whole enc Try.prog Try.f12.params.toList Rows.checksumOrderSpec.vars false W args.toList ds gs before) :
    Calls Try.prog 12 args W fun e W' => ∃ v, e = .returned v ∧ Rows.checksumOrderSpec.post enc Try.prog Try.f12 false true false false W args v W' := by
  have hW' := hW
  obtain ⟨p, q, hA0, hV, rfl, hfz, hnd⟩ := hW
  have hA : DataW.TrodAll enc Try.prog W 0 (fun _ => true) true Try.f12.params.toList args.toList ds p := hA0
  rw [Try.params12] at hA hval
  obtain ⟨v0, vs0, d0, ds0, p0, q0, hargs, rfl, rfl, h0, r0⟩ := trodAll_cons hA
  obtain ⟨v1, vs1, d1, ds1, p1, q1, rfl, rfl, rfl, h1, r1⟩ := trodAll_cons r0
  obtain ⟨v2, vs2, d2, ds2, p2, q2, rfl, rfl, rfl, h2, r2⟩ := trodAll_cons r1
  obtain ⟨v3, vs3, d3, ds3, p3, q3, rfl, rfl, rfl, h3, r3⟩ := trodAll_cons r2
  obtain ⟨rfl, rfl, rfl⟩ := trodAll_nil r3
  obtain rfl : args = #[v0, v1, v2, v3] := by cases args; simp_all
  obtain ⟨A0, n0, c0, l0, rfl, hn0, hr0, hc0, hm0, hk0⟩ := open_bytes Try.underlying22 Try.underlying5 cells_u8 (hval 0 22 v0 rfl rfl) h0
  obtain ⟨A1, n1, c1, l1, rfl, hn1, hr1, hc1, hm1, hk1⟩ := open_bytes Try.underlying22 Try.underlying5 cells_u8 (hval 1 22 v1 rfl rfl) h1
  obtain ⟨a2, rfl, -, -, w2⟩ := open_int Try.underlying3 (hval 2 3 v2 rfl rfl) h2
  obtain ⟨a3, rfl, -, -, w3⟩ := open_int Try.underlying3 (hval 3 3 v3 rfl rfl) h3
  clear hA0
  refine (walk A0 n0 c0 l0 hn0 hc0 hm0 hk0 A1 n1 c1 l1 hn1 hc1 hm1 hk1 a2 (bounds_i64 w2) a3 (bounds_i64 w3) W hr0 hr1).mono fun e W' ⟨he, hb⟩ => ?_
  subst he
  exact ⟨_, rfl, law_post laidOut (types_fit (by kernel_rfl)) (by kernel_rfl) Try.underlying4 rfl (fun xs hx => by
    match xs, hx with
    | [_, _, _, _], _ => rfl) hW' hb⟩

theorem lifted (os : Os) (started : os.Started) (H : Type) (enc : TypeId × Value → H) :
    ReturnsInHanded {} Try.checked os 12 .any (Rows.checksumOrderSpec.pre6 enc Try.prog Try.f12 Rows.checksumOrderRow.domain false) (Rows.checksumOrderSpec.post enc Try.prog Try.f12 false true false false) := by
  refine returnsInHanded_of_change (C := Try.checked) own started (by kernel_rfl) Try.func12
    (ChangeSpec.witness6 (enc := enc) (C := Try.checked) false ⟨#[], #[.slice none 0 0, .slice none 0 0, .int .i64 0, .int .i64 0], []⟩ 8 (by kernel_rfl) (by kernel_rfl) (by kernel_rfl) (by kernel_rfl)) ?_
  intro W base args ds gs before hval hW _ _
  exact contract H enc W base args ds gs before hval hW

theorem proved : Rows.ChecksumOrderSaid :=
  OpenClaim.holds_of_wide 12 Try.f12 rfl rfl rfl rfl rfl rfl rfl ⟨rfl, rfl, rfl, rfl, rfl⟩ rfl rfl rfl rfl rfl (by kernel_rfl) Try.func12 (by kernel_rfl)
    (of_decide_eq_true (by kernel_rfl)) (by unfold Func.isWrapper; first | (rw [if_pos (by decide +kernel)]; kernel_rfl) | (rw [if_neg (by decide +kernel)]; exact ⟨rfl, rfl⟩))
    (fun os started H enc _ => lifted os started H enc)
end Go.Proofs.Ytnmakbbbbcngbaa.checksumOrder
