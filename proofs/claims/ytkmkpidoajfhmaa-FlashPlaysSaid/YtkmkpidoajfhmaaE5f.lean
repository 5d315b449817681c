/- Walks: a script that is played on a flash device; two devices equal. -/
import Derived.Test.YtkmkpidoajfhmaaE5e
namespace Go.Proofs.Ytkmkpidoajfhmaa.E5d
open Go.RowKit Go.Proofs.Ytkmkpidoajfhmaa.Mem Go.Proofs.Ytkmkpidoajfhmaa.E5p Go.Proofs.Ytkmkpidoajfhmaa.E5m Go.Proofs.Ytkmkpidoajfhmaa.E5a Go.Proofs.Ytkmkpidoajfhmaa.Made Go.Proofs.Ytkmkpidoajfhmaa.Same
set_option maxRecDepth 100000
set_option maxHeartbeats 1000000

/-- What one thing makes of a device. -/
def do1 (s : Fl) (x : Do1) : Fl :=
  if x.kind % 5 = 0 ∨ x.kind % 5 = 2 then (s.program (nearI x.a 128) x.data).1
  else if x.kind % 5 = 1 then (s.erase (nearI x.a 2)).1
  else if x.kind % 5 = 3 then s.arm (x.a.tmod 50) x.torn
  else s.restore
def doAll (s : Fl) (l : List Do1) : Fl := l.foldl do1 s
theorem tmod_bd (a : Int) (m : Nat) (hm : 0 < m) : -(m : Int) < a.tmod m ∧ a.tmod m < m := by
  by_cases h0 : 0 ≤ a
  · rw [Int.tmod_eq_emod_of_nonneg h0]
    have := Int.emod_nonneg a (b := (m : Int)) (by omega)
    have := Int.emod_lt_of_pos a (b := (m : Int)) (by omega)
    omega
  · obtain ⟨q, rfl⟩ : ∃ q : Int, a = -q := ⟨-a, by omega⟩
    rw [Int.neg_tmod, Int.tmod_eq_emod_of_nonneg (by omega)]
    have := Int.emod_nonneg q (b := (m : Int)) (by omega)
    have := Int.emod_lt_of_pos q (b := (m : Int)) (by omega)
    omega
theorem tmod50 (a : Int) : -50 < a.tmod 50 ∧ a.tmod 50 < 50 := tmod_bd a 50 (by omega)
theorem near128 (k : Int) (w : World) (h1 : -9223372036854775808 ≤ k) (h2 : k ≤ 9223372036854775807) :
    Calls Try.prog 19 #[.int .i64 k, .int .i64 128] w fun e w' => e = .returned (.int .i64 (nearI k 128)) ∧ w = w' := near_any k 128 w h1 h2 (by omega)
theorem near2 (k : Int) (w : World) (h1 : -9223372036854775808 ≤ k) (h2 : k ≤ 9223372036854775807) :
    Calls Try.prog 19 #[.int .i64 k, .int .i64 2] w fun e w' => e = .returned (.int .i64 (nearI k 2)) ∧ w = w' := near_any k 2 w h1 h2 (by omega)
theorem do1_ok {s : Fl} {m : Nat} (h : s.Ok m) (x : Do1) (hx : x.data.length ≤ 200) : (do1 s x).Ok (m + 201) := by
  unfold do1
  split
  · exact (Fl.program_ok h _ _).more (by omega)
  · split
    · exact (Fl.erase_ok h _).more (by omega)
    · split
      · have := tmod50 x.a
        exact (Fl.arm_ok h _ _ (by omega)).more (by omega)
      · exact (Fl.restore_ok h).more (by omega)
section
variable {B : Nat} {W w : World} {d : Sh} {s : Fl} {m : Nat}
/-- What playing leaves. -/
def Played (B : Nat) (W w : World) (d : Sh) (s : Fl) (m : Nat) (e : Ending) (w' : World) : Prop := e = .returned (.tuple #[]) ∧ At B W w' d s m ∧ Kept d w w'
theorem play_any (h : At B W w d s m) (A : Option Addr) (n c : Nat) (l : List Do1) (hs : Scr B W A n c l) (h60 : n ≤ 60) (hd : ∀ x ∈ l, x.data.length ≤ 200) (hm : m ≤ 100000) :
    Calls Try.prog 37 #[.pointer (some ⟨d.g, 0, none⟩), .slice A n c] w (Played B W w d (doAll s l) (m + 201 * 60)) := by
  obtain ⟨R, hR⟩ : ∃ R, R = doAll s l := ⟨_, rfl⟩
  rw [← hR]
  have HR := Lib.hid hR; clear hR
  have HN := Lib.hid hs.len
  have HD := Lib.hid hd; clear hd
  go_enter Try.func37, Try.ntmps37
  go_wp2_with fail
  go_loopw [4] (fun i wr => ∃ k : Nat, k ≤ n ∧ i = .int .i64 k ∧ At B W wr d (doAll s (l.take k)) (m + 201 * k) ∧ Kept d w wr) (fun i _ => n - (intOf i).toNat)
  case atStart => exact ⟨0, Nat.zero_le _, rfl, h, Kept.refl _ _⟩
  case round =>
    clear h
    obtain ⟨k, hk, rfl, hat, hkp⟩ := hrel
    by_cases hlt : k < n
    · have hkl : k < l.length := by have := HN.out; omega
      obtain ⟨a, rfl, ha, hin0⟩ := hs.each k hkl
      have hin := hin0.below hat.low (by rw [add_block]; exact ha)
      clear hin0
      have hdl := HD.out _ (List.getElem_mem hkl)
      have hsn : doAll s (l.take (k + 1)) = do1 (doAll s (l.take k)) l[k] := by
        unfold doAll
        rw [List.take_succ_eq_append_getElem hkl, List.foldl_append]
        rfl
      have hok2 := do1_ok hat.ok l[k] hdl
      have HS := Lib.hid hsn; clear hsn
      generalize l[k] = x at *
      generalize doAll s (l.take k) = s1 at *
      have b1 : (0 : Int) ≤ (k : Int) := by omega
      have b2 : (k : Int) < (n : Int) := by omega
      have hmod := fun u => mod_any x.kind 5 u hin.k1 hin.k2 (by omega) (by omega)
      have HM := Lib.hid hmod; clear hmod
      have c0 := hin.c0; have c1 := hin.c1; have c3 := hin.c3; have c4 := hin.c4
      go_wp2_with fail
      refine (HM.out _).mono ?_
      rintro e w2 ⟨⟨K, hK, rfl, hKe⟩, rfl⟩
      have HK := Lib.hid hKe; clear hKe HM
      have hend : ∀ w3, At B W w3 d (do1 s1 x) (m + 201 * k + 201) → Kept d wr w3 → At B W w3 d (doAll s (l.take (k + 1))) (m + 201 * (k + 1)) ∧ Kept d w w3 := by
        intro w3 h3 h4
        rw [HS.out]
        exact ⟨⟨h3.dev, h3.ok.more (by omega), h3.low⟩, hkp.trans h4⟩
      have HE := Lib.hid hend; clear hend
      have hsl := hin.sl (B := B) hat.base
      have hoff := Off.row hin.row hat.dev (Nat.le_refl _)
      have hnear := nearI_bd x.a 128 hin.a1 hin.a2 (by omega)
      have hlen := hin.len
      have hP := hat.drew.program (by omega) x.A x.n x.c x.data (hsl.step ⟨rfl, rfl, rfl, Nat.le_refl _, fun _ _ => rfl⟩) hoff (nearI x.a 128) hnear.1 hnear.2 (by omega)
      have HP := Lib.hid hP; clear hP hlen
      have hN := fun u => near128 x.a u hin.a1 hin.a2
      have HNR := Lib.hid hN; clear hN
      by_cases hK0 : K = 0 ∨ K = 2
      · have hdo : (s1.program (nearI x.a 128) x.data).1 = do1 s1 x := by
          unfold do1
          rw [if_pos (by have := HK.out; omega)]
        have HDO := Lib.hid hdo; clear hdo
        rcases hK0 with rfl | rfl
        all_goals
          go_wp2_with fail
          go_region_law (first
            | (go_simp; go_at_call 19; (with_reducible refine (HNR.out _).mono ?_); rintro e w' ⟨rfl, rfl⟩)
            | (go_simp; go_at_call 18; (with_reducible refine (HP.out).mono ?_); rintro e w4 ⟨rfl, hat4, hk4⟩; rw [HDO.out] at hat4))
          all_goals
            go_wp2_with fail
            obtain ⟨r1, r2⟩ := HE.out _ ⟨hat4.dev, hok2, hat4.low⟩ (((Kept.refl d wr).drewN 1).trans hk4)
            exact ⟨⟨k + 1, by omega, by go_num, r1, r2⟩, by simp [intOf]; omega⟩
      · by_cases hK1 : K = 1
        · subst hK1
          have hdo : (s1.erase (nearI x.a 2)).1 = do1 s1 x := by
            unfold do1
            rw [if_neg (by have := HK.out; omega), if_pos (by have := HK.out; omega)]
          have HDO := Lib.hid hdo; clear hdo
          have hnear2 := nearI_bd x.a 2 hin.a1 hin.a2 (by omega)
          have hE := hat.erase (by omega) (nearI x.a 2) hnear2.1 hnear2.2
          have HER := Lib.hid hE; clear hE HP HNR hnear
          have hN := near2 x.a wr hin.a1 hin.a2
          have HN2 := Lib.hid hN; clear hN
          go_wp2_with fail
          refine HN2.out.mono ?_
          rintro e w' ⟨rfl, rfl⟩
          go_wp2_with fail
          refine HER.out.mono ?_
          rintro e w4 ⟨rfl, hat4, hk4⟩
          rw [HDO.out] at hat4
          go_wp2_with fail
          obtain ⟨r1, r2⟩ := HE.out _ ⟨hat4.dev, hok2, hat4.low⟩ hk4
          exact ⟨⟨k + 1, by omega, by go_num, r1, r2⟩, by simp [intOf]; omega⟩
        · by_cases hK3 : K = 3
          · subst hK3
            have hdo : s1.arm (x.a.tmod 50) x.torn = do1 s1 x := by
              unfold do1
              rw [if_neg (by have := HK.out; omega), if_neg (by have := HK.out; omega), if_pos (by have := HK.out; omega)]
            have HDO := Lib.hid hdo; clear hdo
            have ht := tmod50 x.a
            have hwr : IntKind.i64.wrap (x.a.tmod 50) = x.a.tmod 50 := IntWalk.i64_in _ (by omega)
            have hA := hat.drew.arm (x.a.tmod 50) x.torn (by omega) (by omega)
            have HAR := Lib.hid hA; clear hA HP HNR hnear
            go_wp2_with fail
            go_region_law (go_simp; go_at_call 26; (with_reducible refine (HAR.out).mono ?_); rintro e w4 ⟨rfl, hat4, hk4⟩; rw [HDO.out] at hat4)
            all_goals
              go_wp2_with fail
              obtain ⟨r1, r2⟩ := HE.out _ ⟨hat4.dev, hok2, hat4.low⟩ (((Kept.refl d wr).drewN 1).trans hk4)
              exact ⟨⟨k + 1, by omega, by go_num, r1, r2⟩, by simp [intOf]; omega⟩
          · obtain rfl : K = 4 := by omega
            have hdo : s1.restore = do1 s1 x := by
              unfold do1
              rw [if_neg (by have := HK.out; omega), if_neg (by have := HK.out; omega), if_neg (by have := HK.out; omega)]
            have HDO := Lib.hid hdo; clear hdo HP HNR hnear
            go_wp2_with fail
            refine hat.restore.mono ?_
            rintro e w4 ⟨rfl, hat4, hk4⟩
            rw [HDO.out] at hat4
            go_wp2_with fail
            obtain ⟨r1, r2⟩ := HE.out _ ⟨hat4.dev, hok2, hat4.low⟩ hk4
            exact ⟨⟨k + 1, by omega, by go_num, r1, r2⟩, by simp [intOf]; omega⟩
    · obtain rfl : k = n := by omega
      go_wp2_with fail
      go_end0
      rw [HR.out]
      rw [List.take_of_length_le (by have := HN.out; omega)] at hat
      exact ⟨rfl, ⟨hat.dev, hat.ok.more (by omega), hat.low⟩, hkp⟩
/-- Two devices in the same state are equal. -/
theorem equal_yes {d' : Sh} {m' : Nat} (h : At B W w d s m) (h' : At B W w d' s m') :
    Calls Try.prog 39 #[.pointer (some ⟨d.g, 0, none⟩), .pointer (some ⟨d'.g, 0, none⟩)] w fun e w' => e = .returned (.bool true) ∧ Below w.heap.size w w' := by
  have hd1 := down_p h.dev
  have hd2 := down_p h'.dev
  have hs1 := steps_p h.dev
  have hs2 := steps_p h'.dev
  have hz0 := Below.refl w.heap.size w
  have HD1 := Lib.hid hd1; have HD2 := Lib.hid hd2; have HS1 := Lib.hid hs1; have HS2 := Lib.hid hs2
  clear hd1 hd2 hs1 hs2
  have hbb : (s.down != s.down) = false := by simp
  have hss : ((s.steps : Int) != (s.steps : Int)) = false := by simp
  go_enter Try.func39, Try.ntmps39
  go_wp2_with fail
  refine HD1.out.mono ?_
  rintro e w' ⟨rfl, rfl⟩
  go_wp2_with fail
  refine HD2.out.mono ?_
  rintro e w' ⟨rfl, rfl⟩
  go_wp2_with fail
  refine HS1.out.mono ?_
  rintro e w' ⟨rfl, rfl⟩
  go_wp2_with fail
  refine HS2.out.mono ?_
  rintro e w' ⟨rfl, rfl⟩
  clear HD1 HD2 HS1 HS2
  go_wp2_with fail
  refine (wear_p h.dev h.ok).mono ?_
  rintro e w1 ⟨v1, rfl, ho1, hb1⟩
  obtain ⟨V1, n1, c1, rfl, hv1⟩ := ISl.of_own ho1
  have h1 := h.step hb1
  have h1' := h'.step hb1
  go_wp2_with fail
  refine (wear_p h1'.dev h1'.ok).mono ?_
  rintro e w2 ⟨v2, rfl, ho2, hb2⟩
  obtain ⟨V2, n2, c2, rfl, hv2⟩ := ISl.of_own ho2
  have h2 := h1.step hb2
  have h2' := h1'.step hb2
  have hb12 := hb1.trans (hb2.mono hb1.size)
  have hI := ints_any V1 V2 n1 n2 c1 c2 s.wear s.wear w2 (hv1.step hb2) hv2
  rw [show decide (s.wear = s.wear) = true by simp] at hI
  have HI := Lib.hid hI; clear hI
  go_wp2_with fail
  refine HI.out.mono ?_
  rintro e w3 ⟨rfl, q, rfl⟩
  have hz1 := size_p (h2.drewN q).dev
  have hz2 := size_p (h2'.drewN q).dev
  have HZ1 := Lib.hid hz1; have HZ2 := Lib.hid hz2; clear hz1 hz2
  go_wp2_with fail
  refine HZ1.out.mono ?_
  rintro e w' ⟨rfl, rfl⟩
  go_wp2_with fail
  refine HZ2.out.mono ?_
  rintro e w' ⟨rfl, rfl⟩
  clear HZ1 HZ2
  have h3 := h2.drewN q
  have h3' := h2'.drewN q
  have hb13 : Below w.heap.size w (w2.drewN q) := below_drewN hb12
  generalize w2.drewN q = w3 at *
  clear h h' h1 h1' h2 h2' ho1 ho2 hv1 hv2 hb1 hb2 hb12 HI
  have r1 := h3.read 0 128 (by omega) (by omega) (by omega) (by omega)
  obtain ⟨R, hR⟩ : ∃ R, R = s.read 0 128 := ⟨_, rfl⟩
  rw [← hR] at r1
  have HR := Lib.hid hR; clear hR
  have R1 := Lib.hid r1; clear r1
  go_wp2_with fail
  refine R1.out.mono ?_
  rintro e w4 ⟨X, xn, xc, rfl, hxo, hxs, hb4, h4⟩
  have h4' := h3'.step hb4
  have r2 := h4'.read 0 128 (by omega) (by omega) (by omega) (by omega)
  rw [← HR.out] at r2
  have R2 := Lib.hid r2; clear r2 R1
  go_wp2_with fail
  refine R2.out.mono ?_
  rintro e w5 ⟨Y, yn, yc, rfl, hyo, hys, hb5, h5⟩
  have hxs5 := hxs.step hb5
  clear R2 hxo hyo hxs
  have heq : ((R.2 : Int) == R.2) = true := by simp
  go_wp2_with fail
  refine (same_yes hxs5 hys).mono ?_
  rintro e w6 ⟨rfl, hb6⟩
  go_wp2_with fail
  go_ret
  exact ⟨rfl, ((hb13.trans (hb4.mono hb13.size)).trans (hb5.mono (by have := hb13.size; have := hb4.size; omega))).trans (hb6.mono (by have := hb13.size; have := hb4.size; have := hb5.size; omega))⟩
theorem At.clone (h : At B W w d s m) : Calls Try.prog 38 #[.pointer (some ⟨d.g, 0, none⟩)] w fun e w' => ∃ d', e = .returned (.pointer (some ⟨d'.g, 0, none⟩)) ∧ At B W w' d' s m ∧ PDev w.heap.size w' d' s ∧ Below w.heap.size w w' :=
  (clone_p h.dev h.ok).mono fun _ _ ⟨d', e1, e2, e3⟩ => ⟨d', e1, ⟨e2.base_ h.base, h.ok, h.low.trans (e3.mono h.base)⟩, e2, e3⟩
end
end Go.Proofs.Ytkmkpidoajfhmaa.E5d
