/- ConvertBytes holds for every input: the bytes of conversions, and what any bytes are decoded to, are the reference's. No condition. -/
import Derived.Test.YtfnocgkhhbpiiaaAw5
import Derived.Test.YtfnocgkhhbpiiaaLaw4
import Derived.Test.YtfnocgkhhbpiiaaC5j
import Derived.Test.YtfnocgkhhbpiiaaC5f
import Derived.Test.YtfnocgkhhbpiiaaSame
namespace Go.Proofs.Ytfnocgkhhbpiiaa.convertBytes
open Go.RowKit Go.ChangeShapes Go.WideShapes Go.ChangeAt Go.Proofs.Ytfnocgkhhbpiiaa.Mem Go.Proofs.Ytfnocgkhhbpiiaa.M3p Go.Proofs.Ytfnocgkhhbpiiaa.C4p Go.Proofs.Ytfnocgkhhbpiiaa.C4l Go.Proofs.Ytfnocgkhhbpiiaa.C4v Go.Proofs.Ytfnocgkhhbpiiaa.P4 Go.Proofs.Ytfnocgkhhbpiiaa.P5 Go.Proofs.Ytfnocgkhhbpiiaa.D5 Go.Proofs.Ytfnocgkhhbpiiaa.C5h Go.Proofs.Ytfnocgkhhbpiiaa.Aw4 Go.Proofs.Ytfnocgkhhbpiiaa.Made Go.Proofs.Ytfnocgkhhbpiiaa.Same Go.Proofs.Ytfnocgkhhbpiiaa.Law
set_option maxRecDepth 100000
set_option maxHeartbeats 2000000

def eb (C : Cv) : List UInt8 := if vld C = true then enc C else []
def er (C : Cv) : Int := if vld C = true then 0 else 1
theorem sl0 {w : World} : Sl w none 0 0 [] := ⟨rfl, fun h => absurd h (by simp [bvs]), Nat.le_refl _, by unfold maxLen; omega, fun _ => rfl⟩
/-- Encode of the program, whatever the conversion. -/
theorem enca_p (f m b k1 k2 : Int) (s : Bool) (A : Option Addr) (n cp : Nat) (l : List Pt) (w : World) (hsl : PSl w A n cp l) :
    Calls Try.prog 9 #[.agg #[.int .i64 f, .bool s, .int .i64 m, .int .i64 b, .int .i64 k1, .int .i64 k2, .slice A n cp]] w fun e w' => ∃ U un uc, e = .returned (.tuple #[.slice U un uc, .int .i64 (er ⟨f, s, m, b, k1, k2, l⟩)]) ∧ Sl w' U un uc (eb ⟨f, s, m, b, k1, k2, l⟩) ∧ Below w.heap.size w w' := by
  unfold eb er
  cases hv : vld ⟨f, s, m, b, k1, k2, l⟩
  · refine (encn_p f m b k1 k2 s A n cp l w hsl hv).mono ?_
    rintro e w' ⟨rfl, hb⟩
    exact ⟨none, 0, 0, rfl, sl0, hb⟩
  · refine (encp_p f m b k1 k2 s A n cp l w hsl hv).mono ?_
    rintro e w' ⟨u, rfl, ho, hb⟩
    obtain ⟨U, un, uc, rfl, hs⟩ := Sl.of_own ho
    exact ⟨U, un, uc, rfl, hs, hb⟩
/-- .. and of the reference. -/
theorem enca_r (f m b k1 k2 : Int) (s : Bool) (A : Option Addr) (n cp : Nat) (l : List Pt) (w : World) (hsl : PSl w A n cp l) :
    Calls Try.prog 10 #[.agg #[.int .i64 f, .bool s, .int .i64 m, .int .i64 b, .int .i64 k1, .int .i64 k2, .slice A n cp]] w fun e w' => ∃ U un uc, e = .returned (.tuple #[.slice U un uc, .int .i64 (er ⟨f, s, m, b, k1, k2, l⟩)]) ∧ Sl w' U un uc (eb ⟨f, s, m, b, k1, k2, l⟩) ∧ Below w.heap.size w w' := by
  unfold eb er
  cases hv : vld ⟨f, s, m, b, k1, k2, l⟩
  · refine (enc_no f m b k1 k2 s A n cp l w hsl hv).mono ?_
    rintro e w' ⟨rfl, hb⟩
    exact ⟨none, 0, 0, rfl, sl0, hb⟩
  · refine (enc_r f m b k1 k2 s A n cp l w hsl hv).mono ?_
    rintro e w' ⟨u, rfl, ho, hb⟩
    obtain ⟨U, un, uc, rfl, hs⟩ := Sl.of_own ho
    exact ⟨U, un, uc, rfl, hs, hb⟩

theorem walk (fa : Int) (sa : Bool) (ma ba ka kb : Int) (Aa : Option Addr) (na ca : Nat) (pa : List Pt) (_h1 : -9223372036854775808 ≤ fa ∧ fa ≤ 9223372036854775807) (_h2 : -9223372036854775808 ≤ ma ∧ ma ≤ 9223372036854775807) (_h3 : -9223372036854775808 ≤ ba ∧ ba ≤ 9223372036854775807) (_h4 : -9223372036854775808 ≤ ka ∧ ka ≤ 9223372036854775807) (_h5 : -9223372036854775808 ≤ kb ∧ kb ≤ 9223372036854775807)
    (A : Option Addr) (n c : Nat) (l : List Int) (hn : n = l.length) (hw : ∀ x ∈ l, -9223372036854775808 ≤ x ∧ x ≤ 9223372036854775807) (hc : n ≤ c) (hm : c ≤ maxLen) (_hA : A = none → c = 0)
    (A2 : Option Addr) (n2 c2 : Nat) (l2 : List UInt8) (hn2 : n2 = l2.length) (hc2 : n2 ≤ c2) (hm2 : c2 ≤ maxLen) (hA2 : A2 = none → c2 = 0)
    (y : Int) (hy : -9223372036854775808 ≤ y ∧ y ≤ 9223372036854775807)
    (w : World) (hra : PSl w Aa na ca pa) (hr : IRow w.heap.size w A l) (hr2 : Row w.heap.size w A2 l2) :
    Calls Try.prog 3 #[.agg #[.int .i64 fa, .bool sa, .int .i64 ma, .int .i64 ba, .int .i64 ka, .int .i64 kb, .slice Aa na ca], .slice A n c, .slice A2 n2 c2, .int .i64 y] w fun e w' => e = .returned (.bool true) ∧ Below w.heap.size w w' := by
  have hnm : n ≤ maxLen := by omega
  have hs2 : Sl w A2 n2 c2 l2 := ⟨hn2, hr2, hc2, hm2, hA2⟩
  have hnm2 : n2 ≤ maxLen := by omega
  unfold maxLen at hnm2
  have HN := Lib.hid hn
  have HW := Lib.hid hw
  have HS2 := Lib.hid hs2
  have HRA := Lib.hid hra
  have hnam : na ≤ maxLen := Nat.le_trans hra.cap hra.max
  clear hn hw hc hm _hA _h1 _h2 _h3 _h4 _h5 hn2 hc2 hm2 hA2 hr2 hs2 hra
  have haw := Lib.hid (fun u => awake_any u)
  have hlight := Lib.hid (fun u => light_any fa ma ba ka kb sa Aa na ca u hnam)
  obtain ⟨lb, hlb⟩ : ∃ lb, lb = decide (na ≤ 30) := ⟨_, rfl⟩
  rw [← hlb] at hlight
  obtain ⟨mb, hmb⟩ : ∃ mb, mb = decide (n ≤ 600) := ⟨_, rfl⟩
  have hlm := Lib.hid (fun u => by have := lightmade_any A n c u hnm; rw [← hmb] at this; exact this)
  have hbx0 : Below w.heap.size w (w.alloc (.cells #[.int .i64 fa, .bool sa, .int .i64 ma, .int .i64 ba, .int .i64 ka, .int .i64 kb, .slice Aa na ca] 24)) := (Below.refl _ _).alloc (Nat.le_refl _) _
  have hrowb0 := heap_alloc_new w (.cells #[.int .i64 fa, .bool sa, .int .i64 ma, .int .i64 ba, .int .i64 ka, .int .i64 kb, .slice Aa na ca] 24)
  have HBX0 := Lib.hid hbx0
  have HROWB0 := Lib.hid hrowb0
  have HMB := Lib.hid hmb
  clear hbx0 hrowb0 hlb hmb
  go_enter Try.func3, Try.ntmps3
  go_wp2_with fail
  refine (hlight.out _).mono ?_
  rintro e w1 ⟨rfl, hb1⟩
  have hbw1 := HBX0.out.trans (hb1.mono HBX0.out.size)
  have hrow1 := (hb1.block _ (by rw [World.size_alloc]; omega)).trans HROWB0.out
  clear hb1
  cases lb
  · go_wp2_with fail
    refine (haw.out _).mono ?_
    rintro e w3 ⟨rfl, hb3⟩
    go_wp2_with fail
    go_ret
    exact ⟨rfl, hbw1.trans (hb3.mono hbw1.size)⟩
  cases mb
  · go_wp2_with (go_at_call 5; refine (hlm.out _).mono ?_; rintro e w' ⟨rfl, rfl⟩)
    refine (haw.out _).mono ?_
    rintro e w3 ⟨rfl, hb3⟩
    go_wp2_with fail
    go_ret
    exact ⟨rfl, hbw1.trans (hb3.mono hbw1.size)⟩
  by_cases h200 : 200 < n2
  · have d1 : decide (200 < (n2 : Int)) = true := by simp; omega
    go_wp2_with (go_at_call 5; refine (hlm.out _).mono ?_; rintro e w' ⟨rfl, rfl⟩)
    refine (haw.out _).mono ?_
    rintro e w3 ⟨rfl, hb3⟩
    go_wp2_with fail
    go_ret
    exact ⟨rfl, hbw1.trans (hb3.mono hbw1.size)⟩
  have d1 : decide (200 < (n2 : Int)) = false := by simp; omega
  go_wp2_with (go_at_call 5; refine (hlm.out _).mono ?_; rintro e w' ⟨rfl, rfl⟩)
  have h6 : n ≤ 600 := of_decide_eq_true HMB.out.symm
  refine (roll_any A n c w1).mono ?_
  rintro e wd ⟨rfl, rfl⟩
  obtain ⟨hdz, hbd⟩ := irow_light (c := c) HN.out ((Rd.below hr hbw1).more hbw1.size) HW.out h6
  have hglt : w.heap.size < w1.heap.size := lt_of_some hrow1
  go_wp2_with fail
  refine (conv_go hdz hbd (Nat.le_refl _)).mono ?_
  rintro e wc ⟨f, m, b, k1, k2, s, A', n', c', p, rfl, hv, hsl, -, hbc, -⟩
  have hcg : Cg w1 wc w.heap.size (.int .i64 fa) (.bool sa) (.int .i64 ma) (.int .i64 ba) (.int .i64 ka) (.int .i64 kb) (.slice Aa na ca) := ⟨(hbc.block _ hglt).trans hrow1, hbc, hglt⟩
  have hs1 := HS2.out.step hbw1
  have hp1 := HRA.out.step hbw1
  have hall := hbw1.trans (hbc.mono hbw1.size)
  have hs2 := hs1.step hbc
  have hp2 := hp1.step hbc
  clear hdz hbd hrow1 hr h6 HMB HN HW hbw1 HRA HS2 hnm d1 hlm hlight hs1 hp1 hbc HBX0 HROWB0
  have hst : Below wc.heap.size wc (wc.alloc (.cells #[.int .i64 f, .bool s, .int .i64 m, .int .i64 b, .int .i64 k1, .int .i64 k2, .slice A' n' c'] 24)) := (Below.refl _ _).alloc (Nat.le_refl _) _
  have hcb0 := Cb.new wc (.int .i64 f) (.bool s) (.int .i64 m) (.int .i64 b) (.int .i64 k1) (.int .i64 k2) (.slice A' n' c')
  have hcg0 := hcg.step hst
  have hs3 := hs2.step hst
  have hp3 := hp2.step hst
  have hx3 := hcb0.sl hsl
  have hall3 := hcb0.all hall
  have hwc : wc.heap.size < (wc.alloc (.cells #[.int .i64 f, .bool s, .int .i64 m, .int .i64 b, .int .i64 k1, .int .i64 k2, .slice A' n' c'] 24)).heap.size := by simp
  obtain ⟨k0, k1', k2', k3, k4, k5, k6⟩ := hcg0.cells
  have HG := Lib.hid hcg0; have HC := Lib.hid hcb0; have HS := Lib.hid hs3; have HP := Lib.hid hp3; have HX := Lib.hid hx3; have HA := Lib.hid hall3; have HV := Lib.hid hv
  clear hcg hs2 hp2 hst hcg0 hcb0 hs3 hp3 hx3 hall3 hall hsl hv
  go_wp2_with fail
  generalize hW0 : wc.alloc (.cells #[.int .i64 f, .bool s, .int .i64 m, .int .i64 b, .int .i64 k1, .int .i64 k2, .slice A' n' c'] 24) = W0 at *
  clear hW0
  refine (enca_p fa ma ba ka kb sa Aa na ca pa _ HP.out).mono ?_
  rintro e w2 ⟨P, pn, pc, rfl, hP, hb2⟩
  have HG2 := Lib.hid (HG.out.step hb2); have HC2 := Lib.hid (HC.out.step hb2); have HS2 := Lib.hid (HS.out.step hb2); have HP2 := Lib.hid (HP.out.step hb2); have HX2 := Lib.hid (HX.out.step hb2); have HPP2 := Lib.hid hP
  have HA2 := Lib.hid (HA.out.trans (hb2.mono HA.out.size))
  obtain ⟨k0, k1', k2', k3, k4, k5, k6⟩ := HG2.out.cells
  clear HG HC HS HP HX HA hP hb2 hwc
  go_wp2_with fail
  refine (enca_r fa ma ba ka kb sa Aa na ca pa _ HP2.out).mono ?_
  rintro e w3 ⟨Q, qn, qc, rfl, hQ, hb3⟩
  have HC3 := Lib.hid (HC2.out.step hb3); have HS3 := Lib.hid (HS2.out.step hb3); have HX3 := Lib.hid (HX2.out.step hb3); have HPP3 := Lib.hid (HPP2.out.step hb3); have HQ3 := Lib.hid hQ
  have HA3 := Lib.hid (HA2.out.trans (hb3.mono HA2.out.size))
  obtain ⟨k0, k1', k2', k3, k4, k5, k6⟩ := HC3.out.cells
  clear HG2 HC2 HS2 HP2 HX2 HA2 hQ hb3 HPP2
  have hel : 7 ≤ (enc ⟨f, s, m, b, k1, k2, p⟩).length ∧ (enc ⟨f, s, m, b, k1, k2, p⟩).length ≤ 100 := by
    rw [enc_len]
    split
    · rename_i h5
      obtain ⟨-, ⟨hp1, hp2⟩, -⟩ := vld_tab HV.out h5
      dsimp only at hp1 hp2 ⊢
      omega
    · omega
  go_wp2_with fail
  refine (encp_p f m b k1 k2 s A' n' c' p _ HX3.out HV.out).mono ?_
  rintro e w4 ⟨u, rfl, hou, hb4⟩
  obtain ⟨Y, yn, yc, rfl, hY⟩ := Sl.of_own hou
  have HC4 := Lib.hid (HC3.out.step hb4); have HS4 := Lib.hid (HS3.out.step hb4); have HX4 := Lib.hid (HX3.out.step hb4); have HPP4 := Lib.hid (HPP3.out.step hb4); have HQ4 := Lib.hid (HQ3.out.step hb4); have HY4 := Lib.hid hY
  have HA4 := Lib.hid (HA3.out.trans (hb4.mono HA3.out.size))
  obtain ⟨k0, k1', k2', k3, k4, k5, k6⟩ := HC4.out.cells
  clear HC3 HS3 HX3 HA3 hY hou hb4 HPP3 HQ3
  go_wp2_with fail
  refine (enc_r f m b k1 k2 s A' n' c' p _ HX4.out HV.out).mono ?_
  rintro e w5 ⟨u, rfl, hou, hb5⟩
  obtain ⟨Z, zn, zc, rfl, hZ⟩ := Sl.of_own hou
  have HS5 := Lib.hid (HS4.out.step hb5); have HPP5 := Lib.hid (HPP4.out.step hb5); have HQ5 := Lib.hid (HQ4.out.step hb5); have HY5 := Lib.hid (HY4.out.step hb5); have HZ5 := Lib.hid hZ
  have HA5 := Lib.hid (HA4.out.trans (hb5.mono HA4.out.size))
  clear HC4 HS4 HX4 HA4 hZ hou hb5 HPP4 HQ4 HY4 k0 k1' k2' k3 k4 k5 k6
  generalize er ⟨fa, sa, ma, ba, ka, kb, pa⟩ = E1 at *
  generalize eb ⟨fa, sa, ma, ba, ka, kb, pa⟩ = B1 at *
  generalize enc ⟨f, s, m, b, k1, k2, p⟩ = B2 at *
  have HEL := Lib.hid hel
  clear hel HV
  have hne : (E1 != E1) = false := by simp
  go_wp2_with fail
  refine (same_yes HPP5.out HQ5.out).mono ?_
  rintro e w6 ⟨rfl, hb6⟩
  have HS6 := Lib.hid (HS5.out.step hb6); have HY6 := Lib.hid (HY5.out.step hb6); have HZ6 := Lib.hid (HZ5.out.step hb6)
  have HA6 := Lib.hid (HA5.out.trans (hb6.mono HA5.out.size))
  clear HPP5 HQ5 HS5 HY5 HZ5 HA5 hb6
  go_wp2_with fail
  refine (same_yes HY6.out HZ6.out).mono ?_
  rintro e w7 ⟨rfl, hb7⟩
  have HS7 := Lib.hid (HS6.out.step hb7); have HZ7 := Lib.hid (HZ6.out.step hb7)
  have HA7 := Lib.hid (HA6.out.trans (hb7.mono HA6.out.size))
  clear HS6 HY6 HZ6 HA6 hb7
  have hzn := HZ7.out.len
  have hzb : 7 ≤ zn ∧ zn ≤ 100 := by have := HEL.out; omega
  have HZN := Lib.hid hzn
  clear hzn HEL
  obtain ⟨i0, hi, hz0, hz1, hz2⟩ := info_parts info5
  have own0 : w7.ownsRow w7.heap.size 5 1 (.slice none 0 0) 0 [] := ⟨by simp, .inl ⟨rfl, rfl⟩⟩
  have haw2 := haw
  obtain ⟨nb, hnb⟩ : ∃ nb, nb = decide (0 < n2) := ⟨_, rfl⟩
  have hnbi : decide (0 < n2) = nb := hnb.symm
  have hnbj : decide ((0 : Int) < (n2 : Int)) = nb := by rw [hnb]; exact decide_eq_decide.2 (by omega)
  have HNB := Lib.hid hnb
  clear hnb
  cases nb
  · have hn0 : ¬ (0 < n2) := of_decide_eq_false HNB.out.symm
    go_wp2_with (at_builtin; go_loud (refine wpList_append_rd _ rfl (.const (.slice none 0 0)) (.tmp 83) 26 rfl w7.heap.size 5 i0 _ 1 Try.underlying26 hi hz0 hz1 hz2 rfl _ 0 [] rfl own0 w7.heap.size Z zn zc (bvs B2) rfl (by rw [len_bvs]; exact HZ7.out.len.symm) HZ7.out.row HZ7.out.nil (bvs_one _) (by unfold maxLen; omega) (by omega) (Nat.le_refl _) ?_); intro v1 w9 ho1 hg1; have hb9 := (Below.refl w7.heap.size w7).grown hg1 (Nat.le_refl _) (fun k hk => (by cases hk)); have hoz : Mem.Own w7.heap.size w9 v1 B2 := own_of ho1 (by have := HZN.out; omega) (by rw [List.nil_append]); obtain ⟨V, bn, bc, rfl, hvs⟩ := Sl.of_own hoz; obtain ⟨g, rfl, hg⟩ := own_some hoz (by have := HZN.out; omega))
    have hbn := hvs.len
    obtain ⟨B3, hB3⟩ : ∃ B3, B3 = B2 := ⟨_, rfl⟩
    rw [← hB3] at hvs
    have hbnb : bn ≤ 1000000 := by have := HZN.out; omega
    have HZ9 := Lib.hid (HZ7.out.step hb9); have HS9 := Lib.hid (HS7.out.step hb9); have HB9 := Lib.hid hvs
    have HA9 := Lib.hid (HA7.out.trans (hb9.mono HA7.out.size))
    clear HZ7 HS7 HA7 hvs hb9 ho1 hg1 hoz own0 hi hz0 hz1 hz2 hnbi hnbj hn0 hbn hg hB3
    as_aux_lemma =>
    have hmd := Lib.hid (fun u => mod_at y ((zn : Int) + 1) (zn + 1) u (by push_cast; rfl) hy.1 hy.2 (by omega) (by omega))
    go_wp2_with fail
    refine (hmd.out _).mono ?_
    rintro e w' ⟨r, hr, rfl, rfl⟩
    have u1 : (0 : Int) ≤ (r : Int) := by omega
    have u2 : (r : Int) ≤ (zc : Int) := by have := HZ9.out.cap; omega
    have hsr : Sl w9 Z r zc (B2.take r) := ⟨by have := HZ9.out.len; simp; omega, row_take HZ9.out.row r, by have := HZ9.out.cap; omega, HZ9.out.max, HZ9.out.nil⟩
    have hfb := heap_alloc_new w9 (.cells #[.slice A2 n2 c2, .slice Z r zc, .slice (some ⟨g, 0, none⟩) bn bc] 26)
    have hst : Below w9.heap.size w9 (w9.alloc (.cells #[.slice A2 n2 c2, .slice Z r zc, .slice (some ⟨g, 0, none⟩) bn bc] 26)) := (Below.refl _ _).alloc (Nat.le_refl _) _
    have hlF : w9.heap.size < (w9.alloc (.cells #[.slice A2 n2 c2, .slice Z r zc, .slice (some ⟨g, 0, none⟩) bn bc] 26)).heap.size := by simp
    have hT : ∀ j, j < 3 → ∃ A3 n3 c3 l3, (#[.slice A2 n2 c2, .slice Z r zc, .slice (some ⟨g, 0, none⟩) bn bc] : Array Value)[j]? = some (.slice A3 n3 c3) ∧ Sl (w9.alloc (.cells #[.slice A2 n2 c2, .slice Z r zc, .slice (some ⟨g, 0, none⟩) bn bc] 26)) A3 n3 c3 l3 ∧ n3 ≤ 1000000 := by
      intro j hj
      match j, hj with
      | 0, _ => exact ⟨A2, n2, c2, l2, rfl, HS9.out.step hst, by omega⟩
      | 1, _ => exact ⟨Z, r, zc, B2.take r, rfl, hsr.step hst, by omega⟩
      | 2, _ => exact ⟨some ⟨g, 0, none⟩, bn, bc, B3, rfl, HB9.out.step hst, by omega⟩
    have hend := HA9.out.trans (hst.mono HA9.out.size)
    have HT := Lib.hid hT; have HF := Lib.hid hfb; have HE := Lib.hid hend
    clear hsr hst HZ9 HS9 HB9 HA9 hmd hT hfb hend
    go_wp2_with fail
    generalize w9.alloc (.cells #[.slice A2 n2 c2, .slice Z r zc, .slice (some ⟨g, 0, none⟩) bn bc] 26) = wl at *
    generalize w9.heap.size = F at *
    go_loopw [108] (fun u wr => ∃ j : Nat, j ≤ 3 ∧ u = .int .i64 j ∧ Below wl.heap.size wl wr) (fun u _ => 3 - (intOf u).toNat)
    case atStart => exact ⟨0, by omega, rfl, Below.refl _ _⟩
    case round =>
      obtain ⟨j, hj, rfl, hbl⟩ := hrel
      by_cases hlt : j < 3
      · obtain ⟨A3, n3, c3, l3, hget, hsl3, hn3⟩ := HT.out j hlt
        have hcell : wr.cell? ⟨F, j, none⟩ = some (.slice A3 n3 c3) := (cell_of_row wr F j _ _ _ ((hbl.block F hlF).trans HF.out)).trans hget
        have hs3 := hsl3.step hbl
        have hD := dec_p A3 n3 c3 l3 wr hs3 hn3
        have HS3 := Lib.hid hs3
        have HBL := Lib.hid hbl
        clear hget hsl3 hs3 hbl
        have b1 : (0 : Int) ≤ (j : Int) := by omega
        have b2 : (j : Int) < 3 := by omega
        have b0 : decide ((j : Int) < 3) = true := by simp; omega
        go_wp2_with fail
        refine hD.mono ?_
        rintro e w10 ⟨XA, xn, xc, rfl, hx, hb10⟩
        obtain ⟨⟨⟨f3, s3, m3, b3, k13, k23, p3⟩, N3, E3⟩, hdd⟩ : ∃ D, D = dec l3 := ⟨_, rfl⟩
        rw [← hdd] at hx ⊢
        dsimp only at hx ⊢
        have hcx := Cb.new w10 (.int .i64 f3) (.bool s3) (.int .i64 m3) (.int .i64 b3) (.int .i64 k13) (.int .i64 k23) (.slice XA xn xc)
        have hst : Below w10.heap.size w10 (w10.alloc (.cells #[.int .i64 f3, .bool s3, .int .i64 m3, .int .i64 b3, .int .i64 k13, .int .i64 k23, .slice XA xn xc] 24)) := (Below.refl _ _).alloc (Nat.le_refl _) _
        have hs4 := (HS3.out.step hb10).step hst
        have hx4 := hx.step hst
        have hbA := (HBL.out.trans (hb10.mono HBL.out.size))
        have hbB := hbA.trans (hst.mono hbA.size)
        have hD2 := dec_r A3 n3 c3 l3 _ hs4 hn3
        unfold Dcd at hD2
        rw [← hdd] at hD2
        dsimp only at hD2
        have HD2 := Lib.hid hD2; have HX4 := Lib.hid hx4; have HCX := Lib.hid hcx; have HBB := Lib.hid hbB
        clear hD hx hs4 hx4 hcx hst hbA hbB hD2 HS3 HBL hb10 hdd hcell hn3
        go_wp2_with fail
        generalize hW11 : w10.alloc (.cells #[.int .i64 f3, .bool s3, .int .i64 m3, .int .i64 b3, .int .i64 k13, .int .i64 k23, .slice XA xn xc] 24) = w11 at *
        clear hW11
        refine HD2.out.mono ?_
        rintro e w12 ⟨YA, yn', yc', rfl, hyv, hb12⟩
        have hcx2 := HCX.out.step hb12
        have hcy := Cb.new w12 (.int .i64 f3) (.bool s3) (.int .i64 m3) (.int .i64 b3) (.int .i64 k13) (.int .i64 k23) (.slice YA yn' yc')
        have hst : Below w12.heap.size w12 (w12.alloc (.cells #[.int .i64 f3, .bool s3, .int .i64 m3, .int .i64 b3, .int .i64 k13, .int .i64 k23, .slice YA yn' yc'] 24)) := (Below.refl _ _).alloc (Nat.le_refl _) _
        have hcx3 := hcx2.step hst
        have hx5 := (HX4.out.step hb12).step hst
        have hy5 := hyv.step hst
        have hbA := (HBB.out.trans (hb12.mono HBB.out.size))
        have hbB := hbA.trans (hst.mono hbA.size)
        have HS := Lib.hid (csame_yes f3 m3 b3 k13 k23 s3 XA YA xn yn' xc yc' p3 _ hx5 hy5)
        have HBB2 := Lib.hid hbB
        obtain ⟨c0, c1, c2', c3', c4, c5, c6⟩ := hcx3.cells
        obtain ⟨d0, d1, d2, d3, d4, d5, d6⟩ := hcy.cells
        have z1 : (E3 != E3) = false := by simp
        have z2 : (N3 != N3) = false := by simp
        clear hcx2 hcx3 hcy hst hx5 hy5 hbA hbB HD2 HX4 HCX HBB hb12 hyv
        go_wp2_with fail
        refine HS.out.mono ?_
        rintro e w14 ⟨rfl, hb14⟩
        have hbF := HBB2.out.trans (hb14.mono HBB2.out.size)
        have HBF := Lib.hid hbF
        clear HS HBB2 hb14 hbF c0 c1 c2' c3' c4 c5 c6 d0 d1 d2 d3 d4 d5 d6
        go_wp2_with fail
        go_roundw
        case rel => exact ⟨j + 1, by omega, by push_cast; rfl, HBF.out⟩
        case measure => simp [intOf]; omega
      · obtain rfl : j = 3 := by omega
        have HBL := Lib.hid hbl
        clear hbl
        go_wp2_with fail
        refine (haw.out _).mono ?_
        rintro e w15 ⟨rfl, hb15⟩
        go_wp2_with fail
        go_ret
        have h9 := HE.out.trans (HBL.out.mono HE.out.size)
        exact ⟨rfl, h9.trans (hb15.mono h9.size)⟩
  · have h0n : 0 < n2 := of_decide_eq_true HNB.out.symm
    clear hnbi hnbj
    go_wp2_with (at_builtin; go_loud (refine wpList_append_rd _ rfl (.const (.slice none 0 0)) (.tmp 83) 26 rfl w7.heap.size 5 i0 _ 1 Try.underlying26 hi hz0 hz1 hz2 rfl _ 0 [] rfl own0 w7.heap.size Z zn zc (bvs B2) rfl (by rw [len_bvs]; exact HZ7.out.len.symm) HZ7.out.row HZ7.out.nil (bvs_one _) (by unfold maxLen; omega) (by omega) (Nat.le_refl _) ?_); intro v1 w8 ho1 hg1; have hb8 := (Below.refl w7.heap.size w7).grown hg1 (Nat.le_refl _) (fun k hk => (by cases hk)); have hoz : Mem.Own w7.heap.size w8 v1 B2 := own_of ho1 (by have := HZN.out; omega) (by rw [List.nil_append]); obtain ⟨V, bn, bc, rfl, hvs⟩ := Sl.of_own hoz; obtain ⟨g, rfl, hg⟩ := own_some hoz (by have := HZN.out; omega))
    have hbn := hvs.len
    have hbz : bn = zn := by have := HZN.out; omega
    have HBZ := Lib.hid hbz
    have HBN := Lib.hid hbn
    have hs8 := HS7.out.step hb8
    obtain ⟨a, rfl, ha, hca⟩ := row_at hs8.row (k := 0) (by have := hs8.len; omega)
    rw [show a.add 0 = a from rfl] at hca
    obtain ⟨x0, hx0⟩ : ∃ x0, x0 = l2[0]'(by have := hs8.len; omega) := ⟨_, rfl⟩
    rw [← hx0] at hca
    obtain ⟨k, hk, hmk⟩ : ∃ k : Nat, k < bn ∧ ∀ u, Calls Try.prog 12 #[.int .i64 y, .int .i64 (bn : Int)] u fun e w' => e = .returned (.int .i64 (k : Int)) ∧ u = w' := by
      have h0 : 0 ≤ y % (bn : Int) := Int.emod_nonneg _ (by omega)
      have h1 : y % (bn : Int) < (bn : Int) := Int.emod_lt_of_pos _ (by omega)
      obtain ⟨k, hk⟩ := Int.eq_ofNat_of_zero_le h0
      exact ⟨k, by omega, fun u => by have := mod_det y bn u hy.1 hy.2 (by omega) (by omega); rw [hk] at this; exact this⟩
    have HMK := Lib.hid hmk
    have hca1 : w8.drew.cell? a = some (.int .u8 (x0.toNat : Int)) := hca
    have hkl : k < B2.length := by have := HBN.out; omega
    have hcg1 : w8.cell? ⟨g, k, none⟩ = some (.int .u8 (B2[k].toNat : Int)) := own_cell hoz HBN.out hkl
    have hfg : w8.frozen? ⟨g, k, none⟩ = false := own_frozen hoz HBN.out k
    have hst9 := (own_store (w := w8.drew) (World.ownsRow.drew hoz) HBN.out k x0).1
    have HST := Lib.hid hst9
    have HG1 := Lib.hid hg.1
    have hbd : Below w7.heap.size w7 w8.drew := ⟨hb8.os, hb8.tape, hb8.output, hb8.size, hb8.block⟩
    have HB9' := Lib.hid (hbd.setCell (p := ⟨g, k, none⟩) hg.1 (bv x0))
    have b1 : (0 : Int) ≤ (k : Int) := by omega
    have b2 : (k : Int) < (bn : Int) := by omega
    have HS7' := Lib.hid HS7.out; have HZ7' := Lib.hid HZ7.out
    clear hmk hvs ho1 hg1 hi hz0 hz1 hz2 own0 hbz hbn hs8 hb8 hst9 HZ7 HS7 hoz hx0 hbd hg
    have hcg2 : w8.drew.cell? ⟨g, k, none⟩ = some (.int .u8 (B2[k].toNat : Int)) := hcg1
    have hfg2 : w8.drew.frozen? ⟨g, k, none⟩ = false := hfg
    go_wp2_with fail
    go_region_law (first
      | (go_simp; go_at_call 12; (with_reducible refine (HMK.out _).mono ?_); rintro e w' ⟨rfl, rfl⟩))
    all_goals
      have HST1 := Lib.hid (sl_own HST.out (by simp; exact HBN.out))
      generalize hBB : B2.set k x0 = B3 at *
      change Hid (Below _ _ ((w8.setCell ⟨g, k, none⟩ (.int .u8 (x0.toNat : Int))).drew)) at HB9'
      change Hid (Sl ((w8.setCell ⟨g, k, none⟩ (.int .u8 (x0.toNat : Int))).drew) _ _ _ _) at HST1
      generalize (w8.setCell ⟨g, k, none⟩ (.int .u8 (x0.toNat : Int))).drew = w9 at *
      have hbnb : bn ≤ 1000000 := by have := HZN.out; have := HBZ.out; omega
      have HZ9 := Lib.hid (HZ7'.out.step HB9'.out); have HS9 := Lib.hid (HS7'.out.step HB9'.out); have HB9 := Lib.hid HST1.out
      have HA9 := Lib.hid (HA7.out.trans (HB9'.out.mono HA7.out.size))
      clear HS7' HZ7' HA7 HB9' HST HST1 hca hca1 hcg1 hcg2 hfg hfg2 HMK HBN HBZ hBB
      as_aux_lemma =>
      have hmd := Lib.hid (fun u => mod_at y ((zn : Int) + 1) (zn + 1) u (by push_cast; rfl) hy.1 hy.2 (by omega) (by omega))
      go_wp2_with fail
      refine (hmd.out _).mono ?_
      rintro e w' ⟨r, hr, rfl, rfl⟩
      have u1 : (0 : Int) ≤ (r : Int) := by omega
      have u2 : (r : Int) ≤ (zc : Int) := by have := HZ9.out.cap; omega
      have hsr : Sl w9 Z r zc (B2.take r) := ⟨by have := HZ9.out.len; simp; omega, row_take HZ9.out.row r, by have := HZ9.out.cap; omega, HZ9.out.max, HZ9.out.nil⟩
      have hfb := heap_alloc_new w9 (.cells #[.slice (some a) n2 c2, .slice Z r zc, .slice (some ⟨g, 0, none⟩) bn bc] 26)
      have hst : Below w9.heap.size w9 (w9.alloc (.cells #[.slice (some a) n2 c2, .slice Z r zc, .slice (some ⟨g, 0, none⟩) bn bc] 26)) := (Below.refl _ _).alloc (Nat.le_refl _) _
      have hlF : w9.heap.size < (w9.alloc (.cells #[.slice (some a) n2 c2, .slice Z r zc, .slice (some ⟨g, 0, none⟩) bn bc] 26)).heap.size := by simp
      have hT : ∀ j, j < 3 → ∃ A3 n3 c3 l3, (#[.slice (some a) n2 c2, .slice Z r zc, .slice (some ⟨g, 0, none⟩) bn bc] : Array Value)[j]? = some (.slice A3 n3 c3) ∧ Sl (w9.alloc (.cells #[.slice (some a) n2 c2, .slice Z r zc, .slice (some ⟨g, 0, none⟩) bn bc] 26)) A3 n3 c3 l3 ∧ n3 ≤ 1000000 := by
        intro j hj
        match j, hj with
        | 0, _ => exact ⟨(some a), n2, c2, l2, rfl, HS9.out.step hst, by omega⟩
        | 1, _ => exact ⟨Z, r, zc, B2.take r, rfl, hsr.step hst, by omega⟩
        | 2, _ => exact ⟨some ⟨g, 0, none⟩, bn, bc, B3, rfl, HB9.out.step hst, by omega⟩
      have hend := HA9.out.trans (hst.mono HA9.out.size)
      have HT := Lib.hid hT; have HF := Lib.hid hfb; have HE := Lib.hid hend
      clear hsr hst HZ9 HS9 HB9 HA9 hmd hT hfb hend
      go_wp2_with fail
      generalize w9.alloc (.cells #[.slice (some a) n2 c2, .slice Z r zc, .slice (some ⟨g, 0, none⟩) bn bc] 26) = wl at *
      generalize w9.heap.size = F at *
      go_loopw [108] (fun u wr => ∃ j : Nat, j ≤ 3 ∧ u = .int .i64 j ∧ Below wl.heap.size wl wr) (fun u _ => 3 - (intOf u).toNat)
      case atStart => exact ⟨0, by omega, rfl, Below.refl _ _⟩
      case round =>
        obtain ⟨j, hj, rfl, hbl⟩ := hrel
        by_cases hlt : j < 3
        · obtain ⟨A3, n3, c3, l3, hget, hsl3, hn3⟩ := HT.out j hlt
          have hcell : wr.cell? ⟨F, j, none⟩ = some (.slice A3 n3 c3) := (cell_of_row wr F j _ _ _ ((hbl.block F hlF).trans HF.out)).trans hget
          have hs3 := hsl3.step hbl
          have hD := dec_p A3 n3 c3 l3 wr hs3 hn3
          have HS3 := Lib.hid hs3
          have HBL := Lib.hid hbl
          clear hget hsl3 hs3 hbl
          have b1 : (0 : Int) ≤ (j : Int) := by omega
          have b2 : (j : Int) < 3 := by omega
          have b0 : decide ((j : Int) < 3) = true := by simp; omega
          go_wp2_with fail
          refine hD.mono ?_
          rintro e w10 ⟨XA, xn, xc, rfl, hx, hb10⟩
          obtain ⟨⟨⟨f3, s3, m3, b3, k13, k23, p3⟩, N3, E3⟩, hdd⟩ : ∃ D, D = dec l3 := ⟨_, rfl⟩
          rw [← hdd] at hx ⊢
          dsimp only at hx ⊢
          have hcx := Cb.new w10 (.int .i64 f3) (.bool s3) (.int .i64 m3) (.int .i64 b3) (.int .i64 k13) (.int .i64 k23) (.slice XA xn xc)
          have hst : Below w10.heap.size w10 (w10.alloc (.cells #[.int .i64 f3, .bool s3, .int .i64 m3, .int .i64 b3, .int .i64 k13, .int .i64 k23, .slice XA xn xc] 24)) := (Below.refl _ _).alloc (Nat.le_refl _) _
          have hs4 := (HS3.out.step hb10).step hst
          have hx4 := hx.step hst
          have hbA := (HBL.out.trans (hb10.mono HBL.out.size))
          have hbB := hbA.trans (hst.mono hbA.size)
          have hD2 := dec_r A3 n3 c3 l3 _ hs4 hn3
          unfold Dcd at hD2
          rw [← hdd] at hD2
          dsimp only at hD2
          have HD2 := Lib.hid hD2; have HX4 := Lib.hid hx4; have HCX := Lib.hid hcx; have HBB := Lib.hid hbB
          clear hD hx hs4 hx4 hcx hst hbA hbB hD2 HS3 HBL hb10 hdd hcell hn3
          go_wp2_with fail
          generalize hW11 : w10.alloc (.cells #[.int .i64 f3, .bool s3, .int .i64 m3, .int .i64 b3, .int .i64 k13, .int .i64 k23, .slice XA xn xc] 24) = w11 at *
          clear hW11
          refine HD2.out.mono ?_
          rintro e w12 ⟨YA, yn', yc', rfl, hyv, hb12⟩
          have hcx2 := HCX.out.step hb12
          have hcy := Cb.new w12 (.int .i64 f3) (.bool s3) (.int .i64 m3) (.int .i64 b3) (.int .i64 k13) (.int .i64 k23) (.slice YA yn' yc')
          have hst : Below w12.heap.size w12 (w12.alloc (.cells #[.int .i64 f3, .bool s3, .int .i64 m3, .int .i64 b3, .int .i64 k13, .int .i64 k23, .slice YA yn' yc'] 24)) := (Below.refl _ _).alloc (Nat.le_refl _) _
          have hcx3 := hcx2.step hst
          have hx5 := (HX4.out.step hb12).step hst
          have hy5 := hyv.step hst
          have hbA := (HBB.out.trans (hb12.mono HBB.out.size))
          have hbB := hbA.trans (hst.mono hbA.size)
          have HS := Lib.hid (csame_yes f3 m3 b3 k13 k23 s3 XA YA xn yn' xc yc' p3 _ hx5 hy5)
          have HBB2 := Lib.hid hbB
          obtain ⟨c0, c1, c2', c3', c4, c5, c6⟩ := hcx3.cells
          obtain ⟨d0, d1, d2, d3, d4, d5, d6⟩ := hcy.cells
          have z1 : (E3 != E3) = false := by simp
          have z2 : (N3 != N3) = false := by simp
          clear hcx2 hcx3 hcy hst hx5 hy5 hbA hbB HD2 HX4 HCX HBB hb12 hyv
          go_wp2_with fail
          refine HS.out.mono ?_
          rintro e w14 ⟨rfl, hb14⟩
          have hbF := HBB2.out.trans (hb14.mono HBB2.out.size)
          have HBF := Lib.hid hbF
          clear HS HBB2 hb14 hbF c0 c1 c2' c3' c4 c5 c6 d0 d1 d2 d3 d4 d5 d6
          go_wp2_with fail
          go_roundw
          case rel => exact ⟨j + 1, by omega, by push_cast; rfl, HBF.out⟩
          case measure => simp [intOf]; omega
        · obtain rfl : j = 3 := by omega
          have HBL := Lib.hid hbl
          clear hbl
          go_wp2_with fail
          refine (haw.out _).mono ?_
          rintro e w15 ⟨rfl, hb15⟩
          go_wp2_with fail
          go_ret
          have h9 := HE.out.trans (HBL.out.mono HE.out.size)
          exact ⟨rfl, h9.trans (hb15.mono h9.size)⟩

theorem cells_u8 : Try.prog.cellsOf 5 = 1 := by kernel_rfl
theorem cells_int : Try.prog.cellsOf 3 = 1 := by kernel_rfl
theorem own : ownKnob Try.prog.godebug = none := by kernel_rfl
theorem laidOut : laidOutB Try.prog = true := by kernel_rfl
theorem contract (H : Type) (enc : TypeId × Value → H) (W : World) (base : Nat) (args : Array Value) (ds gs : List (DataW H)) (before : List MemPlace)
    (hval : ∀ (j : Nat) t v, Try.f3.params[j]? = some t → args[j]? = some v → Value.okWide Try.prog W .any base t v)
    (hW : DataW.Whole enc Try.prog Try.f3.params.toList Rows.convertBytesSpec.vars false W args.toList ds gs before) :
    Calls Try.prog 3 args W fun e W' => ∃ v, e = .returned v ∧ Rows.convertBytesSpec.post enc Try.prog Try.f3 false true false false W args v W' := by
  have hW' := hW
  obtain ⟨p, q, hA0, hV, rfl, hfz, hnd⟩ := hW
  have hA : DataW.TrodAll enc Try.prog W 0 (fun _ => true) true Try.f3.params.toList args.toList ds p := hA0
  rw [Try.params3] at hA hval
  obtain ⟨v0, vs0, d0, ds0, p0, q0, hargs, rfl, rfl, h0, r0⟩ := trodAll_cons hA
  obtain ⟨v1, vs1, d1, ds1, p1, q1, rfl, rfl, rfl, h1, r1⟩ := trodAll_cons r0
  obtain ⟨v2, vs2, d2, ds2, p2, q2, rfl, rfl, rfl, h2, r2⟩ := trodAll_cons r1
  obtain ⟨v3, vs3, d3, ds3, p3, q3, rfl, rfl, rfl, h3, r3⟩ := trodAll_cons r2
  obtain ⟨rfl, rfl, rfl⟩ := trodAll_nil r3
  obtain rfl : args = #[v0, v1, v2, v3] := by cases args; simp_all
  obtain ⟨f0, s0, m0, b0, x0, y0, A0, n0, c0, l0, rfl, hr0, hf0, hm0, hb0, hx0, hy0⟩ := open_conv Try.underlying24 (by kernel_rfl) ⟨rfl, rfl, rfl, rfl, rfl, rfl, rfl⟩ ⟨by kernel_rfl, by kernel_rfl, by kernel_rfl, by kernel_rfl, by kernel_rfl, by kernel_rfl, by kernel_rfl⟩ Try.underlying3 Try.underlying4 Try.underlying3 Try.underlying3 Try.underlying3 Try.underlying3 Try.underlying22 Try.underlying46 (by kernel_rfl) rfl rfl (by kernel_rfl) (by kernel_rfl) Try.underlying5 Try.underlying2 (hval 0 24 v0 rfl rfl) h0
  obtain ⟨A1, n1, c1, l1, rfl, hn1, hr1, hw1, hc1, hm1, hk1⟩ := open_int_list Try.underlying25 Try.underlying3 cells_int (hval 1 25 v1 rfl rfl) h1
  obtain ⟨A2, n2, c2, l2, rfl, hn2, hr2, hc2, hm2, hk2⟩ := open_bytes Try.underlying26 Try.underlying5 cells_u8 (hval 2 26 v2 rfl rfl) h2
  obtain ⟨a3, rfl, -, -, w3⟩ := open_int Try.underlying3 (hval 3 3 v3 rfl rfl) h3
  clear hA0
  refine (walk f0 s0 m0 b0 x0 y0 A0 n0 c0 l0 hf0 hm0 hb0 hx0 hy0 A1 n1 c1 l1 hn1 hw1 hc1 hm1 hk1 A2 n2 c2 l2 hn2 hc2 hm2 hk2 a3 (bounds_i64 w3) W hr0 hr1 hr2).mono fun e W' ⟨he, hb⟩ => ?_
  subst he
  exact ⟨_, rfl, law_post laidOut (types_fit (by kernel_rfl)) (by kernel_rfl) Try.underlying4 rfl (fun xs hx => by
    match xs, hx with
    | [_, _, _, _], _ => rfl) hW' hb⟩

theorem lifted (os : Os) (started : os.Started) (H : Type) (enc : TypeId × Value → H) :
    ReturnsInHanded {} Try.checked os 3 .any (Rows.convertBytesSpec.pre6 enc Try.prog Try.f3 Rows.convertBytesRow.domain false) (Rows.convertBytesSpec.post enc Try.prog Try.f3 false true false false) := by
  refine returnsInHanded_of_change (C := Try.checked) own started (by kernel_rfl) Try.func3
    (ChangeSpec.witness6 (enc := enc) (C := Try.checked) false ⟨#[], #[.agg #[.int .i64 0, .bool false, .int .i64 0, .int .i64 0, .int .i64 0, .int .i64 0, .slice none 0 0], .slice none 0 0, .slice none 0 0, .int .i64 0], []⟩ 8 (by kernel_rfl) (by kernel_rfl) (by kernel_rfl) (by kernel_rfl)) ?_
  intro W base args ds gs before hval hW _ _
  exact contract H enc W base args ds gs before hval hW

theorem proved : Rows.ConvertBytesSaid :=
  OpenClaim.holds_of_wide 3 Try.f3 rfl rfl rfl rfl rfl rfl rfl ⟨rfl, rfl, rfl, rfl, rfl⟩ rfl rfl rfl rfl rfl (by kernel_rfl) Try.func3 (by kernel_rfl)
    (of_decide_eq_true (by kernel_rfl)) (by unfold Func.isWrapper; first | (rw [if_pos (by decide +kernel)]; kernel_rfl) | (rw [if_neg (by decide +kernel)]; exact ⟨rfl, rfl⟩))
    (fun os started H enc _ => lifted os started H enc)
end Go.Proofs.Ytfnocgkhhbpiiaa.convertBytes
