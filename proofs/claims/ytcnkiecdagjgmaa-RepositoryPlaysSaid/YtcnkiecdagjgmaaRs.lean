/- Walks: the reference's Get, Read, Clear. -/
import Derived.Test.YtcnkiecdagjgmaaRr
namespace Go.Proofs.Ytcnkiecdagjgmaa.R12
open Go.RowKit Go.Proofs.Ytcnkiecdagjgmaa.Mem
open Go.Proofs.Ytcnkiecdagjgmaa.R11 (Rk Rp sum fresh has has_iff nxt nth fid ixOf ixOf_no ixOf_yes plc plc_lt nid nid_more nid_last lt_of_some ne_of_types own_blk Gives get_some get_none)
set_option maxRecDepth 100000
set_option maxHeartbeats 1000000

theorem rix_none {l : List Rk} {i : Nat} (h : plc l i = none) : rix l i = -1 := by unfold rix; rw [h]
theorem rix_some {l : List Rk} {i k : Nat} (h : plc l i = some k) : rix l i = (k : Int) := by unfold rix; rw [h]
section
variable {B : Nat} {W w w' : World} {g : Nat} {rv rv' : Value} {S S' : Rp}
theorem rget_p (h : RA B W w g rv S) (ok : S.Ok) (i : Nat) (hi : i ≤ 65535) : Calls Try.prog 56 #[.pointer (some ⟨g, 0, none⟩), .int .u16 (i : Int)] w (Gives w (S.get i)) := by
  have HIX := rindex_p h ok i hi
  rcases hp : plc S.recs i with _ | k
  · rw [get_none hp]
    rw [rix_none hp] at HIX
    have HIX := Lib.hid HIX
    clear h ok hp
    go_enter Try.func56, Try.ntmps56
    go_wp2_with fail
    refine HIX.out.mono ?_
    rintro e w1 ⟨rfl, hw1⟩
    rw [hw1]
    clear hw1 w1
    go_wp2_with fail
    go_ret3
    exact ⟨_, _, _, rfl, Own.nil, Below.refl _ _⟩
  · obtain ⟨r, hr, hm, he⟩ := get_some hp
    rw [he]
    rw [rix_some hp] at HIX
    have HIX := Lib.hid HIX
    have hk := plc_lt hp
    have HRK : Hid (S.recs[k] = r) := Lib.hid (by rw [List.getElem?_eq_getElem hk] at hr; exact Option.some.inj hr)
    have hl := ok.one r hm
    have HNX := Lib.hid fun V (hV : RA B W V g rv S) => rnext_p hV ok k hk
    have H := Lib.hid h
    have c1 := h.c1
    have hlg := h.lg
    obtain ⟨A1, n1, cc1, hrv, hs⟩ := h.own.sl
    have hn1 : n1 = S.recs.length := hs.len
    have hcm : n1 ≤ 2 ^ 63 - 1 := Nat.le_trans hs.cap hs.max
    have h64 : n1 ≤ 64 := by have := ok.len; omega
    have hkn : (k : Int) < (n1 : Int) := by omega
    have hk0 : (0 : Int) ≤ (k : Int) := by omega
    obtain ⟨a, hA, hab, -, k1⟩ := krow_at hs.row hk
    subst hA
    rw [HRK.out] at k1
    have k1' : w.cell? ⟨(a.add (k * 2)).block, (a.add (k * 2)).off + 1, none⟩ = some (.slice (some ⟨r.blk, 0, none⟩) r.b.length r.cap) := by rw [← k1, ← add_add]; rfl
    rw [hrv] at c1
    have HC := Lib.hid (rcopy_p (some ⟨r.blk, 0, none⟩) r.b.length r.cap r.b w rfl (sl_own (h.rows r hm) rfl).row (by omega))
    clear h ok hp hr hm he hl hs hn1 k1 HRK hk
    generalize nid S.recs k = X at *
    go_enter Try.func56, Try.ntmps56
    go_wp2_with fail
    refine HIX.out.mono ?_
    rintro e w1 ⟨rfl, hw1⟩
    rw [hw1]
    clear hw1 w1
    go_wp2_with fail
    refine HC.out.mono ?_
    rintro e w2 ⟨v2, rfl, ho2, hb2⟩
    have HO2 := Lib.hid ho2
    have HB2 := Lib.hid hb2
    have HN2 := Lib.hid (HNX.out _ (H.out.step hb2))
    obtain ⟨A2, n2, c2, rfl, -⟩ := Sl.of_own ho2
    clear ho2 hb2 HC
    go_wp2_with fail
    refine HN2.out.mono ?_
    rintro e w3 ⟨rfl, hw3⟩
    rw [hw3]
    clear hw3 w3
    go_wp2_with fail
    go_ret3
    exact ⟨_, _, _, rfl, HO2.out, HB2.out⟩
theorem rread_r (h : RA B W w g rv S) (v i : Nat) (o c : Int) (_ho : -9223372036854775808 ≤ o ∧ o ≤ 9223372036854775807) (_hc : -9223372036854775808 ≤ c ∧ c ≤ 9223372036854775807) (hv5 : v ≤ 65535) (h0 : o ≠ 0) (hv : S.valid v = false) :
    Calls Try.prog 58 #[.pointer (some ⟨g, 0, none⟩), .int .u16 (v : Int), .int .u16 (i : Int), .int .i64 o, .int .i64 c] w (Gives w ([], 0, 11)) := by
  have HV := rheld_p h v hv5
  rw [hv] at HV
  have HV := Lib.hid HV
  have q0 : (o != 0) = true := by simpa using h0
  clear h h0 hv
  go_enter Try.func58, Try.ntmps58
  go_wp2_with fail
  refine HV.out.mono ?_
  rintro e w1 ⟨rfl, hw1⟩
  rw [hw1]
  clear hw1 w1
  go_wp2_with fail
  go_ret3
  exact ⟨_, _, _, rfl, Own.nil, Below.refl _ _⟩
theorem rread_m (h : RA B W w g rv S) (ok : S.Ok) (v i : Nat) (o c : Int) (_ho : -9223372036854775808 ≤ o ∧ o ≤ 9223372036854775807) (_hc : -9223372036854775808 ≤ c ∧ c ≤ 9223372036854775807) (hv5 : v ≤ 65535) (hi : i ≤ 65535) (h0 : o = 0 ∨ S.valid v = true) (hp : plc S.recs i = none) :
    Calls Try.prog 58 #[.pointer (some ⟨g, 0, none⟩), .int .u16 (v : Int), .int .u16 (i : Int), .int .i64 o, .int .i64 c] w (Gives w ([], 0, 8)) := by
  have HV := Lib.hid (rheld_p h v hv5)
  have HIX := rindex_p h ok i hi
  rw [rix_none hp] at HIX
  have HIX := Lib.hid HIX
  clear h hp ok
  by_cases hq : o = 0
  · have q0 : (o != 0) = false := by simpa using hq
    clear h0 hq
    go_enter Try.func58, Try.ntmps58
    go_wp2_with fail
    refine HIX.out.mono ?_
    rintro e w1 ⟨rfl, hw1⟩
    rw [hw1]
    clear hw1 w1
    go_wp2_with fail
    go_ret3
    exact ⟨_, _, _, rfl, Own.nil, Below.refl _ _⟩
  · have q0 : (o != 0) = true := by simpa using hq
    rw [h0.resolve_left hq] at HV
    clear h0 hq
    go_enter Try.func58, Try.ntmps58
    go_wp2_with fail
    refine HV.out.mono ?_
    rintro e w1 ⟨rfl, hw1⟩
    rw [hw1]
    clear hw1 w1
    go_wp2_with fail
    refine HIX.out.mono ?_
    rintro e w1 ⟨rfl, hw1⟩
    rw [hw1]
    clear hw1 w1
    go_wp2_with fail
    go_ret3
    exact ⟨_, _, _, rfl, Own.nil, Below.refl _ _⟩
theorem rread_x (h : RA B W w g rv S) (ok : S.Ok) (k : Nat) (v i : Nat) (o c : Int) (ho : -9223372036854775808 ≤ o ∧ o ≤ 9223372036854775807) (hc : -9223372036854775808 ≤ c ∧ c ≤ 9223372036854775807) (hv5 : v ≤ 65535) (hi : i ≤ 65535) (h0 : o = 0 ∨ S.valid v = true) (hp : plc S.recs i = some k) (r : Rk) (hr : S.recs[k]? = some r) (hm : r ∈ S.recs)
    (hx : o < 0 ∨ c < 0 ∨ (r.b.length : Int) - c < o) :
    Calls Try.prog 58 #[.pointer (some ⟨g, 0, none⟩), .int .u16 (v : Int), .int .u16 (i : Int), .int .i64 o, .int .i64 c] w (Gives w ([], 0, 2)) := by
  have HV := Lib.hid (rheld_p h v hv5)
  have HIX := rindex_p h ok i hi
  rw [rix_some hp] at HIX
  have HIX := Lib.hid HIX
  have hk := plc_lt hp
  have HRK : Hid (S.recs[k] = r) := Lib.hid (by rw [List.getElem?_eq_getElem hk] at hr; exact Option.some.inj hr)
  have hl := ok.one r hm
  have HNX := Lib.hid fun V (hV : RA B W V g rv S) => rnext_p hV ok k hk
  have H := Lib.hid h
  have c1 := h.c1
  have hlg := h.lg
  obtain ⟨A1, n1, cc1, hrv, hs⟩ := h.own.sl
  have hn1 : n1 = S.recs.length := hs.len
  have hcm : n1 ≤ 2 ^ 63 - 1 := Nat.le_trans hs.cap hs.max
  have h64 : n1 ≤ 64 := by have := ok.len; omega
  have hkn : (k : Int) < (n1 : Int) := by omega
  have hk0 : (0 : Int) ≤ (k : Int) := by omega
  obtain ⟨a, hA, hab, -, k1⟩ := krow_at hs.row hk
  subst hA
  rw [HRK.out] at k1
  have k1' : w.cell? ⟨(a.add (k * 2)).block, (a.add (k * 2)).off + 1, none⟩ = some (.slice (some ⟨r.blk, 0, none⟩) r.b.length r.cap) := by rw [← k1, ← add_add]; rfl
  rw [hrv] at c1
  obtain ⟨L, hL⟩ : ∃ L, L = r.b.length := ⟨_, rfl⟩
  rw [← hL] at hl hx k1'
  have hl2 := hl.2
  clear h ok hp hr hm hl hk hs hn1 k1 hL HNX H HRK
  by_cases hq : o = 0
  · have q0 : (o != 0) = false := by simpa using hq
    clear h0
    have o0 : ¬ o < 0 := by omega
    have q1 : decide (o < 0) = false := by simpa using o0
    by_cases cc0 : c < 0
    · have q2 : decide (c < 0) = true := by simpa using cc0
      clear hx o0 cc0 hq
      go_enter Try.func58, Try.ntmps58
      go_wp2_with fail
      refine HIX.out.mono ?_
      rintro e w1 ⟨rfl, hw1⟩
      rw [hw1]
      clear hw1 w1
      go_wp2_with fail
      go_ret3
      exact ⟨_, _, _, rfl, Own.nil, Below.refl _ _⟩
    · have q2 : decide (c < 0) = false := by simpa using cc0
      have ol : ¬ (L : Int) < o := by omega
      have ol2 : (L : Int) - o < c := by omega
      clear hx o0 cc0 hq
      go_enter Try.func58, Try.ntmps58
      go_wp2_with fail
      refine HIX.out.mono ?_
      rintro e w1 ⟨rfl, hw1⟩
      rw [hw1]
      clear hw1 w1
      go_wp2_with fail
      go_ret3
      exact ⟨_, _, _, rfl, Own.nil, Below.refl _ _⟩
  · have q0 : (o != 0) = true := by simpa using hq
    rw [h0.resolve_left hq] at HV
    clear h0
    by_cases o0 : o < 0
    · have q1 : decide (o < 0) = true := by simpa using o0
      clear hx o0 hq
      go_enter Try.func58, Try.ntmps58
      go_wp2_with fail
      refine HV.out.mono ?_
      rintro e w1 ⟨rfl, hw1⟩
      rw [hw1]
      clear hw1 w1
      go_wp2_with fail
      refine HIX.out.mono ?_
      rintro e w1 ⟨rfl, hw1⟩
      rw [hw1]
      clear hw1 w1
      go_wp2_with fail
      go_ret3
      exact ⟨_, _, _, rfl, Own.nil, Below.refl _ _⟩
    · have q1 : decide (o < 0) = false := by simpa using o0
      by_cases cc0 : c < 0
      · have q2 : decide (c < 0) = true := by simpa using cc0
        clear hx o0 cc0 hq
        go_enter Try.func58, Try.ntmps58
        go_wp2_with fail
        refine HV.out.mono ?_
        rintro e w1 ⟨rfl, hw1⟩
        rw [hw1]
        clear hw1 w1
        go_wp2_with fail
        refine HIX.out.mono ?_
        rintro e w1 ⟨rfl, hw1⟩
        rw [hw1]
        clear hw1 w1
        go_wp2_with fail
        go_ret3
        exact ⟨_, _, _, rfl, Own.nil, Below.refl _ _⟩
      · have q2 : decide (c < 0) = false := by simpa using cc0
        by_cases ol : (L : Int) < o
        · clear hx o0 cc0 hq
          go_enter Try.func58, Try.ntmps58
          go_wp2_with fail
          refine HV.out.mono ?_
          rintro e w1 ⟨rfl, hw1⟩
          rw [hw1]
          clear hw1 w1
          go_wp2_with fail
          refine HIX.out.mono ?_
          rintro e w1 ⟨rfl, hw1⟩
          rw [hw1]
          clear hw1 w1
          go_wp2_with fail
          go_ret3
          exact ⟨_, _, _, rfl, Own.nil, Below.refl _ _⟩
        · have ol2 : (L : Int) - o < c := by omega
          clear hx o0 cc0 hq
          go_enter Try.func58, Try.ntmps58
          go_wp2_with fail
          refine HV.out.mono ?_
          rintro e w1 ⟨rfl, hw1⟩
          rw [hw1]
          clear hw1 w1
          go_wp2_with fail
          refine HIX.out.mono ?_
          rintro e w1 ⟨rfl, hw1⟩
          rw [hw1]
          clear hw1 w1
          go_wp2_with fail
          go_ret3
          exact ⟨_, _, _, rfl, Own.nil, Below.refl _ _⟩
theorem rread_ok (h : RA B W w g rv S) (ok : S.Ok) (k v i o c : Nat) (hv5 : v ≤ 65535) (hi : i ≤ 65535) (h0 : o = 0 ∨ S.valid v = true) (hp : plc S.recs i = some k) (r : Rk) (hr : S.recs[k]? = some r) (hm : r ∈ S.recs) (hx : o + c ≤ r.b.length) :
    Calls Try.prog 58 #[.pointer (some ⟨g, 0, none⟩), .int .u16 (v : Int), .int .u16 (i : Int), .int .i64 (o : Int), .int .i64 (c : Int)] w (Gives w ((r.b.drop o).take c, nid S.recs k, 0)) := by
  have HV := Lib.hid (rheld_p h v hv5)
  have HIX := rindex_p h ok i hi
  rw [rix_some hp] at HIX
  have HIX := Lib.hid HIX
  have hk := plc_lt hp
  have HRK : Hid (S.recs[k] = r) := Lib.hid (by rw [List.getElem?_eq_getElem hk] at hr; exact Option.some.inj hr)
  have hl := ok.one r hm
  have HNX := Lib.hid fun V (hV : RA B W V g rv S) => rnext_p hV ok k hk
  have H := Lib.hid h
  have c1 := h.c1
  have hlg := h.lg
  obtain ⟨A1, n1, cc1, hrv, hs⟩ := h.own.sl
  have hn1 : n1 = S.recs.length := hs.len
  have hcm : n1 ≤ 2 ^ 63 - 1 := Nat.le_trans hs.cap hs.max
  have h64 : n1 ≤ 64 := by have := ok.len; omega
  have hkn : (k : Int) < (n1 : Int) := by omega
  have hk0 : (0 : Int) ≤ (k : Int) := by omega
  obtain ⟨a, hA, hab, -, k1⟩ := krow_at hs.row hk
  subst hA
  rw [HRK.out] at k1
  have k1' : w.cell? ⟨(a.add (k * 2)).block, (a.add (k * 2)).off + 1, none⟩ = some (.slice (some ⟨r.blk, 0, none⟩) r.b.length r.cap) := by rw [← k1, ← add_add]; rfl
  rw [hrv] at c1
  have hcap := (sl_own (h.rows r hm) rfl).cap
  have hcm2 : r.cap ≤ 2 ^ 63 - 1 := (sl_own (h.rows r hm) rfl).max
  have HC := Lib.hid fun A q d (hA : A = if r.cap = o then some ⟨r.blk, 0, none⟩ else (some ⟨r.blk, 0, none⟩ : Option Addr).map (·.add o)) (hq : q = ((r.b.drop o).take c).length) => rcopy_p A q d ((r.b.drop o).take c) w hq (by
    rw [hA]; exact row_take (row_cut (sl_own (h.rows r hm) rfl).row (by omega) (sl_own (h.rows r hm) rfl).cap) c) (by rw [hq, List.length_take, List.length_drop]; omega)
  have HLN : Hid (((r.b.drop o).take c).length = c) := Lib.hid (by rw [List.length_take, List.length_drop]; omega)
  generalize (r.b.drop o).take c = R at *
  generalize nid S.recs k = X at *
  obtain ⟨L, hL⟩ : ∃ L, L = r.b.length := ⟨_, rfl⟩
  rw [← hL] at hl hx k1' hcap
  have hl2 := hl.2
  clear h ok hp hr hm hl hk hs hn1 k1 hL HRK
  obtain ⟨rid, rblk, rcap, rb⟩ := r
  dsimp only at *
  by_cases hq : o = 0
  · have q0 : ((o : Int) != 0) = false := by simpa using hq
    clear h0 hq
    go_enter Try.func58, Try.ntmps58
    go_wp2_with fail
    refine HIX.out.mono ?_
    rintro e w1 ⟨rfl, hw1⟩
    rw [hw1]
    clear hw1 w1
    go_wp2_with fail
    all_goals
      refine (HC.out _ _ _ (by first | (rw [if_pos (by first | rfl | assumption)]) | (rw [if_neg (by first | assumption | omega)]; simp [add_spot])) HLN.out.symm).mono ?_
      rintro e w2 ⟨v2, rfl, ho2, hb2⟩
      have HO2 := Lib.hid ho2
      have HB2 := Lib.hid hb2
      have HN2 := Lib.hid (HNX.out _ (H.out.step hb2))
      obtain ⟨A2, n2, c2, rfl, -⟩ := Sl.of_own ho2
      clear ho2 hb2
      go_wp2_with fail
      refine HN2.out.mono ?_
      rintro e w3 ⟨rfl, hw3⟩
      rw [hw3]
      clear hw3 w3
      go_wp2_with fail
      go_ret3
      exact ⟨_, _, _, rfl, HO2.out, HB2.out⟩
  · have q0 : ((o : Int) != 0) = true := by simpa using hq
    rw [h0.resolve_left hq] at HV
    clear h0 hq
    go_enter Try.func58, Try.ntmps58
    go_wp2_with fail
    refine HV.out.mono ?_
    rintro e w1 ⟨rfl, hw1⟩
    rw [hw1]
    clear hw1 w1
    go_wp2_with fail
    refine HIX.out.mono ?_
    rintro e w1 ⟨rfl, hw1⟩
    rw [hw1]
    clear hw1 w1
    go_wp2_with fail
    all_goals
      refine (HC.out _ _ _ (by first | (rw [if_pos (by first | rfl | assumption)]) | (rw [if_neg (by first | assumption | omega)]; simp [add_spot])) HLN.out.symm).mono ?_
      rintro e w2 ⟨v2, rfl, ho2, hb2⟩
      have HO2 := Lib.hid ho2
      have HB2 := Lib.hid hb2
      have HN2 := Lib.hid (HNX.out _ (H.out.step hb2))
      obtain ⟨A2, n2, c2, rfl, -⟩ := Sl.of_own ho2
      clear ho2 hb2
      go_wp2_with fail
      refine HN2.out.mono ?_
      rintro e w3 ⟨rfl, hw3⟩
      rw [hw3]
      clear hw3 w3
      go_wp2_with fail
      go_ret3
      exact ⟨_, _, _, rfl, HO2.out, HB2.out⟩
end
end Go.Proofs.Ytcnkiecdagjgmaa.R12
