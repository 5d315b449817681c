/- Walks: a flash device of the reference: erasing, arming, restoring. -/
import Derived.Test.YtkmkpidoajfhmaaE5v
import Derived.Test.YtkmkpidoajfhmaaE5c
namespace Go.Proofs.Ytkmkpidoajfhmaa.E5v
open Go.RowKit Go.Proofs.Ytkmkpidoajfhmaa.Mem Go.Proofs.Ytkmkpidoajfhmaa.E5p Go.Proofs.Ytkmkpidoajfhmaa.E5m Go.Proofs.Ytkmkpidoajfhmaa.E5a
set_option maxRecDepth 100000
set_option maxHeartbeats 1000000
section
variable {base : Nat} {w : World} {d : Sh} {s : Fl}
theorem erase_r (h : RDev base w d s) {m : Nat} (ok : s.Ok m) (hm : m ≤ 900000) (k : Int) (hk1 : -9223372036854775808 ≤ k) (hk2 : k ≤ 9223372036854775807) :
    Calls Try.prog 22 #[.pointer (some ⟨d.g, 0, none⟩), .int .i64 k] w (Erred 67 base w d (s.erase k)) := by
  have c6 := h.c6
  have c2 := h.c2
  by_cases hd : s.down = true
  · rw [hd] at c6
    have hR : s.erase k = (s, 10) := by simp [Fl.erase, hd]
    rw [hR]
    go_enter Try.func22, Try.ntmps22
    go_wp2_with fail
    go_ret
    exact ⟨rfl, h, Kept.refl _ _⟩
  · replace hd : s.down = false := by simpa using hd
    rw [hd] at c6
    have hmost := ok.most
    by_cases h0 : k < 0
    · have hR : s.erase k = (s, 2) := by
        have : decide (0 ≤ k) = false := by simp; omega
        simp [Fl.erase, hd, Fl.inside, this]
      rw [hR]
      clear hR
      have g0 : decide (k < 0) = true := by simpa using h0
      go_enter Try.func22, Try.ntmps22
      go_wp2_with fail
      go_ret
      exact ⟨rfl, h, Kept.refl _ _⟩
    · have g0 : decide (k < 0) = false := by simpa using h0
      by_cases h1 : (s.wear.length : Int) ≤ k
      · have hR : s.erase k = (s, 2) := by
          have : decide (k < (s.wear.length : Int)) = false := by simp; omega
          simp [Fl.erase, hd, Fl.inside, this]
        rw [hR]
        clear hR
        have g1 : decide ((s.wear.length : Int) ≤ k) = true := by simpa using h1
        go_enter Try.func22, Try.ntmps22
        go_wp2_with fail
        go_ret
        exact ⟨rfl, h, Kept.refl _ _⟩
      · obtain ⟨K, rfl⟩ := Int.eq_ofNat_of_zero_le (by omega : 0 ≤ k)
        have hK : K < s.wear.length := by omega
        have hR : s.erase (K : Int) = (s.clear K, if s.last then 10 else 0) := by
          have : decide ((K : Int) < (s.wear.length : Int)) = true := by simpa using hK
          simp [Fl.erase, hd, Fl.inside, hK]
        obtain ⟨R, hR'⟩ : ∃ R, R = s.erase (K : Int) := ⟨_, rfl⟩
        rw [← hR']
        have HR := Lib.hid (hR'.trans hR)
        have hsd := Lib.hid hd
        clear hR hR' hd
        have hlo : (K + 1) * s.size ≤ s.bytes.length := by rw [ok.len]; exact Nat.mul_le_mul_right _ hK
        have hlb := ok.bytes_le
        have hs1 := ok.size1
        have hs2 := ok.size2
        have heq : (K + 1) * s.size = K * s.size + s.size := Nat.succ_mul _ _
        obtain ⟨lo, hlo'⟩ : ∃ lo, lo = K * s.size := ⟨_, rfl⟩
        rw [← hlo'] at heq
        have hwr1 : IntKind.i64.wrap ((K : Int) * (s.size : Int)) = (lo : Int) := by
          rw [hlo']; push_cast; exact IntWalk.i64_in _ (by have : ((K * s.size : Nat) : Int) = (K : Int) * (s.size : Int) := by push_cast; rfl
                                                           omega)
        have hwr2 : IntKind.i64.wrap (((K : Int) + 1) * (s.size : Int)) = ((lo + s.size : Nat) : Int) := by
          rw [← heq]; push_cast; exact IntWalk.i64_in _ (by have : (((K + 1) * s.size : Nat) : Int) = ((K : Int) + 1) * (s.size : Int) := by push_cast; rfl
                                                            omega)
        have hwr3 : IntKind.i64.wrap ((K : Int) + 1) = (K : Int) + 1 := IntWalk.i64_in _ (by omega)
        have HLO := Lib.hid hlo'
        have HEQ := Lib.hid heq
        rw [heq] at hlo
        clear heq hlo'
        have c0 := h.c0; have c1 := h.c1
        have hcb := h.sl.cap
        have g1 : decide ((s.wear.length : Int) ≤ (K : Int)) = false := by simp; omega
        have b1 : (0 : Int) ≤ (lo : Int) := by omega
        have b2 : (lo : Int) ≤ ((lo + s.size : Nat) : Int) := by omega
        have b3 : ((lo + s.size : Nat) : Int) ≤ (d.cb : Int) := by omega
        have b4 : (0 : Int) ≤ (K : Int) := by omega
        have b5 : (K : Int) < (s.wear.length : Int) := by omega
        have hwc := iown_cell h.wear rfl hK
        have hwf := iown_frozen h.wear rfl K
        have hwb := ok.wear _ (List.getElem_mem hK)
        have hsteps := ok.steps
        go_enter Try.func22, Try.ntmps22
        go_wp2_with fail
        have hq : RDev base w d s := h
        have hst := iown_store hq.wear rfl K (s.wear[K] + 1)
        have hdev := hq.wear_ (l := s.wear.set K (s.wear[K] + 1)) (by simp) (by simpa using hst.1) hst.2
        have hk := Kept.grown (d := d) hst.2 (.inr (.inr rfl))
        generalize w.setCell ⟨d.gw, K, none⟩ (.int .i64 (s.wear[K] + 1)) = w1 at *
        clear c0 c1 c2 c6 hwc hwf hst hq
        refine (fails_r hdev hsd.out ok.left (by show s.steps ≤ _; omega)).mono ?_
        rintro e w2 ⟨rfl, hdev2, hk2⟩
        have hlast : ({ s with wear := s.wear.set K (s.wear[K] + 1) } : Fl).last = s.last := rfl
        rw [hlast]
        clear hlast
        have hfin : ∀ (m : UInt8) (w3 : World), s.bits = m → RDev base w3 d { (({ s with wear := s.wear.set K (s.wear[K] + 1) } : Fl).step) with bytes := orAt s.bytes lo s.size m } → Kept d w2 w3 → RDev base w3 d (s.clear K) ∧ Kept d w w3 := by
          intro m w3 hm ho hg
          refine ⟨?_, (hk.trans hk2).trans hg⟩
          have he : ({ (({ s with wear := s.wear.set K (s.wear[K] + 1) } : Fl).step) with bytes := orAt s.bytes lo s.size m } : Fl) = s.clear K := by
            unfold Fl.clear
            rw [hm, ← HLO.out, List.getD_eq_getElem?_getD, List.getElem?_eq_getElem hK]
            rfl
          rwa [he] at ho
        have HF := Lib.hid hfin; clear hfin
        have hc0 := hdev2.c0
        change w2.cell? ⟨d.g, 0, none⟩ = some (.int .i64 (s.size : Int)) at hc0
        cases hls : s.last
        · have hbit : s.bits = 255 := by simp [Fl.bits, hls]
          have HB := Lib.hid hbit; have HL := Lib.hid hls; clear hbit hls
          go_wp2_with fail
          go_loopw [6] (fun i wr => ∃ j : Nat, j ≤ s.size ∧ i = .int .i64 ((lo + j : Nat) : Int) ∧ RDev base wr d { (({ s with wear := s.wear.set K (s.wear[K] + 1) } : Fl).step) with bytes := orAt s.bytes lo j 255 } ∧ Kept d w2 wr) (fun i _ => lo + s.size - (intOf i).toNat)
          case atStart => exact ⟨0, Nat.zero_le _, rfl, by rw [orAt_none]; exact hdev2, Kept.refl _ _⟩
          case round =>
            obtain ⟨j, hj, rfl, hdv, hkv⟩ := hrel
            have k0 := hdv.c0; have k1 := hdv.c1; have k5 := hdv.c5
            change wr.cell? ⟨d.g, 0, none⟩ = some (.int .i64 (s.size : Int)) at k0
            change wr.cell? ⟨d.g, 1, none⟩ = some (.slice (some ⟨d.gb, 0, none⟩) (orAt s.bytes lo j 255).length d.cb) at k1
            change wr.cell? ⟨d.g, 5, none⟩ = some (.int .u8 (s.torn.toNat : Int)) at k5
            rw [orAt_len] at k1
            by_cases hlt : j < s.size
            · have hi : lo + j < (orAt s.bytes lo j 255).length := by simp; omega
              have hby := hdv.bytes
              change Own base wr (.slice (some ⟨d.gb, 0, none⟩) (orAt s.bytes lo j 255).length d.cb) (orAt s.bytes lo j 255) at hby
              rw [orAt_len] at hby
              have hcell := own_cell hby (by simp) hi
              have hfz := own_frozen hby (by simp) (lo + j)
              have hst := own_store hby (by simp) (lo + j) ((orAt s.bytes lo j 255)[lo + j] ||| 255)
              rw [orAt_here s.bytes lo j 255 (by omega) hi, orAt_snoc s.bytes lo j 255 (by omega)] at hst
              rw [orAt_here s.bytes lo j 255 (by omega) hi] at hcell
              have u1 : (0 : Int) ≤ (lo : Int) + (j : Int) := by omega
              have u2 : (lo : Int) + (j : Int) < (s.bytes.length : Int) := by omega
              have u3 : (lo : Int) + (j : Int) < ((lo + s.size : Nat) : Int) := by omega
              have u4 : (lo : Int) + (j : Int) < (lo : Int) + (s.size : Int) := by omega
              have u5 : ((lo : Int) + (j : Int)).toNat = lo + j := by omega
              clear hi
              go_wp2_with fail
              rw [or_255] at hst
              all_goals
                have hD := hdv.bytes_ (l := orAt s.bytes lo (j + 1) 255) (by show (orAt s.bytes lo (j + 1) 255).length = (orAt s.bytes lo j 255).length; simp) (by simpa using hst.1) hst.2
                exact ⟨⟨j + 1, by omega, vi (by push_cast; omega), hD, hkv.trans (Kept.grown hst.2 (.inr (.inl rfl)))⟩, by simp [intOf]; omega⟩
            · obtain rfl : j = s.size := by omega
              have u3 : ¬ ((lo : Int) + (s.size : Int) < ((lo + s.size : Nat) : Int)) := by omega
              go_wp2_with fail
              go_ret
              rw [HR.out, HL.out]
              obtain ⟨r1, r2⟩ := HF.out 255 wr HB.out hdv hkv
              exact ⟨rfl, r1, r2⟩
        · have hbit : s.bits = s.torn := by simp [Fl.bits, hls]
          have HB := Lib.hid hbit; have HL := Lib.hid hls; clear hbit hls
          go_wp2_with fail
          go_loopw [5] (fun i wr => ∃ j : Nat, j ≤ s.size ∧ i = .int .i64 ((lo + j : Nat) : Int) ∧ RDev base wr d { (({ s with wear := s.wear.set K (s.wear[K] + 1) } : Fl).step) with bytes := orAt s.bytes lo j s.torn } ∧ Kept d w2 wr) (fun i _ => lo + s.size - (intOf i).toNat)
          case atStart => exact ⟨0, Nat.zero_le _, rfl, by rw [orAt_none]; exact hdev2, Kept.refl _ _⟩
          case round =>
            obtain ⟨j, hj, rfl, hdv, hkv⟩ := hrel
            have k0 := hdv.c0; have k1 := hdv.c1; have k5 := hdv.c5
            change wr.cell? ⟨d.g, 0, none⟩ = some (.int .i64 (s.size : Int)) at k0
            change wr.cell? ⟨d.g, 1, none⟩ = some (.slice (some ⟨d.gb, 0, none⟩) (orAt s.bytes lo j s.torn).length d.cb) at k1
            change wr.cell? ⟨d.g, 5, none⟩ = some (.int .u8 (s.torn.toNat : Int)) at k5
            rw [orAt_len] at k1
            by_cases hlt : j < s.size
            · have hi : lo + j < (orAt s.bytes lo j s.torn).length := by simp; omega
              have hby := hdv.bytes
              change Own base wr (.slice (some ⟨d.gb, 0, none⟩) (orAt s.bytes lo j s.torn).length d.cb) (orAt s.bytes lo j s.torn) at hby
              rw [orAt_len] at hby
              have hcell := own_cell hby (by simp) hi
              have hfz := own_frozen hby (by simp) (lo + j)
              have hst := own_store hby (by simp) (lo + j) ((orAt s.bytes lo j s.torn)[lo + j] ||| s.torn)
              rw [orAt_here s.bytes lo j s.torn (by omega) hi, orAt_snoc s.bytes lo j s.torn (by omega)] at hst
              rw [orAt_here s.bytes lo j s.torn (by omega) hi] at hcell
              have u1 : (0 : Int) ≤ (lo : Int) + (j : Int) := by omega
              have u2 : (lo : Int) + (j : Int) < (s.bytes.length : Int) := by omega
              have u3 : (lo : Int) + (j : Int) < ((lo + s.size : Nat) : Int) := by omega
              have u4 : (lo : Int) + (j : Int) < (lo : Int) + (s.size : Int) := by omega
              have u5 : ((lo : Int) + (j : Int)).toNat = lo + j := by omega
              clear hi
              go_wp2_with fail
              go_region
              all_goals (go_wp2_with fail)
              all_goals rw [bv_or]
              all_goals
                have hD := hdv.bytes_ (l := orAt s.bytes lo (j + 1) s.torn) (by show (orAt s.bytes lo (j + 1) s.torn).length = (orAt s.bytes lo j s.torn).length; simp) (by simpa using hst.1) hst.2
                exact ⟨⟨j + 1, by omega, vi (by push_cast; omega), hD.drewN 1, (hkv.trans (Kept.grown hst.2 (.inr (.inl rfl)))).drewN 1⟩, by simp [intOf]; omega⟩
            · obtain rfl : j = s.size := by omega
              have u3 : ¬ ((lo : Int) + (s.size : Int) < ((lo + s.size : Nat) : Int)) := by omega
              go_wp2_with fail
              go_ret
              rw [HR.out, HL.out]
              obtain ⟨r1, r2⟩ := HF.out s.torn wr HB.out hdv hkv
              exact ⟨rfl, r1, r2⟩
theorem arm_r (h : RDev base w d s) (k : Int) (t : UInt8) (hk1 : -9223372036854775808 ≤ k) (hk2 : k ≤ 9223372036854775807) :
    Calls Try.prog 27 #[.pointer (some ⟨d.g, 0, none⟩), .int .i64 k, .int .u8 (t.toNat : Int)] w (Done 67 base w d (s.arm k t)) := by
  have c6 := h.c6
  have f4 := h.fz 4
  have f5 := h.fz 5
  have c4 := h.c4
  have c5 := h.c5
  by_cases hd : s.down = true
  · rw [hd] at c6
    have hR : s.arm k t = s := by simp [Fl.arm, hd]
    rw [hR]
    go_enter Try.func27, Try.ntmps27
    go_wp2_with fail
    go_end0
    exact ⟨rfl, h, Kept.refl _ _⟩
  · replace hd : s.down = false := by simpa using hd
    rw [hd] at c6
    have hR : s.arm k t = { s with left := k.toNat, torn := t } := by simp [Fl.arm, hd]
    rw [hR]
    clear hR hd
    by_cases h0 : 0 ≤ k
    · obtain ⟨K, rfl⟩ := Int.eq_ofNat_of_zero_le h0
      go_enter Try.func27, Try.ntmps27
      go_wp2_with fail
      go_end0
      exact ⟨rfl, (h.put4 K).put5 t, (Kept.put d w 4 _).trans (Kept.put d _ 5 _)⟩
    · have e0 : k.toNat = 0 := by omega
      rw [e0]
      clear e0
      go_enter Try.func27, Try.ntmps27
      go_wp2_with fail
      go_end0
      exact ⟨rfl, (h.put4 0).put5 t, (Kept.put d w 4 _).trans (Kept.put d _ 5 _)⟩
theorem restore_r (h : RDev base w d s) :
    Calls Try.prog 29 #[.pointer (some ⟨d.g, 0, none⟩)] w (Done 67 base w d s.restore) := by
  have f4 := h.fz 4
  have f6 := h.fz 6
  have c4 := h.c4
  have c6 := h.c6
  go_enter Try.func29, Try.ntmps29
  go_wp2_with fail
  go_end0
  exact ⟨rfl, (h.put6 false).put4 0, (Kept.put d w 6 _).trans (Kept.put d _ 4 _)⟩
end
end Go.Proofs.Ytkmkpidoajfhmaa.E5v
