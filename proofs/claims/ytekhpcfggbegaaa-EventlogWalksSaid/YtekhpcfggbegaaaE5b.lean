/- Walks: a flash device of the program: erasing, arming, restoring, reading. -/
import Derived.Test.YtekhpcfggbegaaaE5a
namespace Go.Proofs.Ytekhpcfggbegaaa.E5a
open Go.RowKit Go.Proofs.Ytekhpcfggbegaaa.Mem Go.Proofs.Ytekhpcfggbegaaa.E5p Go.Proofs.Ytekhpcfggbegaaa.E5m
set_option maxRecDepth 100000
set_option maxHeartbeats 400000
section
variable {base : Nat} {w : World} {d : Sh} {s : Fl}
theorem erase_p (h : PDev base w d s) {m : Nat} (ok : s.Ok m) (hm : m ≤ 900000) (k : Int) (hk1 : -9223372036854775808 ≤ k) (hk2 : k ≤ 9223372036854775807) :
    Calls Try.prog 192 #[.pointer (some ⟨d.g, 0, none⟩), .int .i64 k] w (Erred 154 base w d (s.erase k)) := by
  have c6 := h.c6
  have c2 := h.c2
  by_cases hd : s.down = true
  · rw [hd] at c6
    have hR : s.erase k = (s, 10) := by simp [Fl.erase, hd]
    rw [hR]
    go_enter Try.func192, Try.ntmps192
    go_wp2_with fail
    go_ret
    exact ⟨rfl, h, Kept.refl _ _⟩
  · replace hd : s.down = false := by simpa using hd
    rw [hd] at c6
    have hmost := ok.most
    by_cases h0 : k < 0
    · have hR : s.erase k = (s, 2) := by
        have : decide (0 ≤ k) = false := by simp; omega
        simp [Fl.erase, hd, Fl.inside, this]
      rw [hR]
      clear hR
      have g0 : decide (k < 0) = true := by simpa using h0
      go_enter Try.func192, Try.ntmps192
      go_wp2_with fail
      go_ret
      exact ⟨rfl, h, Kept.refl _ _⟩
    · have g0 : decide (k < 0) = false := by simpa using h0
      by_cases h1 : (s.wear.length : Int) ≤ k
      · have hR : s.erase k = (s, 2) := by
          have : decide (k < (s.wear.length : Int)) = false := by simp; omega
          simp [Fl.erase, hd, Fl.inside, this]
        rw [hR]
        clear hR
        have g1 : decide ((s.wear.length : Int) ≤ k) = true := by simpa using h1
        go_enter Try.func192, Try.ntmps192
        go_wp2_with fail
        go_ret
        exact ⟨rfl, h, Kept.refl _ _⟩
      · obtain ⟨K, rfl⟩ := Int.eq_ofNat_of_zero_le (by omega : 0 ≤ k)
        have hK : K < s.wear.length := by omega
        have hR : s.erase (K : Int) = (s.clear K, if s.last then 10 else 0) := by
          have : decide ((K : Int) < (s.wear.length : Int)) = true := by simpa using hK
          simp [Fl.erase, hd, Fl.inside, hK]
        obtain ⟨R, hR'⟩ : ∃ R, R = s.erase (K : Int) := ⟨_, rfl⟩
        rw [← hR']
        have HR := Lib.hid (hR'.trans hR)
        have hsd := Lib.hid hd
        clear hR hR' hd
        have hlo : (K + 1) * s.size ≤ s.bytes.length := by rw [ok.len]; exact Nat.mul_le_mul_right _ hK
        have hlb := ok.bytes_le
        have hs1 := ok.size1
        have hs2 := ok.size2
        have heq : (K + 1) * s.size = K * s.size + s.size := Nat.succ_mul _ _
        obtain ⟨lo, hlo'⟩ : ∃ lo, lo = K * s.size := ⟨_, rfl⟩
        rw [← hlo'] at heq
        have hwr1 : IntKind.i64.wrap ((K : Int) * (s.size : Int)) = (lo : Int) := by
          rw [hlo']; push_cast; exact IntWalk.i64_in _ (by have : ((K * s.size : Nat) : Int) = (K : Int) * (s.size : Int) := by push_cast; rfl
                                                           omega)
        have hwr2 : IntKind.i64.wrap (((K : Int) + 1) * (s.size : Int)) = ((lo + s.size : Nat) : Int) := by
          rw [← heq]; push_cast; exact IntWalk.i64_in _ (by have : (((K + 1) * s.size : Nat) : Int) = ((K : Int) + 1) * (s.size : Int) := by push_cast; rfl
                                                            omega)
        have hwr3 : IntKind.i64.wrap ((K : Int) + 1) = (K : Int) + 1 := IntWalk.i64_in _ (by omega)
        have HLO := Lib.hid hlo'
        have HEQ := Lib.hid heq
        rw [heq] at hlo
        clear heq hlo'
        have c0 := h.c0; have c1 := h.c1
        have hcb := h.sl.cap
        have g1 : decide ((s.wear.length : Int) ≤ (K : Int)) = false := by simp; omega
        have b1 : (0 : Int) ≤ (lo : Int) := by omega
        have b2 : (lo : Int) ≤ ((lo + s.size : Nat) : Int) := by omega
        have b3 : ((lo + s.size : Nat) : Int) ≤ (d.cb : Int) := by omega
        have b4 : (0 : Int) ≤ (K : Int) := by omega
        have b5 : (K : Int) < (s.wear.length : Int) := by omega
        have hwc := iown_cell h.wear rfl hK
        have hwf := iown_frozen h.wear rfl K
        have hwb := ok.wear _ (List.getElem_mem hK)
        have hsteps := ok.steps
        go_enter Try.func192, Try.ntmps192
        go_wp2_with fail
        go_quiet (fail)
        go_wp2_with fail
        have hq : PDev base (w.drewN nq) d s := h.drewN nq
        have hst := iown_store hq.wear rfl K (s.wear[K] + 1)
        have hdev := hq.wear_ (l := s.wear.set K (s.wear[K] + 1)) (by simp) (by simpa using hst.1) hst.2
        have hk := ((Kept.refl d w).drewN nq).trans (Kept.grown hst.2 (.inr (.inr rfl)))
        generalize (w.drewN nq).setCell ⟨d.gw, K, none⟩ (.int .i64 (s.wear[K] + 1)) = w1 at *
        clear c0 c1 c2 c6 hwc hwf hst hq
        refine (fails_p hdev hsd.out ok.left (by show s.steps ≤ _; omega)).mono ?_
        rintro e w2 ⟨rfl, hdev2, hk2⟩
        have hlast : ({ s with wear := s.wear.set K (s.wear[K] + 1) } : Fl).last = s.last := rfl
        rw [hlast]
        have hbytes := hdev2.bytes
        clear hlast
        have hfin : ∀ (m : UInt8) (w3 : World), s.bits = m → Own base w3 (.slice (some ⟨d.gb, 0, none⟩) s.bytes.length d.cb) (orAt s.bytes lo s.size m) → w2.grownBy w3 (some d.gb) → PDev base w3 d (s.clear K) ∧ Kept d w w3 := by
          intro m w3 hm ho hg
          refine ⟨?_, (hk.trans hk2).trans (Kept.grown hg (.inr (.inl rfl)))⟩
          have := hdev2.bytes_ (l := orAt s.bytes lo s.size m) (by simp [Fl.step]) (by simpa using ho) hg
          have he : ({ ({ s with wear := s.wear.set K (s.wear[K] + 1) } : Fl).step with bytes := orAt s.bytes lo s.size m } : Fl) = s.clear K := by
            unfold Fl.clear
            rw [hm, ← HLO.out, List.getD_eq_getElem?_getD, List.getElem?_eq_getElem hK]
            rfl
          rwa [he] at this
        have HF := Lib.hid hfin; clear hfin
        have hc5 := hdev2.c5
        change w2.cell? ⟨d.g, 5, none⟩ = some (.int .u8 (s.torn.toNat : Int)) at hc5
        cases hls : s.last
        · have hbit : s.bits = 255 := by simp [Fl.bits, hls]
          have HB := Lib.hid hbit; have HL := Lib.hid hls; clear hbit hls
          go_wp2_with fail
          refine (set_p d.gb lo s.size (d.cb - lo) d.cb base 255 s.bytes w2 hbytes hlo (by omega)).mono ?_
          rintro e w3 ⟨rfl, ho, hg⟩
          go_wp2_with fail
          go_ret
          rw [HR.out, HL.out]
          obtain ⟨r1, r2⟩ := HF.out 255 w3 HB.out ho hg
          exact ⟨rfl, r1, r2⟩
        · have hbit : s.bits = s.torn := by simp [Fl.bits, hls]
          have HB := Lib.hid hbit; have HL := Lib.hid hls; clear hbit hls
          go_wp2_with fail
          refine (set_p d.gb lo s.size (d.cb - lo) d.cb base s.torn s.bytes w2 hbytes hlo (by omega)).mono ?_
          rintro e w3 ⟨rfl, ho, hg⟩
          go_wp2_with fail
          go_ret
          rw [HR.out, HL.out]
          obtain ⟨r1, r2⟩ := HF.out s.torn w3 HB.out ho hg
          exact ⟨rfl, r1, r2⟩
/-- What a call leaves that returns nothing. -/
def Done (T : TypeId) (base : Nat) (w : World) (d : Sh) (s' : Fl) (e : Ending) (w' : World) : Prop := e = .returned (.tuple #[]) ∧ Dev T base w' d s' ∧ Kept d w w'
theorem down_p (h : PDev base w d s) : Calls Try.prog 146 #[.pointer (some ⟨d.g, 0, none⟩)] w fun e w' => e = .returned (.bool s.down) ∧ w = w' := by
  have c := h.c6
  go_enter Try.func146, Try.ntmps146
  go_wp2_with fail
  go_ret
  exact ⟨rfl, rfl⟩
theorem size_p (h : PDev base w d s) : Calls Try.prog 109 #[.pointer (some ⟨d.g, 0, none⟩)] w fun e w' => e = .returned (.int .i64 (s.size : Int)) ∧ w = w' := by
  have c := h.c0
  go_enter Try.func109, Try.ntmps109
  go_wp2_with fail
  go_ret
  exact ⟨rfl, rfl⟩
theorem sectors_p (h : PDev base w d s) : Calls Try.prog 108 #[.pointer (some ⟨d.g, 0, none⟩)] w fun e w' => e = .returned (.int .i64 (s.wear.length : Int)) ∧ w = w' := by
  have c := h.c2
  go_enter Try.func108, Try.ntmps108
  go_wp2_with fail
  go_ret
  exact ⟨rfl, rfl⟩
theorem clone_any (A : Option Addr) (m c : Nat) (l : List UInt8) (w : World) (hm : m = l.length) (h : Row w.heap.size w A l) (hl : m ≤ 4611686018427387904) (hb : m ≤ 140737488355328) :
    Calls Try.prog 57 #[.slice A m c] w fun e w' => ∃ v, e = .returned v ∧ Own w.heap.size w' v l ∧ Below w.heap.size w w' := by
  subst hm
  obtain ⟨i0, hi, hz0, hz1, hz2⟩ := info_parts info5
  have hnil := fun w => Lib.run_eql_slice_nil (P := Try.prog) w 33 5 A l.length c 0 0 Try.underlying33
  rcases A with _ | a
  · go_enter Try.func57, Try.ntmps57
    go_wp2
    go_ret
    have hl0 := h.empty
    subst hl0
    exact ⟨_, rfl, Own.nil, Below.refl _ _⟩
  · go_enter Try.func57, Try.ntmps57
    go_wp2_with (at_builtin; (refine wpList_append_rd _ rfl (.tmp 5) (.tmp 6) _ rfl w.heap.size 5 i0 _ 1 Try.underlying33 hi hz0 hz1 hz2 rfl _ 0 [] rfl (World.ownsRow_lit w #[] 0 (Nat.le_refl _) (by unfold maxLen; omega) (by simp)) w.heap.size (some a) l.length c (bvs l) rfl (len_bvs l) (Rd.alloc h (Nat.le_refl _) _) (fun hh => by cases hh) (bvs_one l) (by unfold maxLen; omega) (by omega) (by simp) ?_); intro v' w1 hown1 hg1)
    go_ret
    exact ⟨_, rfl, own_of hown1 (by simp) (by simp), ((Below.refl _ _).alloc (Nat.le_refl _) _).grown hg1 (by simp) (fun k hk => by cases hk; exact Nat.le_refl _)⟩
theorem infoI : (Try.prog.info? 3).map (fun i => (i.zero, i.size, i.bytes)) = some (some (.int .i64 0), 1, 8) := by kernel_rfl
theorem ivs_one (l : List Int) : ∀ u ∈ ivs l, u.oneCell' = true := by
  intro u hu
  obtain ⟨x, _, rfl⟩ := List.mem_map.1 hu
  rfl
end
end Go.Proofs.Ytekhpcfggbegaaa.E5a
