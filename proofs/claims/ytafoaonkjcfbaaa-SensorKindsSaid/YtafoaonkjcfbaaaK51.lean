/- Records of one kind, changed: which are valid. -/
import Derived.Test.YtafoaonkjcfbaaaK09
namespace Go.Proofs.Ytafoaonkjcfbaaa.Ta
open Go.RowKit Go.Proofs.Ytafoaonkjcfbaaa.Mem Go.Proofs.Ytafoaonkjcfbaaa.F2p
set_option maxRecDepth 100000

theorem andn_or (x y m : Nat) : andn (x ||| y) m = andn x m ||| andn y m := by
  unfold andn
  rw [← BitVec.toNat_or]
  congr 1
  ext i hi
  simp [Bool.and_or_distrib_right]
theorem inm_or (x y m : Nat) : inm (x ||| y) m = (inm x m && inm y m) := by
  unfold inm
  rw [andn_or, Bool.eq_iff_iff]
  simp
theorem inm_two (j st : Nat) (hj : j < 16) : inm (2 ^ j) st = st.testBit j := by
  unfold inm andn
  rw [Bool.eq_iff_iff, decide_eq_true_eq]
  have key : ∀ i, (BitVec.ofNat 16 (2 ^ j) &&& ~~~BitVec.ofNat 16 st).toNat.testBit i = (decide (i < 16) && (decide (i = j) && !st.testBit i)) := by
    intro i
    rw [BitVec.testBit_toNat, BitVec.getLsbD_and, BitVec.getLsbD_not, BitVec.getLsbD_ofNat, BitVec.getLsbD_ofNat, Nat.testBit_two_pow]
    by_cases h1 : i < 16
    · by_cases h2 : j = i
      · subst h2
        simp [h1]
      · simp [h1, h2, Ne.symm h2]
    · simp [h1]
  constructor
  · intro h
    have h2 := key j
    rw [h] at h2
    simp [hj] at h2
    exact h2
  · intro h
    apply Nat.eq_of_testBit_eq
    intro i
    rw [key i]
    by_cases e : i = j
    · subst e
      simp [h]
    · simp [e]
theorem vld_form {c : C4p.Cv} (h : C4p.vld c = true) : c.f ≠ 0 := by
  intro e
  unfold C4p.vld at h
  simp [e] at h
theorem nocv_form {c : C4p.Cv} (h : nocv c = true) : c.f = 0 := by
  unfold nocv at h
  simp at h
  exact h.1
theorem ana_turned {s : Sn} (hv : vs s = true) (hd : s.d = false) : vs { s with d := true } = false := by
  unfold vs at hv ⊢
  rw [if_neg (by rw [hd]; decide)] at hv
  rw [if_pos rfl]
  simp only [Bool.and_eq_true] at hv
  have h1 : C4p.vld s.c = true := by
    have := hv.2.2
    unfold ana at this
    simp only [Bool.and_eq_true] at this
    exact this.1
  have h2 : nocv s.c = false := by
    cases hn : nocv s.c
    · rfl
    · exact absurd (nocv_form hn) (vld_form h1)
  show (okn (bl s.nm) && (wid s.sm && dsc { s with d := true })) = false
  have h3 : dsc { s with d := true } = false := by
    unfold dsc
    show (nocv s.c && _) = false
    rw [h2]
    rfl
  rw [h3]
  simp
theorem dig_turned {s : Sn} (hv : vs s = true) (hd : s.d = true) : vs { s with d := false } = false := by
  unfold vs at hv ⊢
  rw [if_pos hd] at hv
  rw [if_neg (by show ¬ false = true; decide)]
  simp only [Bool.and_eq_true] at hv
  have h1 : nocv s.c = true := by
    have := hv.2.2
    unfold dsc at this
    simp only [Bool.and_eq_true] at this
    exact this.1
  have h2 : C4p.vld s.c = false := by
    cases hn : C4p.vld s.c
    · rfl
    · exact absurd (nocv_form h1) (vld_form hn)
  show (okn (bl s.nm) && (wid s.sm && ana { s with d := false })) = false
  have h3 : ana { s with d := false } = false := by
    unfold ana
    show (C4p.vld s.c && _) = false
    rw [h2]
    rfl
  rw [h3]
  simp
theorem ana_mask {s : Sn} (hv : vs s = true) (hd : s.d = false) : s.mx.toNat ≤ 63 := by
  unfold vs at hv
  rw [if_neg (by rw [hd]; decide)] at hv
  unfold ana lims at hv
  simp only [Bool.and_eq_true, decide_eq_true_eq] at hv
  exact hv.2.2.2.1.1
theorem dig_states {s : Sn} (hv : vs s = true) (hd : s.d = true) : s.st ≤ 32767 := by
  unfold vs at hv
  rw [if_pos hd] at hv
  unfold dsc at hv
  simp only [Bool.and_eq_true, decide_eq_true_eq] at hv
  exact hv.2.2.2.2.2.2.2.1
theorem ana_assert {s : Sn} (hv : vs s = true) (hd : s.d = false) : vs { s with av := s.av ||| 64 } = false := by
  have hm := ana_mask hv hd
  have h1 : inm (s.av ||| 64) s.mx.toNat = false := by
    rw [inm_or, show (64 : Nat) = 2 ^ 6 from rfl, inm_two 6 _ (by omega), Nat.testBit_lt_two_pow (by omega), Bool.and_false]
  unfold vs ana
  show (okn (bl s.nm) && (wid s.sm && (if s.d = true then _ else C4p.vld s.c && (lims s.c.s s.mx.toNat s.raw && (decide (s.st = 0) && (inm (s.av ||| 64) s.mx.toNat && inm s.dv s.mx.toNat)))))) = false
  rw [if_neg (by rw [hd]; decide), h1]
  simp
theorem dig_deassert {s : Sn} (hv : vs s = true) (hd : s.d = true) : vs { s with dv := s.dv ||| 32768 } = false := by
  have hm := dig_states hv hd
  have h1 : inm (s.dv ||| 32768) s.st = false := by
    rw [inm_or, show (32768 : Nat) = 2 ^ 15 from rfl, inm_two 15 _ (by omega), Nat.testBit_lt_two_pow (by omega), Bool.and_false]
  unfold vs dsc
  show (okn (bl s.nm) && (wid s.sm && (if s.d = true then nocv s.c && (nolim s.mx s.r0 s.r1 s.r2 s.r3 s.r4 s.r5 && (decide (s.hl = 0) && (decide (s.hu = 0) && (decide (s.sm = 1) && (decide (s.st ≤ 32767) && (inm s.av s.st && inm (s.dv ||| 32768) s.st)))))) else _))) = false
  rw [if_pos hd, h1]
  simp
theorem dig_assert {s : Sn} (hv : vs s = true) (hd : s.d = true) (j : Nat) (hj : j < 15) : vs { s with av := s.av ||| 2 ^ j } = s.st.testBit j := by
  unfold vs dsc at hv ⊢
  rw [if_pos hd] at hv
  rw [if_pos (by exact hd)]
  simp only [Bool.and_eq_true] at hv
  obtain ⟨h1, h2, h3, h4, h5, h6, h7, h8, h9, h10⟩ := hv
  show (okn (bl s.nm) && (wid s.sm && (nocv s.c && (nolim s.mx s.r0 s.r1 s.r2 s.r3 s.r4 s.r5 && (decide (s.hl = 0) && (decide (s.hu = 0) && (decide (s.sm = 1) && (decide (s.st ≤ 32767) && (inm (s.av ||| 2 ^ j) s.st && inm s.dv s.st))))))))) = _
  rw [h1, h2, h3, h4, h5, h6, h7, h8, h10, inm_or, h9, inm_two j _ (by omega)]
  simp
theorem ana_named {s : Sn} (hv : vs s = true) (nm : ByteArray) : vs { s with nm := nm } = okn (bl nm) := by
  unfold vs at hv ⊢
  simp only [Bool.and_eq_true] at hv
  obtain ⟨h1, h2, h3⟩ := hv
  show (okn (bl nm) && (wid s.sm && (if s.d = true then dsc s else ana s))) = _
  rw [h2, h3]
  simp
theorem and_two (st j : Nat) : (st &&& 2 ^ j ≠ 0) ↔ st.testBit j = true := by
  constructor
  · intro h
    cases hb : st.testBit j
    · refine absurd (Nat.eq_of_testBit_eq fun i => ?_) h
      rw [Nat.testBit_and, Nat.testBit_two_pow, Nat.zero_testBit]
      by_cases e : j = i
      · subst e
        simp [hb]
      · simp [e]
    · rfl
  · intro h e
    have h2 := congrArg (fun x => x.testBit j) e
    simp [h, Nat.testBit_and] at h2
end Go.Proofs.Ytafoaonkjcfbaaa.Ta
