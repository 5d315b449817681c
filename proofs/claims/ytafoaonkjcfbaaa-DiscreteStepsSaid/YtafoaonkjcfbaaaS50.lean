/- Walks: the reference of thresholds: Severity, lists of changes; what is reached, what is left. -/
import Derived.Test.YtafoaonkjcfbaaaS32
import Derived.Test.YtafoaonkjcfbaaaS42
import Derived.Test.YtafoaonkjcfbaaaS47
namespace Go.Proofs.Ytafoaonkjcfbaaa.Ya
open Go.RowKit Go.Proofs.Ytafoaonkjcfbaaa.Mem Go.Proofs.Ytafoaonkjcfbaaa.F2p Go.Proofs.Ytafoaonkjcfbaaa.C4l Go.Proofs.Ytafoaonkjcfbaaa.Ta Go.Proofs.Ytafoaonkjcfbaaa.Tb
set_option maxRecDepth 100000
set_option maxHeartbeats 1000000

theorem sev_bits (x : Nat) (hx : x < 256) : sev x = if x.testBit 2 || x.testBit 5 then 3 else if x.testBit 1 || x.testBit 4 then 2 else if x.testBit 0 || x.testBit 3 then 1 else 0 := by
  have : ∀ x : Fin 256, sev x.val = if x.val.testBit 2 || x.val.testBit 5 then 3 else if x.val.testBit 1 || x.val.testBit 4 then 2 else if x.val.testBit 0 || x.val.testBit 3 then 1 else 0 := by decide +kernel
  exact this ⟨x, hx⟩
def lim (s : Sn) (i : Nat) : Int := C4p.num s.c.s (s.raw.getD i 0)
def rea (s : Sn) (i : Nat) (x : Int) : Bool := if i ≤ 2 then decide (x ≤ lim s i) else decide (lim s i ≤ x)
def lea (s : Sn) (i : Nat) (x : Int) : Bool := if i ≤ 2 then decide (lim s i + (s.hl.toNat : Int) < x) else decide (x < lim s i - (s.hu.toNat : Int))
theorem lim_in (s : Sn) (i : Nat) : -128 ≤ lim s i ∧ lim s i ≤ 255 := by
  unfold lim C4p.num; have := (s.raw.getD i 0).toNat_lt; split <;> omega
/-- The reference's next state, bit by bit. -/
theorem nxt_ref {s : Sn} {x : Int} {st i : Nat} (hi : i < 6) (hm : s.mx.toNat.testBit i = true) : (nxt s x st).testBit i = (rea s i x || (st.testBit i && !lea s i x)) := by
  rw [nxt_bit _ _ _ _ hi]
  unfold rch rea lea lim
  rw [has_tb, hm, Bool.true_and, Bool.true_and]
  by_cases h : i ≤ 2
  · simp only [if_pos h]
    rw [Bool.eq_iff_iff]
    simp
  · simp only [if_neg h]
    rw [Bool.eq_iff_iff]
    simp
theorem nxt_none {s : Sn} {x : Int} {st i : Nat} (hi : i < 6) (hm : s.mx.toNat.testBit i = false) : (nxt s x st).testBit i = false := by
  rw [nxt_bit _ _ _ _ hi]
  unfold rch
  rw [has_tb, hm, Bool.false_and, Bool.false_and, Bool.and_false, Bool.or_self]
theorem wth_ref {s : Sn} {x : Int} {i : Nat} (hi : i < 6) : (wth s x 0 0).testBit i = (s.mx.toNat.testBit i && rea s i x) := by
  rw [wth_bit _ _ _ _ _ hi]
  unfold rch rea lim
  rw [has_tb]
  by_cases h : i ≤ 2
  · simp only [if_pos h]; simp
  · simp only [if_neg h]; simp
end Go.Proofs.Ytafoaonkjcfbaaa.Ya
