/- Walks: the program's conversions: the direction of the values. -/
import Derived.Test.YtfnocgkhhbpiiaaP4g
import Derived.Test.YtfnocgkhhbpiiaaC5b
namespace Go.Proofs.Ytfnocgkhhbpiiaa.P4
open Go.RowKit Go.Shelf Go.Proofs.Ytfnocgkhhbpiiaa.Mem Go.Proofs.Ytfnocgkhhbpiiaa.M3p Go.Proofs.Ytfnocgkhhbpiiaa.C4p Go.Proofs.Ytfnocgkhhbpiiaa.C4l Go.Proofs.Ytfnocgkhhbpiiaa.C4v
set_option maxRecDepth 100000
set_option maxHeartbeats 4000000
attribute [local go_sem] Oper.semAt_some

def dstep (D : Ds) (x : UInt8 × Int) : Ds := ⟨true, clp x.2, D.rise || (D.seen && decide (D.last < clp x.2)), D.fall || (D.seen && decide (clp x.2 < D.last))⟩
def dlist (l : List (UInt8 × Int)) : Ds := l.foldl dstep ⟨false, 0, false, false⟩
theorem dlist_snoc (pre : List (UInt8 × Int)) (x : UInt8 × Int) : dlist (pre ++ [x]) = dstep (dlist pre) x := by
  unfold dlist
  rw [List.foldl_append]
  rfl
theorem dlist_is {c : Cv} (hc : vld c = true) (n : Nat) : dlist (vseq c n) = dfold c n := by
  induction n with
  | zero => rfl
  | succ n ih =>
    have hx : clp (ord c n).1 = (ord c n).1 := by
      have := valv_in hc (least c.s + n)
      exact clp_in this.1 this.2
    rw [vseq, dfold]
    by_cases h : (ord c n).2 = 0
    · rw [if_pos h, if_neg (by rw [h]; simp), dlist_snoc, ih]
      unfold dstep
      dsimp only
      rw [hx]
    · rw [if_neg h, if_pos h]
      exact ih
theorem four {u : World} {n₀ p : Nat} {x y z t x' y' z' t' : Value} (h0 : Bx u p x) (h1 : Bx u (p + 1) y) (h2 : Bx u (p + 1 + 1) z) (h3 : Bx u (p + 1 + 1 + 1) t) (hn : n₀ ≤ p) :
    KeepsOthers u ((((u.setCell ⟨p + 1 + 1, 0, none⟩ z').setCell ⟨p + 1 + 1 + 1, 0, none⟩ t').setCell ⟨p, 0, none⟩ x').setCell ⟨p + 1, 0, none⟩ y') ∧ Kp n₀ (p + 4) u ((((u.setCell ⟨p + 1 + 1, 0, none⟩ z').setCell ⟨p + 1 + 1 + 1, 0, none⟩ t').setCell ⟨p, 0, none⟩ x').setCell ⟨p + 1, 0, none⟩ y') ∧ Bx ((((u.setCell ⟨p + 1 + 1, 0, none⟩ z').setCell ⟨p + 1 + 1 + 1, 0, none⟩ t').setCell ⟨p, 0, none⟩ x').setCell ⟨p + 1, 0, none⟩ y') p x' ∧ Bx ((((u.setCell ⟨p + 1 + 1, 0, none⟩ z').setCell ⟨p + 1 + 1 + 1, 0, none⟩ t').setCell ⟨p, 0, none⟩ x').setCell ⟨p + 1, 0, none⟩ y') (p + 1) y' ∧ Bx ((((u.setCell ⟨p + 1 + 1, 0, none⟩ z').setCell ⟨p + 1 + 1 + 1, 0, none⟩ t').setCell ⟨p, 0, none⟩ x').setCell ⟨p + 1, 0, none⟩ y') (p + 1 + 1) z' ∧ Bx ((((u.setCell ⟨p + 1 + 1, 0, none⟩ z').setCell ⟨p + 1 + 1 + 1, 0, none⟩ t').setCell ⟨p, 0, none⟩ x').setCell ⟨p + 1, 0, none⟩ y') (p + 1 + 1 + 1) t' := by
  refine ⟨(((KeepsOthers.setCell _ _ _).trans (KeepsOthers.setCell _ _ _)).trans (KeepsOthers.setCell _ _ _)).trans (KeepsOthers.setCell _ _ _), ⟨?_, ?_⟩, ?_, ?_, ?_, ?_⟩
  · exact ((((Below.refl n₀ u).setCell (p := ⟨p + 1 + 1, 0, none⟩) (by show n₀ ≤ p + 1 + 1; omega) z').setCell (p := ⟨p + 1 + 1 + 1, 0, none⟩) (by show n₀ ≤ p + 1 + 1 + 1; omega) t').setCell (p := ⟨p, 0, none⟩) hn x').setCell (p := ⟨p + 1, 0, none⟩) (by show n₀ ≤ p + 1; omega) y'
  · rw [heap_other _ (by omega), heap_other _ (by omega), heap_other _ (by omega), heap_other _ (by omega)]
  · exact (((h0.other z' (by omega)).other t' (by omega)).set x').other y' (by omega)
  · exact (((h1.other z' (by omega)).other t' (by omega)).other x' (by omega)).set y'
  · exact (((h2.set z').other t' (by omega)).other x' (by omega)).other y' (by omega)
  · exact (((h3.other z' (by omega)).set t').other x' (by omega)).other y' (by omega)
end Go.Proofs.Ytfnocgkhhbpiiaa.P4
