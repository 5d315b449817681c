/- Walks: the program's conversions: the nearest raw reading. -/
import Derived.Test.YtfnocgkhhbpiiaaP4f
namespace Go.Proofs.Ytfnocgkhhbpiiaa.P4
open Go.RowKit Go.Shelf Go.Proofs.Ytfnocgkhhbpiiaa.Mem Go.Proofs.Ytfnocgkhhbpiiaa.M3p Go.Proofs.Ytfnocgkhhbpiiaa.C4p Go.Proofs.Ytfnocgkhhbpiiaa.C4l Go.Proofs.Ytfnocgkhhbpiiaa.C4v
set_option maxRecDepth 100000
set_option maxHeartbeats 4000000
attribute [local go_sem] Oper.semAt_some

/-- What the search has after some readings: the nearest one, its distance, whether there is one. -/
def lstep (w : Int) (s : UInt8 × Int × Bool) (x : UInt8 × Int) : UInt8 × Int × Bool := if s.2.2 = false ∨ dist w (clp x.2) < s.2.1 then (x.1, dist w (clp x.2), true) else s
def lfold (w : Int) (l : List (UInt8 × Int)) : UInt8 × Int × Bool := l.foldl (lstep w) (0, 0, false)
theorem lfold_snoc (w : Int) (pre : List (UInt8 × Int)) (x : UInt8 × Int) : lfold w (pre ++ [x]) = if (lfold w pre).2.2 = false ∨ dist w (clp x.2) < (lfold w pre).2.1 then (x.1, dist w (clp x.2), true) else lfold w pre := by
  unfold lfold
  rw [List.foldl_append]
  rfl
theorem lfold_is {c : Cv} (hc : vld c = true) (w : Int) (n : Nat) : (lfold w (vseq c n) = (0, 0, false) ∧ nfold c w n = (-1, 0)) ∨ (∃ q d, 0 ≤ d ∧ lfold w (vseq c n) = (q, d, true) ∧ nfold c w n = (d, q)) := by
  induction n with
  | zero => exact .inl ⟨rfl, rfl⟩
  | succ n ih =>
    have hx : clp (ord c n).1 = (ord c n).1 := by
      have := valv_in hc (least c.s + n)
      exact clp_in this.1 this.2
    rw [vseq, nfold]
    by_cases h : (ord c n).2 = 0
    · rw [if_pos h, if_neg (by rw [h]; simp), lfold_snoc]
      dsimp only
      rw [hx]
      rcases ih with ⟨h1, h2⟩ | ⟨q, d, hd, h1, h2⟩
      · rw [h1, h2, if_pos (.inl rfl), if_pos (.inl (by show (-1 : Int) < 0; decide))]
        exact .inr ⟨_, _, dist_nn _ _, rfl, rfl⟩
      · rw [h1, h2]
        by_cases hlt : dist w (ord c n).1 < d
        · rw [if_pos (.inr hlt), if_pos (.inr hlt)]
          exact .inr ⟨_, _, dist_nn _ _, rfl, rfl⟩
        · rw [if_neg (by rintro (e | e); cases e; exact hlt e), if_neg (by rintro (e | e); exact absurd e (by show ¬ d < 0; omega); exact hlt e)]
          exact .inr ⟨q, d, hd, rfl, rfl⟩
    · rw [if_neg h, if_pos h]
      exact ih
theorem three {u : World} {n₀ p g : Nat} {x y z v x' y' z' : Value} (h0 : Bx u p x) (h1 : Bx u (p + 1) y) (h2 : Bx u (p + 1 + 1) z) (h3 : Bx u g v) (hg : g < p) (hn : n₀ ≤ p) :
    KeepsOthers u (((u.setCell ⟨p, 0, none⟩ x').setCell ⟨p + 1, 0, none⟩ y').setCell ⟨p + 1 + 1, 0, none⟩ z') ∧ Kp n₀ (p + 3) u (((u.setCell ⟨p, 0, none⟩ x').setCell ⟨p + 1, 0, none⟩ y').setCell ⟨p + 1 + 1, 0, none⟩ z') ∧
    Bx (((u.setCell ⟨p, 0, none⟩ x').setCell ⟨p + 1, 0, none⟩ y').setCell ⟨p + 1 + 1, 0, none⟩ z') p x' ∧ Bx (((u.setCell ⟨p, 0, none⟩ x').setCell ⟨p + 1, 0, none⟩ y').setCell ⟨p + 1 + 1, 0, none⟩ z') (p + 1) y' ∧
    Bx (((u.setCell ⟨p, 0, none⟩ x').setCell ⟨p + 1, 0, none⟩ y').setCell ⟨p + 1 + 1, 0, none⟩ z') (p + 1 + 1) z' ∧ Bx (((u.setCell ⟨p, 0, none⟩ x').setCell ⟨p + 1, 0, none⟩ y').setCell ⟨p + 1 + 1, 0, none⟩ z') g v := by
  refine ⟨((KeepsOthers.setCell _ _ _).trans (KeepsOthers.setCell _ _ _)).trans (KeepsOthers.setCell _ _ _), ⟨?_, ?_⟩, ?_, ?_, ?_, ?_⟩
  · exact (((Below.refl n₀ u).setCell (p := ⟨p, 0, none⟩) hn x').setCell (p := ⟨p + 1, 0, none⟩) (by show n₀ ≤ p + 1; omega) y').setCell (p := ⟨p + 1 + 1, 0, none⟩) (by show n₀ ≤ p + 1 + 1; omega) z'
  · rw [heap_other _ (by omega), heap_other _ (by omega), heap_other _ (by omega)]
  · exact ((h0.set x').other y' (by omega)).other z' (by omega)
  · exact ((h1.other x' (by omega)).set y').other z' (by omega)
  · exact ((h2.other x' (by omega)).other y' (by omega)).set z'
  · exact ((h3.other x' (by omega)).other y' (by omega)).other z' (by omega)
end Go.Proofs.Ytfnocgkhhbpiiaa.P4
