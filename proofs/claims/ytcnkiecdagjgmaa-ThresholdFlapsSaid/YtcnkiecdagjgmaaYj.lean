/- Small lemmas for stage 12's laws: a record's points over stores in other blocks. -/
import Derived.Test.YtcnkiecdagjgmaaYh
import Derived.Test.YtcnkiecdagjgmaaYi
namespace Go.Proofs.Ytcnkiecdagjgmaa.Ya
open Go.RowKit Go.Proofs.Ytcnkiecdagjgmaa.Mem Go.Proofs.Ytcnkiecdagjgmaa.F2p Go.Proofs.Ytcnkiecdagjgmaa.C4l Go.Proofs.Ytcnkiecdagjgmaa.Ta Go.Proofs.Ytcnkiecdagjgmaa.Tb
set_option maxRecDepth 100000

theorem psl_own {base : Nat} {w : World} {A : Option Addr} {n c : Nat} {p : List Pt} (h : POwn base w (.slice A n c) p) : PSl w A n c p := by
  obtain ⟨A', n', c', e, hs⟩ := h.sl
  injection e with e1 e2 e3
  subst e1 e2 e3
  exact hs
theorem pown_below {base : Nat} {w w' : World} {v : Value} {p : List Pt} (h : POwn base w v p) (hb : Below w.heap.size w w') : POwn base w' v p := by
  refine ⟨h.1, ?_⟩
  rcases h.2 with h1 | ⟨g, cap, cur, h1, h2, h3, h4⟩
  · exact .inl h1
  · refine .inr ⟨g, cap, cur, h1, h2, (hb.block g ?_).trans h3, h4⟩
    rcases Nat.lt_or_ge g w.heap.size with h5 | h5
    · exact h5
    · rw [Array.getElem?_eq_none h5] at h3; cases h3
end Go.Proofs.Ytcnkiecdagjgmaa.Ya
