/- Walks: the reference's decoding of fields, whole. -/
import Derived.Test.YtkhdldemhaifpaaF2e
import Derived.Test.YtkhdldemhaifpaaF2f
namespace Go.Proofs.Ytkhdldemhaifpaa.F2g
open Go.RowKit Go.Proofs.Ytkhdldemhaifpaa.Mem Go.Proofs.Ytkhdldemhaifpaa.F2p Go.Proofs.Ytkhdldemhaifpaa.Fa
set_option maxRecDepth 100000
set_option maxHeartbeats 1000000
theorem dec_r (A : Option Addr) (n c : Nat) (l : List UInt8) (w : World) (h : Sl w A n c l) (hn : n ≤ 100000) :
    Calls Try.prog 23 #[.slice A n c] w fun e w' => e = out (dec l).k (dec l).v (dec l).n (dec l).z (dec l).c ∧ Below w.heap.size w w' := by
  have hx := (l[0]?.getD 0).toNat_lt
  by_cases h0 : n = 0
  · have hd : dec l = ⟨0, [], 0, false, 4⟩ := by unfold dec; rw [if_pos (by rw [← h.len]; exact h0)]
    subst h0
    rw [hd]
    exact F2d.dec_empty A c w
  by_cases h1 : (l[0]?.getD 0).toNat = 193
  · have hd : dec l = ⟨0, [], 1, true, 0⟩ := by unfold dec; rw [if_neg (by rw [← h.len]; exact h0), if_pos h1]
    rw [hd]
    exact F2d.dec_end A n c l w h (by omega) (UInt8.toNat_inj.1 h1)
  by_cases h2 : n < 1 + (l[0]?.getD 0).toNat % 64
  · have hd : dec l = ⟨0, [], 0, false, 4⟩ := by unfold dec; rw [if_neg (by rw [← h.len]; exact h0), if_neg h1, if_pos (by rw [← h.len]; exact h2)]
    rw [hd]
    exact F2d.dec_short A n c l w h (by omega) h1 h2 hn
  have hd : dec l = match und ((l[0]?.getD 0).toNat / 64 : Nat) ((l.drop 1).take ((l[0]?.getD 0).toNat % 64)) with
      | some v => ⟨((l[0]?.getD 0).toNat / 64 : Nat), v, 1 + (l[0]?.getD 0).toNat % 64, false, 0⟩
      | none => ⟨0, [], 0, false, 6⟩ := by unfold dec; rw [if_neg (by rw [← h.len]; exact h0), if_neg h1, if_neg (by rw [← h.len]; exact h2)]; rfl
  by_cases k1 : (l[0]?.getD 0).toNat / 64 = 1
  · rw [k1] at hd
    exact F2e.dec_bcd A n c l w h (by omega) h1 (by omega) k1 hn (dec l) hd
  by_cases k2 : (l[0]?.getD 0).toNat / 64 = 2
  · rw [k2] at hd
    exact F2f.dec_six A n c l w h (by omega) h1 (by omega) k2 hn (dec l) hd
  have hu : und ((l[0]?.getD 0).toNat / 64 : Nat) ((l.drop 1).take ((l[0]?.getD 0).toNat % 64)) = some ((l.drop 1).take ((l[0]?.getD 0).toNat % 64)) := by
    unfold und
    rw [if_neg (by omega), if_neg (by omega)]
  rw [hu] at hd
  rw [hd]
  exact F2d.dec_plain A n c l w h (by omega) h1 (by omega) k1 k2 hn
end Go.Proofs.Ytkhdldemhaifpaa.F2g
