/- Walks: two lists of fields are the same. -/
import Derived.Test.YtkhdldemhaifpaaFl
import Derived.Test.YtkhdldemhaifpaaFq
import Derived.Deep.RegionHeld3
namespace Go.Proofs.Ytkhdldemhaifpaa.Fl
open Go.RowKit Go.Proofs.Ytkhdldemhaifpaa.Mem Go.Proofs.Ytkhdldemhaifpaa.F2p Go.Proofs.Ytkhdldemhaifpaa.Fa
set_option maxRecDepth 100000
set_option maxHeartbeats 2000000
theorem fsame_list {w : World} {A A' : Option Addr} {n n' c c' : Nat} {l : List Fi} (h : FSl w A n c l) (h' : FSl w A' n' c' l) (hn : n ≤ 1000) :
    Calls Try.prog 33 #[.slice A n c, .slice A' n' c'] w fun e w' => e = .returned (.bool true) ∧ Below w.heap.size w w' := by
  have hnn : n' = n := by rw [h.len, h'.len]
  subst hnn
  have HL := Lib.hid h.len
  have hrow := h.row
  have hrow' := h'.row
  clear h h'
  go_enter Try.func33, Try.ntmps33
  go_wp2_with fail
  go_loopw [5] (fun i wr => ∃ j : Nat, j ≤ n' ∧ i = .int .i64 j ∧ Below w.heap.size w wr) (fun i _ => n' - (intOf i).toNat)
  case atStart => exact ⟨0, Nat.zero_le _, rfl, Below.refl _ _⟩
  case round =>
    obtain ⟨j, hj, rfl, hbel⟩ := hrel
    by_cases hlt : j < n'
    · have hjl : j < l.length := by rw [← HL.out]; exact hlt
      obtain ⟨a, rfl, hab, hc0, hc1⟩ := frow_at (Rd.below hrow hbel) hjl
      obtain ⟨b, rfl, hbb, hd0, hd1⟩ := frow_at (Rd.below hrow' hbel) hjl
      generalize l[j] = x at *
      obtain ⟨k, s⟩ := x
      simp only at hc0 hc1 hd0 hd1
      have hc1' : wr.cell? ⟨(a.add (j * 2)).block, (a.add (j * 2)).off + 1, none⟩ = some (.string s) := by rw [← add_next, add_add]; exact hc1
      have hd1' : wr.cell? ⟨(b.add (j * 2)).block, (b.add (j * 2)).off + 1, none⟩ = some (.string s) := by rw [← add_next, add_add]; exact hd1
      clear hc1 hd1
      have b1 : (0 : Int) ≤ (j : Int) := by omega
      have b2 : (j : Int) < (n' : Int) := by omega
      go_wp2_with fail
      go_region_law (first | (go_simp; go_at_call 24; refine (fsame_yes k s _).mono ?_; rintro e w2 ⟨rfl, hb2⟩))
      all_goals
        go_wp2_with fail
        exact ⟨⟨j + 1, by omega, by go_num, hbel.trans (Below.mono ⟨hb2.os, hb2.tape, hb2.output, hb2.size, hb2.block⟩ hbel.size)⟩, by simp [intOf]; omega⟩
    · go_wp2_with fail
      go_ret
      exact ⟨rfl, hbel⟩
end Go.Proofs.Ytkhdldemhaifpaa.Fl
