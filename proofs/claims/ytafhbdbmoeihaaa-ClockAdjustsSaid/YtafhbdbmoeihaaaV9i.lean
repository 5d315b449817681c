/- Walks: the reference's SameList of events, over the same list. -/
import Derived.Test.YtafhbdbmoeihaaaV9e
import Derived.Test.YtafhbdbmoeihaaaV7f
import Derived.Deep.RegionHeld3
namespace Go.Proofs.Ytafhbdbmoeihaaa.V9
open Go.RowKit Go.Proofs.Ytafhbdbmoeihaaa.Mem Go.Proofs.Ytafhbdbmoeihaaa.F2p Go.Proofs.Ytafhbdbmoeihaaa.V7
set_option maxRecDepth 100000
set_option maxHeartbeats 4000000

theorem same_evs {w : World} {A A' : Option Addr} {n n' c c' : Nat} {l : List Ev} (h : ESl w A n c l) (h' : ESl w A' n' c' l) (hf : ∀ e ∈ l, e.Fit) (hn : n ≤ 1000) :
    Calls Try.prog 19 #[.slice A n c, .slice A' n' c'] w fun e w' => e = .returned (.bool true) ∧ Below w.heap.size w w' := by
  have hnn : n' = n := by rw [h.len, h'.len]
  subst hnn
  have HL := Lib.hid h.len
  have hrow := h.row
  have hrow' := h'.row
  have HF := Lib.hid hf
  clear h h' hf
  go_enter Try.func19, Try.ntmps19
  go_wp2_with fail
  go_loopw [5] (fun i wr => ∃ j : Nat, j ≤ n' ∧ i = .int .i64 j ∧ Below w.heap.size w wr) (fun i _ => n' - (intOf i).toNat)
  case atStart => exact ⟨0, Nat.zero_le _, rfl, Below.refl _ _⟩
  case round =>
    obtain ⟨j, hj, rfl, hbel⟩ := hrel
    by_cases hlt : j < n'
    · have hjl : j < l.length := by rw [← HL.out]; exact hlt
      obtain ⟨a, rfl, hab, ha⟩ := erow_at (Rd.below hrow hbel) hjl
      obtain ⟨b, rfl, hbb, hb⟩ := erow_at (Rd.below hrow' hbel) hjl
      have hfit := HF.out _ (List.getElem_mem hjl)
      generalize l[j] = x at *
      have hq := fun V => run_neq V x x hfit hfit
      simp only [decide_true, Bool.not_true] at hq
      have hg : ∀ W, (eqGuard .neq 49 (.tmp 20) (.tmp 24) x.v x.v).run Try.prog W = .ok () W := fun W => by
        unfold Ev.v
        exact run_eqGuard_agg W .neq 49 _ _ _ _ Try.eqGuardType49
      have a0 := ha.c0; have a1 := ha.c1; have a2 := ha.c2; have a3 := ha.c3; have a4 := ha.c4; have a5 := ha.c5; have a6 := ha.c6; have a7 := ha.c7; have a8 := ha.c8; have a9 := ha.c9
      have d0 := hb.c0; have d1 := hb.c1; have d2 := hb.c2; have d3 := hb.c3; have d4 := hb.c4; have d5 := hb.c5; have d6 := hb.c6; have d7 := hb.c7; have d8 := hb.c8; have d9 := hb.c9
      clear ha hb hfit
      obtain ⟨id, time, gen, st, sn, ty, de, e0, e1, e2⟩ := x
      dsimp only [Ev.v, Ev.cells] at *
      have b1 : (0 : Int) ≤ (j : Int) := by omega
      have b2 : (j : Int) < (n' : Int) := by omega
      go_wp2_with fail
      go_quiet (fail)
      clear a0 a1 a2 a3 a4 a5 a6 a7 a8 a9 d0 d1 d2 d3 d4 d5 d6 d7 d8 d9 hq hg
      go_wp2_with fail
      exact ⟨⟨j + 1, by omega, by go_num, ⟨hbel.os, hbel.tape, hbel.output, hbel.size, hbel.block⟩⟩, by simp [intOf]; omega⟩
    · go_wp2_with fail
      go_ret
      exact ⟨rfl, hbel⟩
end Go.Proofs.Ytafhbdbmoeihaaa.V9
