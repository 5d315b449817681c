/- Walks: the reference's SameChanges, over the same list. -/
import Derived.Test.YtcnkiecdagjgmaaYa
import Derived.Laws.StructEq
import Derived.Deep.RegionHeld3
namespace Go.Proofs.Ytcnkiecdagjgmaa.Ya
open Go.RowKit Go.Proofs.Ytcnkiecdagjgmaa.Mem Go.Proofs.Ytcnkiecdagjgmaa.Ta
set_option maxRecDepth 100000
set_option maxHeartbeats 1000000

theorem ch_neq (W : World) (i : Int) (b : Bool) : (binOp .neq 53 (.agg #[.int .i64 i, .bool b]) (.agg #[.int .i64 i, .bool b])).run Try.prog W = .ok (.bool false) W := by
  rw [run_neq_struct]
  go_simp
theorem ch_guard (W : World) (x y : Operand) (i : Int) (b : Bool) : (eqGuard .neq 53 x y (.agg #[.int .i64 i, .bool b]) (.agg #[.int .i64 i, .bool b])).run Try.prog W = .ok () W :=
  run_eqGuard_agg W .neq 53 x y _ _ Try.eqGuardType53
theorem same_chs {w : World} {A A' : Option Addr} {n n' c c' : Nat} {l : List Ch} (h : KSl w A n c l) (h' : KSl w A' n' c' l) (hn : n ≤ 1000) :
    Calls Try.prog 25 #[.slice A n c, .slice A' n' c'] w fun e w' => e = .returned (.bool true) ∧ Below w.heap.size w w' := by
  have hnn : n' = n := by rw [h.len, h'.len]
  subst hnn
  have HL := Lib.hid h.len
  have hrow := h.row
  have hrow' := h'.row
  clear h h'
  go_enter Try.func25, Try.ntmps25
  go_wp2_with fail
  go_loopw [5] (fun i wr => ∃ j : Nat, j ≤ n' ∧ i = .int .i64 j ∧ Below w.heap.size w wr) (fun i _ => n' - (intOf i).toNat)
  case atStart => exact ⟨0, Nat.zero_le _, rfl, Below.refl _ _⟩
  case round =>
    obtain ⟨j, hj, rfl, hbel⟩ := hrel
    by_cases hlt : j < n'
    · have hjl : j < l.length := by rw [← HL.out]; exact hlt
      obtain ⟨a, rfl, hab, a0, a1⟩ := krow_at (Rd.below hrow hbel) hjl
      obtain ⟨b, rfl, hbb, b0, b1⟩ := krow_at (Rd.below hrow' hbel) hjl
      generalize l[j] = x at *
      obtain ⟨xi, xo⟩ := x
      dsimp only at a0 a1 b0 b1
      have a1' : wr.cell? ⟨(a.add (j * 2)).block, (a.add (j * 2)).off + 1, none⟩ = some (.bool xo) := by rw [← a1, ← add_add]; rfl
      have b1' : wr.cell? ⟨(b.add (j * 2)).block, (b.add (j * 2)).off + 1, none⟩ = some (.bool xo) := by rw [← b1, ← add_add]; rfl
      have hq := fun W => ch_neq W xi xo
      have hg := fun W x y => ch_guard W x y xi xo
      have n1 : (j : Int) < (n' : Int) := by omega
      have n2 : (0 : Int) ≤ (j : Int) := by omega
      go_wp2_with fail
      go_quiet (fail)
      have hb2 : Below w.heap.size w (wr.drewN nq) := ⟨hbel.os, hbel.tape, hbel.output, hbel.size, hbel.block⟩
      go_wp2_with fail
      exact ⟨⟨j + 1, by omega, by go_num, hb2⟩, by simp [intOf]; omega⟩
    · obtain rfl : j = n' := by omega
      go_wp2_with fail
      go_ret
      exact ⟨rfl, hbel⟩
end Go.Proofs.Ytcnkiecdagjgmaa.Ya
