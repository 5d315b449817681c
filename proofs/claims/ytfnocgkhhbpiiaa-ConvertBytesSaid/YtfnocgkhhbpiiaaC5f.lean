/- Walks: the reference of conversions: two that are the same. -/
import Derived.Test.YtfnocgkhhbpiiaaC5e
namespace Go.Proofs.Ytfnocgkhhbpiiaa.C4v
open Go.RowKit Go.Proofs.Ytfnocgkhhbpiiaa.Mem Go.Proofs.Ytfnocgkhhbpiiaa.M3p Go.Proofs.Ytfnocgkhhbpiiaa.C4p Go.Proofs.Ytfnocgkhhbpiiaa.C4l
set_option maxRecDepth 100000
set_option maxHeartbeats 4000000

theorem csame_yes (f m b k1 k2 : Int) (s : Bool) (A A' : Option Addr) (n n' cp cp' : Nat) (l : List Pt) (w : World) (hsl : PSl w A n cp l) (hsl' : PSl w A' n' cp' l) :
    Calls Try.prog 15 #[.agg #[.int .i64 f, .bool s, .int .i64 m, .int .i64 b, .int .i64 k1, .int .i64 k2, .slice A n cp], .agg #[.int .i64 f, .bool s, .int .i64 m, .int .i64 b, .int .i64 k1, .int .i64 k2, .slice A' n' cp']] w fun e w' => e = .returned (.bool true) ∧ Below w.heap.size w w' := by
  obtain rfl : n' = n := hsl'.len.trans hsl.len.symm
  obtain ⟨w1, hw1⟩ : ∃ w1, w1 = (w.alloc (.cells #[.int .i64 f, .bool s, .int .i64 m, .int .i64 b, .int .i64 k1, .int .i64 k2, .slice A n' cp] 24)).alloc (.cells #[.int .i64 f, .bool s, .int .i64 m, .int .i64 b, .int .i64 k1, .int .i64 k2, .slice A' n' cp'] 24) := ⟨_, rfl⟩
  have hb1 : Below w.heap.size w w1 := by rw [hw1]; exact ((Below.refl _ _).alloc (Nat.le_refl _) _).alloc (by simp) _
  have hst2 : w1.heap[w.heap.size + 1]? = some (.cells #[.int .i64 f, .bool s, .int .i64 m, .int .i64 b, .int .i64 k1, .int .i64 k2, .slice A' n' cp'] 24 (0, 0)) := by
    rw [hw1]
    have := heap_alloc_new (w.alloc (.cells #[.int .i64 f, .bool s, .int .i64 m, .int .i64 b, .int .i64 k1, .int .i64 k2, .slice A n' cp] 24)) (.cells #[.int .i64 f, .bool s, .int .i64 m, .int .i64 b, .int .i64 k1, .int .i64 k2, .slice A' n' cp'] 24)
    simpa using this
  have hst1 : w1.heap[w.heap.size]? = some (.cells #[.int .i64 f, .bool s, .int .i64 m, .int .i64 b, .int .i64 k1, .int .i64 k2, .slice A n' cp] 24 (0, 0)) := by
    rw [hw1, Below.heap_alloc _ _ _ (by simp)]
    exact heap_alloc_new w _
  have e6 : w1.cell? ⟨w.heap.size, 6, none⟩ = some (.slice A n' cp) := by rw [cell_of_row w1 w.heap.size 6 _ _ _ hst1]; rfl
  have g6 : w1.cell? ⟨w.heap.size + 1, 6, none⟩ = some (.slice A' n' cp') := by rw [cell_of_row w1 (w.heap.size + 1) 6 _ _ _ hst2]; rfl
  have HS := Lib.hid (hsl.step hb1)
  have HS' := Lib.hid (hsl'.step hb1)
  have hnm : n' ≤ maxLen := Nat.le_trans hsl.cap hsl.max
  unfold maxLen at hnm
  have HLN := Lib.hid hsl.len
  clear hsl hsl' hst1 hst2
  go_enter Try.func15, Try.ntmps15
  go_wp2_with fail
  rw [← hw1]
  clear hw1
  go_loopw [5] (fun i wr => ∃ j d : Nat, j ≤ n' ∧ i = .int .i64 j ∧ wr = w1.drewN d) (fun i _ => n' - (intOf i).toNat)
  case atStart => exact ⟨0, 0, Nat.zero_le _, rfl, rfl⟩
  case round =>
    obtain ⟨j, d, hj, rfl, rfl⟩ := hrel
    by_cases hlt : j < n'
    · have hjl : j < l.length := by rw [← HLN.out]; exact hlt
      obtain ⟨a, q, rfl, hab, hq, hqb, hc0, hc1⟩ := prow_q HS.out.row hjl
      obtain ⟨a', q', rfl, hab', hq', hqb', hd0, hd1⟩ := prow_q HS'.out.row hjl
      go_wp2_with fail
      go_quiet (fail)
      all_goals go_wp2_with fail
      exact ⟨⟨j + 1, _, by omega, by go_num, rfl⟩, by simp [intOf]; omega⟩
    · go_wp2_with fail
      go_ret
      exact ⟨rfl, hb1.os, hb1.tape, hb1.output, hb1.size, hb1.block⟩
end Go.Proofs.Ytfnocgkhhbpiiaa.C4v
