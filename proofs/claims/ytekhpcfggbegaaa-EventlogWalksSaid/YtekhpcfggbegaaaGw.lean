/- Walks: the record with an ID. -/
import Derived.Test.YtekhpcfggbegaaaGv
namespace Go.Proofs.Ytekhpcfggbegaaa.G9
open Go.RowKit Go.Proofs.Ytekhpcfggbegaaa.Mem Go.Proofs.Ytekhpcfggbegaaa.E5p Go.Proofs.Ytekhpcfggbegaaa.E5m Go.Proofs.Ytekhpcfggbegaaa.E5a Go.Proofs.Ytekhpcfggbegaaa.E5d Go.Proofs.Ytekhpcfggbegaaa.V7 Go.Proofs.Ytekhpcfggbegaaa.V9
set_option maxRecDepth 100000
set_option maxHeartbeats 4000000

/-- Is it the record that is asked for? -/
def isId (i : Nat) (r : Rc) : Bool := decide (i = 0) || decide (r.e.id = i)
theorem isid_p (r : Rc) (i b : Nat) (u : World) (hb : u.cell? ⟨b, 0, none⟩ = some (.int .u16 (i : Int))) (hbl : b < u.heap.size) :
    Calls Try.prog 84 #[r.v, .pointer (some ⟨b, 0, none⟩)] u fun e u' => e = .returned (.bool (isId i r)) ∧ Below u.heap.size u u' := by
  have hal : Below u.heap.size u (u.alloc (.cells r.cells 133)) := (Below.refl _ _).alloc (Nat.le_refl _) _
  have c1 : (u.alloc (.cells r.cells 133)).cell? ⟨u.heap.size, 1, none⟩ = some (.int .u16 (r.e.id : Int)) := cell_of_row _ _ 1 _ _ _ (heap_alloc_new u _)
  have cb := (hal.cell (p := ⟨b, 0, none⟩) hbl).trans hb
  obtain ⟨q, id, time, gen, st, sn, ty, de, d0, d1, d2⟩ := r
  simp only [Rc.v, Rc.cells, isId] at *
  replace hal := Lib.hid hal
  rcases Nat.eq_zero_or_pos i with h0 | h0
  · subst h0
    go_enter Try.func84, Try.ntmps84
    go_wp2_with fail
    go_ret
    exact ⟨rfl, hal.out⟩
  · have g0 : ((i : Int) == 0) = false := by simp; omega
    have hz : decide (i = 0) = false := by simp; omega
    have hq : ((id : Int) == (i : Int)) = decide (id = i) := by
      rw [Bool.eq_iff_iff]
      simp only [beq_iff_eq, decide_eq_true_eq]
      exact ⟨fun h => by omega, fun h => by rw [h]⟩
    have HZ := Lib.hid hz
    have HQ := Lib.hid hq
    clear hz hq h0
    go_enter Try.func84, Try.ntmps84
    go_wp2_with fail
    go_ret
    exact ⟨ret_bool (by rw [HZ.out, ← HQ.out]; rfl), hal.out⟩
/-- What Get answers. -/
def getR (l : List Rc) (i : Nat) : Ev × Nat × Int :=
  match l.drop (l.findIdx (isId i)) with
  | [] => (Ev.none, 0, 8)
  | [r] => (r.e, 0, 0)
  | r :: r2 :: _ => (r.e, r2.e.id, 0)
end Go.Proofs.Ytekhpcfggbegaaa.G9
