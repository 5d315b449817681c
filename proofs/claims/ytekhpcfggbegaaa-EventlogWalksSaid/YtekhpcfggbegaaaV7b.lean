/- Walks: the program's package event: which change an event is about. -/
import Derived.Test.YtekhpcfggbegaaaV7a
namespace Go.Proofs.Ytekhpcfggbegaaa.V7
open Go.RowKit Go.Proofs.Ytekhpcfggbegaaa.Mem
set_option maxRecDepth 100000
set_option maxHeartbeats 400000

/-- Which index a threshold's first data byte stands for. -/
def ofs (d : Nat) : Option Nat := if d = 80 then some 0 else if d = 82 then some 1 else if d = 84 then some 2 else if d = 87 then some 3 else if d = 89 then some 4 else if d = 91 then some 5 else none
/-- What an event is about. -/
def idx (e : Ev) : Nat × Bool × Bool := if e.ty = 1 then (match ofs e.d0 with | some i => (i, true, true) | none => (0, false, false)) else if e.ty = 111 ∧ e.d0 ≤ 14 then (e.d0, false, true) else (0, false, false)
def idxV (r : Nat × Bool × Bool) : Value := .tuple #[.int .i64 (r.1 : Int), .bool r.2.1, .bool r.2.2]
def sev (e : Ev) : Nat := if (idx e).2.1 = true ∧ e.de = false then (idx e).1 % 3 + 1 else 0

abbrev offsV : Value := .agg #[.int .u8 0, .int .u8 2, .int .u8 4, .int .u8 7, .int .u8 9, .int .u8 11]
theorem ix0 (W : World) : (Instr.index 27 (.agg #[.int .u8 0, .int .u8 2, .int .u8 4, .int .u8 7, .int .u8 9, .int .u8 11]) (.int .i64 0)).run Try.prog W = .ok (.int .u8 0) W := by
  simp [Instr.index, run_underlying Try.underlying27, asIntOf, go_sem]
theorem ix1 (W : World) : (Instr.index 27 (.agg #[.int .u8 0, .int .u8 2, .int .u8 4, .int .u8 7, .int .u8 9, .int .u8 11]) (.int .i64 1)).run Try.prog W = .ok (.int .u8 2) W := by
  simp [Instr.index, run_underlying Try.underlying27, asIntOf, go_sem]
theorem ix2 (W : World) : (Instr.index 27 (.agg #[.int .u8 0, .int .u8 2, .int .u8 4, .int .u8 7, .int .u8 9, .int .u8 11]) (.int .i64 2)).run Try.prog W = .ok (.int .u8 4) W := by
  simp [Instr.index, run_underlying Try.underlying27, asIntOf, go_sem]
theorem ix3 (W : World) : (Instr.index 27 (.agg #[.int .u8 0, .int .u8 2, .int .u8 4, .int .u8 7, .int .u8 9, .int .u8 11]) (.int .i64 3)).run Try.prog W = .ok (.int .u8 7) W := by
  simp [Instr.index, run_underlying Try.underlying27, asIntOf, go_sem]
theorem ix4 (W : World) : (Instr.index 27 (.agg #[.int .u8 0, .int .u8 2, .int .u8 4, .int .u8 7, .int .u8 9, .int .u8 11]) (.int .i64 4)).run Try.prog W = .ok (.int .u8 9) W := by
  simp [Instr.index, run_underlying Try.underlying27, asIntOf, go_sem]
theorem ix5 (W : World) : (Instr.index 27 (.agg #[.int .u8 0, .int .u8 2, .int .u8 4, .int .u8 7, .int .u8 9, .int .u8 11]) (.int .i64 5)).run Try.prog W = .ok (.int .u8 11) W := by
  simp [Instr.index, run_underlying Try.underlying27, asIntOf, go_sem]
theorem ret_idx {R r : Nat × Bool × Bool} (h : R = r) : Ending.returned (.tuple #[.int .i64 (r.1 : Int), .bool r.2.1, .bool r.2.2]) = .returned (idxV R) := by rw [h]; rfl
theorem ofs_lt {d i : Nat} (h : ofs d = some i) : i < 6 := by
  unfold ofs at h
  repeat' split at h
  all_goals first | (injection h; omega) | (cases h)
theorem idx_lt (e : Ev) (h : e.d0 < 256) : (idx e).1 < 256 := by
  unfold idx
  split
  · cases hq : ofs e.d0 with
    | none => exact Nat.zero_lt_succ _
    | some i => have := ofs_lt hq; show i < 256; omega
  · split
    · exact h
    · exact Nat.zero_lt_succ _
end Go.Proofs.Ytekhpcfggbegaaa.V7
