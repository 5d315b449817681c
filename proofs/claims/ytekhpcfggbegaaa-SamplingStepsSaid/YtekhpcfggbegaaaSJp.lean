/- Small lemmas for SamplingSteps: what is short; two records and three filters in a row. -/
import Derived.Test.YtekhpcfggbegaaaS42
import Derived.Test.YtekhpcfggbegaaaS22
import Derived.Great.BuildSlice
import Derived.Deep.MidRow
namespace Go.Proofs.Ytekhpcfggbegaaa.Jp
open Go.RowKit Go.Proofs.Ytekhpcfggbegaaa.Mem Go.Proofs.Ytekhpcfggbegaaa.F2p Go.Proofs.Ytekhpcfggbegaaa.C4l Go.Proofs.Ytekhpcfggbegaaa.Ta Go.Proofs.Ytekhpcfggbegaaa.Tb Go.Proofs.Ytekhpcfggbegaaa.Ja Go.Proofs.Ytekhpcfggbegaaa.Jd
set_option maxRecDepth 100000
set_option maxHeartbeats 1000000

theorem light_p (s : Sn) (A : Option Addr) (n cp : Nat) (FA : Option Addr) (fn fc : Nat) (l : List UInt8) (m : Int) (w : World) (hn : n ≤ maxLen) (hnm : s.nm.size ≤ maxLen) (hf : Sl w FA fn fc l) :
    Calls Try.prog 10 #[.agg (cells s (.slice A n cp)), .agg #[.slice FA fn fc, .int .i64 m]] w fun e w' => ∃ b, e = .returned (.bool b) ∧ Below w.heap.size w w' := by
  obtain ⟨hb0, hx0, hf0⟩ := two_boxes s (.slice A n cp) (.slice FA fn fc) m w
  have c3 : ((w.alloc (SBox s (.slice A n cp))).alloc (FBox (.slice FA fn fc) m)).cell? ⟨w.heap.size, 3, none⟩ = some (.string s.nm) := hx0.c 3
  have c13 : ((w.alloc (SBox s (.slice A n cp))).alloc (FBox (.slice FA fn fc) m)).cell? ⟨w.heap.size, 13, none⟩ = some (.slice A n cp) := hx0.c 13
  have f0 := hf0.c0
  have hfm := lite hf
  unfold maxLen at hn hnm hfm
  clear hx0 hf0 hf
  go_enter Try.func10, Try.ntmps10
  by_cases h1 : s.nm.size ≤ 100
  · have d1 : decide ((s.nm.size : Int) ≤ 100) = true := decide_eq_true (by omega)
    by_cases h2 : n ≤ 40
    · have d2 : decide ((n : Int) ≤ 40) = true := decide_eq_true (by omega)
      by_cases h3 : fn ≤ 40
      · have d3 : decide ((fn : Int) ≤ 40) = true := decide_eq_true (by omega)
        go_wp2_with fail
        go_ret
        exact ⟨_, rfl, hb0⟩
      · have d3 : decide ((fn : Int) ≤ 40) = false := decide_eq_false (by omega)
        go_wp2_with fail
        go_ret
        exact ⟨_, rfl, hb0⟩
    · have d2 : decide ((n : Int) ≤ 40) = false := decide_eq_false (by omega)
      go_wp2_with fail
      go_ret
      exact ⟨_, rfl, hb0⟩
  · have d1 : decide ((s.nm.size : Int) ≤ 100) = false := decide_eq_false (by omega)
    go_wp2_with fail
    go_ret
    exact ⟨_, rfl, hb0⟩
def zeroBx : Value := .agg #[.int .u8 0, .int .u8 0, .int .u8 0, .string ⟨#[]⟩, .int .u8 0, .int .u8 0, .bool false, .int .i64 0, .bool false, .int .i64 0, .int .i64 0, .int .i64 0, .int .i64 0, .slice none 0 0, .int .u8 0, .int .u8 0, .int .u8 0, .int .u8 0, .int .u8 0, .int .u8 0, .int .u8 0, .int .u8 0, .int .u8 0, .int .u16 0, .int .u16 0, .int .u16 0, .bool false, .int .i64 0]
theorem infoS : (Try.prog.info? 32).map (fun i => (i.zero, i.size)) = some (some zeroBx, 28) := by kernel_rfl
theorem fill2 (s0 s1 : Sn) (V0 V1 : Value) : Instr.fill (fun i => some (i * 28, 28)) ((Array.range (2 * 28)).map (zeroBx.cells[· % zeroBx.cells.size]!)) [(0, .agg (cells s0 V0)), (1, .agg (cells s1 V1))] = some (cells s0 V0 ++ cells s1 V1) := by
  kernel_rfl
theorem cs_size (s : Sn) (V : Value) : (cells s V).size = 28 := rfl
theorem wpList_build2 {ops : Array Oper} {rest : List Oper} {o : Oper} {a : Act} {w : World} {Q : Exit → Act → World → Prop} (hgd : o.guard = none) (x y : Operand) (ho : o.op = .buildSlice 46 2 #[(0, x), (1, y)])
    (s0 s1 : Sn) (V0 V1 : Value) (hx : a.eval x = .agg (cells s0 V0)) (hy : a.eval y = .agg (cells s1 V1))
    (h : wpList Try.prog ops Q rest (a.put o.dst (.slice (some ⟨w.heap.size, 0, none⟩) 2 2)) (w.alloc (.cells (cells s0 V0 ++ cells s1 V1) 32))) : wpList Try.prog ops Q (o :: rest) a w := by
  refine wpList_plain hgd fun K hK => ?_
  have hi := infoS
  cases hq : Try.prog.info? 32 with
  | none => rw [hq] at hi; cases hi
  | some ie =>
    rw [hq] at hi
    simp only [Option.map_some, Option.some.injEq, Prod.mk.injEq] at hi
    refine wp_buildSlice _ _ 2 _ ho _ ie zeroBx Try.underlying46 hq hi.1 (by rw [hi.2]; decide) (by rw [hi.2]; decide) ?_ (hK _ _ h)
    rw [hi.2]
    simp only [List.map_toArray, List.map_cons, List.map_nil, hx, hy]
    exact fill2 s0 s1 V0 V1
theorem rec2 (s0 s1 : Sn) (V0 V1 : Value) (j : Nat) (hj : j < 28) : (cells s0 V0 ++ cells s1 V1)[j]? = (cells s0 V0)[j]? ∧ (cells s0 V0 ++ cells s1 V1)[28 + j]? = (cells s1 V1)[j]? := by
  refine ⟨?_, ?_⟩
  · rw [Array.getElem?_append_left (by rw [cs_size]; omega)]
  · rw [Array.getElem?_append_right (by rw [cs_size]; omega), cs_size, Nat.add_sub_cancel_left]
theorem lt_some {w : World} {g : Nat} {o : Obj} (hg : w.heap[g]? = some o) : g < w.heap.size := by
  rcases Nat.lt_or_ge g w.heap.size with h | h
  · exact h
  · rw [Array.getElem?_eq_none h] at hg; cases hg
theorem rec_at {w : World} {g : Nat} {s0 s1 : Sn} {A0 A1 : Option Addr} {n0 n1 c0 c1 : Nat}
    (hg : w.heap[g]? = some (.cells (cells s0 (.slice A0 n0 c0) ++ cells s1 (.slice A1 n1 c1)) 32 (0, 0)))
    (p0 : PSl w A0 n0 c0 s0.c.p) (p1 : PSl w A1 n1 c1 s1.c.p) (m0 : s0.nm.size ≤ maxLen) (m1 : s1.nm.size ≤ maxLen) :
    ∀ w', Below w.heap.size w w' → ∀ i, i < 2 → ∃ (s : Sn) (A : Option Addr) (n cp : Nat), w'.rangeAt g (i * 28) (cells s (.slice A n cp)).toList ∧ PSl w' A n cp s.c.p ∧ s.nm.size ≤ maxLen := by
  intro w' hb i hi
  have hg' := (hb.block g (lt_some hg)).trans hg
  rcases (show i = 0 ∨ i = 1 by omega) with rfl | rfl
  · refine ⟨s0, A0, n0, c0, fun j v hv => ?_, p0.step hb, m0⟩
    have hj : j < 28 := by have := (List.getElem?_eq_some_iff.1 hv).1; rwa [Array.length_toList, cs_size] at this
    rw [cell_of_row w' g _ _ _ _ hg', show 0 * 28 + j = j by omega, (rec2 s0 s1 _ _ j hj).1, ← Array.getElem?_toList]
    exact hv
  · refine ⟨s1, A1, n1, c1, fun j v hv => ?_, p1.step hb, m1⟩
    have hj : j < 28 := by have := (List.getElem?_eq_some_iff.1 hv).1; rwa [Array.length_toList, cs_size] at this
    rw [cell_of_row w' g _ _ _ _ hg', show 1 * 28 + j = 28 + j by omega, (rec2 s0 s1 _ _ j hj).2, ← Array.getElem?_toList]
    exact hv
theorem fil_at {w : World} {g : Nat} {A0 A1 : Option Addr} {n0 n1 c0 c1 : Nat} {l0 l1 : List UInt8} {m0 m1 : Int}
    (hg : w.heap[g]? = some (.cells #[.slice A0 n0 c0, .int .i64 m0, .slice A1 n1 c1, .int .i64 m1, .slice none 0 0, .int .i64 0] 35 (0, 0)))
    (p0 : Sl w A0 n0 c0 l0) (p1 : Sl w A1 n1 c1 l1) :
    ∀ w', Below w.heap.size w w' → ∀ i, i < 3 → ∃ (A : Option Addr) (n c : Nat) (l : List UInt8) (m : Int), w'.rangeAt g (i * 2) [.slice A n c, .int .i64 m] ∧ Sl w' A n c l := by
  intro w' hb i hi
  have hg' := (hb.block g (lt_some hg)).trans hg
  rcases (show i = 0 ∨ i = 1 ∨ i = 2 by omega) with rfl | rfl | rfl
  · refine ⟨A0, n0, c0, l0, m0, fun j v hv => ?_, p0.step hb⟩
    rw [cell_of_row w' g _ _ _ _ hg']
    match j with
    | 0 => exact hv
    | 1 => exact hv
    | j + 2 => simp at hv
  · refine ⟨A1, n1, c1, l1, m1, fun j v hv => ?_, p1.step hb⟩
    rw [cell_of_row w' g _ _ _ _ hg']
    match j with
    | 0 => exact hv
    | 1 => exact hv
    | j + 2 => simp at hv
  · refine ⟨none, 0, 0, [], 0, fun j v hv => ?_, sl_none _⟩
    rw [cell_of_row w' g _ _ _ _ hg']
    match j with
    | 0 => exact hv
    | 1 => exact hv
    | j + 2 => simp at hv
theorem exec_load_bx2 {o : Oper} {a : Act} {w : World} {r : Nat} {s : Sn} {V : Value} (x : Operand) (ho : o.op = .load 32 x) (hx : a.eval x = .pointer (some ⟨r, 0, none⟩)) (hb : Bx w r s V) : (execOp a.eval o).run Try.prog w = .ok (.value (.agg (cells s V))) w := by
  unfold execOp
  simp only [ho, hx, Instr.loadAt, Instr.sureAddr, Sem.run_bind, Sem.run_pure, Result.andThen_ok, run_loadVar_row w r _ _ _ _ _ hb Try.underlying32 rfl (by kernel_rfl)]
theorem exec_load_f2 {o : Oper} {a : Act} {w : World} {r : Nat} {V : Value} {m : Int} (x : Operand) (ho : o.op = .load 35 x) (hx : a.eval x = .pointer (some ⟨r, 0, none⟩)) (hb : FBx w r V m) : (execOp a.eval o).run Try.prog w = .ok (.value (.agg #[V, .int .i64 m])) w := by
  unfold execOp
  simp only [ho, hx, Instr.loadAt, Instr.sureAddr, Sem.run_bind, Sem.run_pure, Result.andThen_ok, run_loadVar_row w r _ _ _ _ _ hb Try.underlying35 rfl (by kernel_rfl)]
theorem full_read {sg : Bool} {l : List UInt8} {b : Bool} {x y : UInt8} (h1 : b = true → Med sg l x) (h2 : b = true → Med sg l y) (h3 : b = false → x = 0) (h4 : b = false → y = 0) : x = y := by
  cases b
  · rw [h3 rfl, h4 rfl]
  · exact (h1 rfl).one (h2 rfl)
end Go.Proofs.Ytekhpcfggbegaaa.Jp
