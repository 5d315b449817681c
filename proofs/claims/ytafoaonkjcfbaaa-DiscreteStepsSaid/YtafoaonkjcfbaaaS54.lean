/- Small lemmas for ThresholdSteps: three records in one row. -/
import Derived.Test.YtafoaonkjcfbaaaS53
import Derived.Great.BuildSlice
import Derived.Deep.MidRow
namespace Go.Proofs.Ytafoaonkjcfbaaa.Ya
open Go.RowKit Go.Proofs.Ytafoaonkjcfbaaa.Mem Go.Proofs.Ytafoaonkjcfbaaa.F2p Go.Proofs.Ytafoaonkjcfbaaa.C4l Go.Proofs.Ytafoaonkjcfbaaa.Ta Go.Proofs.Ytafoaonkjcfbaaa.Tb
set_option maxRecDepth 100000
set_option maxHeartbeats 1000000

def zeroBx : Value := .agg #[.int .u8 0, .int .u8 0, .int .u8 0, .string ⟨#[]⟩, .int .u8 0, .int .u8 0, .bool false, .int .i64 0, .bool false, .int .i64 0, .int .i64 0, .int .i64 0, .int .i64 0, .slice none 0 0, .int .u8 0, .int .u8 0, .int .u8 0, .int .u8 0, .int .u8 0, .int .u8 0, .int .u8 0, .int .u8 0, .int .u8 0, .int .u16 0, .int .u16 0, .int .u16 0, .bool false, .int .i64 0]
theorem infoS : (Try.prog.info? 59).map (fun i => (i.zero, i.size)) = some (some zeroBx, 28) := by kernel_rfl
theorem fill3 (s0 s1 s2 : Sn) (V0 V1 V2 : Value) : Instr.fill (fun i => some (i * 28, 28)) ((Array.range (3 * 28)).map (zeroBx.cells[· % zeroBx.cells.size]!)) [(0, .agg (cells s0 V0)), (1, .agg (cells s1 V1)), (2, .agg (cells s2 V2))] = some (cells s0 V0 ++ cells s1 V1 ++ cells s2 V2) := by
  kernel_rfl
theorem cs_size (s : Sn) (V : Value) : (cells s V).size = 28 := rfl
theorem rec3 (s0 s1 s2 : Sn) (V0 V1 V2 : Value) (j : Nat) (hj : j < 28) : (cells s0 V0 ++ cells s1 V1 ++ cells s2 V2)[j]? = (cells s0 V0)[j]? ∧ (cells s0 V0 ++ cells s1 V1 ++ cells s2 V2)[28 + j]? = (cells s1 V1)[j]? ∧ (cells s0 V0 ++ cells s1 V1 ++ cells s2 V2)[56 + j]? = (cells s2 V2)[j]? := by
  refine ⟨?_, ?_, ?_⟩
  · rw [Array.getElem?_append_left (by rw [Array.size_append, cs_size, cs_size]; omega), Array.getElem?_append_left (by rw [cs_size]; omega)]
  · rw [Array.getElem?_append_left (by rw [Array.size_append, cs_size, cs_size]; omega), Array.getElem?_append_right (by rw [cs_size]; omega), cs_size, Nat.add_sub_cancel_left]
  · rw [Array.getElem?_append_right (by rw [Array.size_append, cs_size, cs_size]; omega), Array.size_append, cs_size, cs_size]
    congr 1; omega
theorem rec_at {w : World} {g : Nat} {s0 s1 s2 : Sn} {A0 A1 A2 : Option Addr} {n0 n1 n2 c0 c1 c2 : Nat}
    (hg : w.heap[g]? = some (.cells (cells s0 (.slice A0 n0 c0) ++ cells s1 (.slice A1 n1 c1) ++ cells s2 (.slice A2 n2 c2)) 59 (0, 0)))
    (p0 : PSl w A0 n0 c0 s0.c.p) (p1 : PSl w A1 n1 c1 s1.c.p) (p2 : PSl w A2 n2 c2 s2.c.p) (m0 : s0.nm.size ≤ maxLen) (m1 : s1.nm.size ≤ maxLen) (m2 : s2.nm.size ≤ maxLen) :
    ∀ w', Below w.heap.size w w' → ∀ i, i < 3 → ∃ (s : Sn) (A : Option Addr) (n cp : Nat), w'.rangeAt g (i * 28) (cells s (.slice A n cp)).toList ∧ PSl w' A n cp s.c.p ∧ s.nm.size ≤ maxLen := by
  intro w' hb i hi
  have hlt : g < w.heap.size := by
    rcases Nat.lt_or_ge g w.heap.size with h | h
    · exact h
    · rw [Array.getElem?_eq_none h] at hg; cases hg
  have hg' := (hb.block g hlt).trans hg
  rcases (show i = 0 ∨ i = 1 ∨ i = 2 by omega) with rfl | rfl | rfl
  · refine ⟨s0, A0, n0, c0, fun j v hv => ?_, p0.step hb, m0⟩
    have hj : j < 28 := by have := (List.getElem?_eq_some_iff.1 hv).1; rwa [Array.length_toList, cs_size] at this
    rw [cell_of_row w' g _ _ _ _ hg', show 0 * 28 + j = j by omega, (rec3 s0 s1 s2 _ _ _ j hj).1, ← Array.getElem?_toList]
    exact hv
  · refine ⟨s1, A1, n1, c1, fun j v hv => ?_, p1.step hb, m1⟩
    have hj : j < 28 := by have := (List.getElem?_eq_some_iff.1 hv).1; rwa [Array.length_toList, cs_size] at this
    rw [cell_of_row w' g _ _ _ _ hg', show 1 * 28 + j = 28 + j by omega, (rec3 s0 s1 s2 _ _ _ j hj).2.1, ← Array.getElem?_toList]
    exact hv
  · refine ⟨s2, A2, n2, c2, fun j v hv => ?_, p2.step hb, m2⟩
    have hj : j < 28 := by have := (List.getElem?_eq_some_iff.1 hv).1; rwa [Array.length_toList, cs_size] at this
    rw [cell_of_row w' g _ _ _ _ hg', show 2 * 28 + j = 56 + j by omega, (rec3 s0 s1 s2 _ _ _ j hj).2.2, ← Array.getElem?_toList]
    exact hv
theorem step_build3 {ops : Array Oper} {o : Oper} {a : Act} {w : World} {K : Act → World → Prop} {Q : Exit → Act → World → Prop} {E : Prop} (hgd : o.guard = none) (x y z : Operand) (ho : o.op = .buildSlice 65 3 #[(0, x), (1, y), (2, z)])
    (s0 s1 s2 : Sn) (V0 V1 V2 : Value) (hx : a.eval x = .agg (cells s0 V0)) (hy : a.eval y = .agg (cells s1 V1)) (hz : a.eval z = .agg (cells s2 V2))
    (h : K (a.put o.dst (.slice (some ⟨w.heap.size, 0, none⟩) 3 3)) (w.alloc (.cells (cells s0 V0 ++ cells s1 V1 ++ cells s2 V2) 59))) : if Region.wanted o (yielded ops a.tmps) = true then Oper.wp Try.prog o a w K Q else E := by
  have hw : Region.wanted o (yielded ops a.tmps) = true := by simp [Region.wanted, hgd]
  rw [if_pos hw]
  have hi := infoS
  cases hq : Try.prog.info? 59 with
  | none => rw [hq] at hi; cases hi
  | some ie =>
    rw [hq] at hi
    simp only [Option.map_some, Option.some.injEq, Prod.mk.injEq] at hi
    refine wp_buildSlice _ _ 3 _ ho _ ie zeroBx Try.underlying65 hq hi.1 (by rw [hi.2]; decide) (by rw [hi.2]; decide) ?_ h
    rw [hi.2]
    simp only [List.map_toArray, List.map_cons, List.map_nil, hx, hy, hz]
    exact fill3 s0 s1 s2 V0 V1 V2
def so1 (s : Sn) (st : Nat) (raw : UInt8) : Nat := if (vs s && !s.d) = false then 0 else if andn8 st s.mx.toNat ≠ 0 then 0 else nxt s (C4p.num s.c.s raw) st
def so2 (s : Sn) (st : Nat) : Int := if (vs s && !s.d) = false then 1 else if andn8 st s.mx.toNat ≠ 0 then 2 else 0
def so3 (s : Sn) (st : Nat) (raw : UInt8) : List Ch := if (vs s && !s.d) = false then [] else if andn8 st s.mx.toNat ≠ 0 then [] else chs st (nxt s (C4p.num s.c.s raw) st) 6
theorem so3_len (s : Sn) (st : Nat) (raw : UInt8) : (so3 s st raw).length ≤ 6 := by
  unfold so3
  split
  · exact Nat.zero_le _
  · split
    · exact Nat.zero_le _
    · exact chs_len _ _ _
theorem step_out {s : Sn} {st : Nat} {raw : UInt8} {w0 w' : World} {e : Ending} (h : StepOut s st raw w0 e w') :
    ∃ A n c, e = .returned (.tuple #[.int .u8 (so1 s st raw : Nat), .slice A n c, .int .i64 (so2 s st)]) ∧ KSl w' A n c (so3 s st raw) ∧ Below w0.heap.size w0 w' := by
  obtain ⟨hb, h⟩ := h
  unfold so1 so2 so3
  by_cases h1 : (vs s && !s.d) = false
  · rw [if_pos h1] at h
    simp only [if_pos h1]
    exact ⟨none, 0, 0, h, KSl.none, hb⟩
  · rw [if_neg h1] at h
    simp only [if_neg h1]
    by_cases h2 : andn8 st s.mx.toNat ≠ 0
    · rw [if_pos h2] at h
      simp only [if_pos h2]
      exact ⟨none, 0, 0, h, KSl.none, hb⟩
    · rw [if_neg h2] at h
      simp only [if_neg h2]
      obtain ⟨v, he, ho⟩ := h
      obtain ⟨A, n, c, rfl, hs⟩ := ho.sl
      exact ⟨A, n, c, he, hs, hb⟩
def ro1 (s : Sn) (raw : UInt8) : Nat := if (vs s && !s.d) = false then 0 else wth s (C4p.num s.c.s raw) 0 0
def ro2 (s : Sn) : Int := if (vs s && !s.d) = false then 1 else 0
theorem reached_out {s : Sn} {raw : UInt8} {w0 w' : World} {e : Ending} (h : ReachedOut s raw w0 e w') : e = .returned (.tuple #[.int .u8 (ro1 s raw : Nat), .int .i64 (ro2 s)]) ∧ Below w0.heap.size w0 w' := by
  obtain ⟨hb, h⟩ := h
  unfold ro1 ro2
  by_cases h1 : (vs s && !s.d) = false
  · rw [if_pos h1] at h
    simp only [if_pos h1]
    exact ⟨h, hb⟩
  · rw [if_neg h1] at h
    simp only [if_neg h1]
    exact ⟨h, hb⟩
end Go.Proofs.Ytafoaonkjcfbaaa.Ya
