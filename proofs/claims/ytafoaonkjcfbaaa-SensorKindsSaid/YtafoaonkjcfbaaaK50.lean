/- Small lemmas for SensorValid: four records in one row; the records that are light. -/
import Derived.Test.YtafoaonkjcfbaaaK24
import Derived.Test.YtafoaonkjcfbaaaK49
import Derived.Great.BuildSlice
import Derived.Deep.MidRow
namespace Go.Proofs.Ytafoaonkjcfbaaa.Yv
open Go.RowKit Go.Proofs.Ytafoaonkjcfbaaa.Mem Go.Proofs.Ytafoaonkjcfbaaa.F2p Go.Proofs.Ytafoaonkjcfbaaa.C4l Go.Proofs.Ytafoaonkjcfbaaa.Ta Go.Proofs.Ytafoaonkjcfbaaa.Tb
set_option maxRecDepth 100000
set_option maxHeartbeats 1000000

def zeroBx : Value := .agg #[.int .u8 0, .int .u8 0, .int .u8 0, .string ⟨#[]⟩, .int .u8 0, .int .u8 0, .bool false, .int .i64 0, .bool false, .int .i64 0, .int .i64 0, .int .i64 0, .int .i64 0, .slice none 0 0, .int .u8 0, .int .u8 0, .int .u8 0, .int .u8 0, .int .u8 0, .int .u8 0, .int .u8 0, .int .u8 0, .int .u8 0, .int .u16 0, .int .u16 0, .int .u16 0, .bool false, .int .i64 0]
theorem infoS : (Try.prog.info? 59).map (fun i => (i.zero, i.size)) = some (some zeroBx, 28) := by kernel_rfl
theorem fill4 (s0 s1 s2 s3 : Sn) (V0 V1 V2 V3 : Value) : Instr.fill (fun i => some (i * 28, 28)) ((Array.range (4 * 28)).map (zeroBx.cells[· % zeroBx.cells.size]!)) [(0, .agg (cells s0 V0)), (1, .agg (cells s1 V1)), (2, .agg (cells s2 V2)), (3, .agg (cells s3 V3))] = some ((cells s0 V0 ++ cells s1 V1) ++ (cells s2 V2 ++ cells s3 V3)) := by
  kernel_rfl
theorem cs_size (s : Sn) (V : Value) : (cells s V).size = 28 := rfl
theorem app4 (a b c d : Array Value) (ha : a.size = 28) (hb : b.size = 28) (hc : c.size = 28) (j : Nat) (hj : j < 28) :
    ((a ++ b) ++ (c ++ d))[j]? = a[j]? ∧ ((a ++ b) ++ (c ++ d))[28 + j]? = b[j]? ∧ ((a ++ b) ++ (c ++ d))[56 + j]? = c[j]? ∧ ((a ++ b) ++ (c ++ d))[84 + j]? = d[j]? := by
  have h2 : (a ++ b).size = 56 := by rw [Array.size_append, ha, hb]
  refine ⟨?_, ?_, ?_, ?_⟩
  · rw [Array.getElem?_append, h2, if_pos (by omega), Array.getElem?_append, ha, if_pos hj]
  · rw [Array.getElem?_append, h2, if_pos (by omega), Array.getElem?_append, ha, if_neg (by omega), Nat.add_sub_cancel_left]
  · rw [Array.getElem?_append, h2, if_neg (by omega), Nat.add_sub_cancel_left, Array.getElem?_append, hc, if_pos hj]
  · rw [Array.getElem?_append, h2, if_neg (by omega), Array.getElem?_append, hc, if_neg (by omega)]
    congr 1; omega
theorem rec4 (s0 s1 s2 s3 : Sn) (V0 V1 V2 V3 : Value) (j : Nat) (hj : j < 28) :
    ((cells s0 V0 ++ cells s1 V1) ++ (cells s2 V2 ++ cells s3 V3))[j]? = (cells s0 V0)[j]? ∧ ((cells s0 V0 ++ cells s1 V1) ++ (cells s2 V2 ++ cells s3 V3))[28 + j]? = (cells s1 V1)[j]? ∧
    ((cells s0 V0 ++ cells s1 V1) ++ (cells s2 V2 ++ cells s3 V3))[56 + j]? = (cells s2 V2)[j]? ∧ ((cells s0 V0 ++ cells s1 V1) ++ (cells s2 V2 ++ cells s3 V3))[84 + j]? = (cells s3 V3)[j]? :=
  app4 _ _ _ _ (cs_size _ _) (cs_size _ _) (cs_size _ _) j hj
theorem psl_own {base : Nat} {w : World} {A : Option Addr} {n c : Nat} {p : List Pt} (h : POwn base w (.slice A n c) p) : PSl w A n c p := by
  obtain ⟨A', n', c', e, hs⟩ := h.sl
  injection e with e1 e2 e3
  subst e1 e2 e3
  exact hs
/-- A record that is read: short, its points there. -/
def Rec (w : World) (s : Sn) (A : Option Addr) (n cp : Nat) : Prop := PSl w A n cp s.c.p ∧ s.nm.size ≤ maxLen
theorem rec_at {w : World} {g : Nat} {s0 s1 s2 s3 : Sn} {A0 A1 A2 A3 : Option Addr} {n0 n1 n2 n3 c0 c1 c2 c3 : Nat}
    (hg : w.heap[g]? = some (.cells ((cells s0 (.slice A0 n0 c0) ++ cells s1 (.slice A1 n1 c1)) ++ (cells s2 (.slice A2 n2 c2) ++ cells s3 (.slice A3 n3 c3))) 59 (0, 0)))
    (p0 : Rec w s0 A0 n0 c0) (p1 : Rec w s1 A1 n1 c1) (p2 : Rec w s2 A2 n2 c2) (p3 : Rec w s3 A3 n3 c3) :
    ∀ w', Below w.heap.size w w' → ∀ i, i < 4 → ∃ (s : Sn) (A : Option Addr) (n cp : Nat), w'.rangeAt g (i * 28) (cells s (.slice A n cp)).toList ∧ PSl w' A n cp s.c.p ∧ s.nm.size ≤ maxLen := by
  intro w' hb i hi
  have hlt : g < w.heap.size := by
    rcases Nat.lt_or_ge g w.heap.size with h | h
    · exact h
    · rw [Array.getElem?_eq_none h] at hg; cases hg
  have hg' := (hb.block g hlt).trans hg
  rcases (show i = 0 ∨ i = 1 ∨ i = 2 ∨ i = 3 by omega) with rfl | rfl | rfl | rfl
  · refine ⟨s0, A0, n0, c0, fun j v hv => ?_, p0.1.step hb, p0.2⟩
    have hj : j < 28 := by have := (List.getElem?_eq_some_iff.1 hv).1; rwa [Array.length_toList, cs_size] at this
    rw [cell_of_row w' g _ _ _ _ hg', show 0 * 28 + j = j by omega, (rec4 s0 s1 s2 s3 _ _ _ _ j hj).1, ← Array.getElem?_toList]
    exact hv
  · refine ⟨s1, A1, n1, c1, fun j v hv => ?_, p1.1.step hb, p1.2⟩
    have hj : j < 28 := by have := (List.getElem?_eq_some_iff.1 hv).1; rwa [Array.length_toList, cs_size] at this
    rw [cell_of_row w' g _ _ _ _ hg', show 1 * 28 + j = 28 + j by omega, (rec4 s0 s1 s2 s3 _ _ _ _ j hj).2.1, ← Array.getElem?_toList]
    exact hv
  · refine ⟨s2, A2, n2, c2, fun j v hv => ?_, p2.1.step hb, p2.2⟩
    have hj : j < 28 := by have := (List.getElem?_eq_some_iff.1 hv).1; rwa [Array.length_toList, cs_size] at this
    rw [cell_of_row w' g _ _ _ _ hg', show 2 * 28 + j = 56 + j by omega, (rec4 s0 s1 s2 s3 _ _ _ _ j hj).2.2.1, ← Array.getElem?_toList]
    exact hv
  · refine ⟨s3, A3, n3, c3, fun j v hv => ?_, p3.1.step hb, p3.2⟩
    have hj : j < 28 := by have := (List.getElem?_eq_some_iff.1 hv).1; rwa [Array.length_toList, cs_size] at this
    rw [cell_of_row w' g _ _ _ _ hg', show 3 * 28 + j = 84 + j by omega, (rec4 s0 s1 s2 s3 _ _ _ _ j hj).2.2.2, ← Array.getElem?_toList]
    exact hv
theorem step_build4 {ops : Array Oper} {o : Oper} {a : Act} {w : World} {K : Act → World → Prop} {Q : Exit → Act → World → Prop} {E : Prop} (hgd : o.guard = none) (x y z u : Operand) (ho : o.op = .buildSlice 65 4 #[(0, x), (1, y), (2, z), (3, u)])
    (s0 s1 s2 s3 : Sn) (V0 V1 V2 V3 : Value) (hx : a.eval x = .agg (cells s0 V0)) (hy : a.eval y = .agg (cells s1 V1)) (hz : a.eval z = .agg (cells s2 V2)) (hu : a.eval u = .agg (cells s3 V3))
    (h : K (a.put o.dst (.slice (some ⟨w.heap.size, 0, none⟩) 4 4)) (w.alloc (.cells ((cells s0 V0 ++ cells s1 V1) ++ (cells s2 V2 ++ cells s3 V3)) 59))) : if Region.wanted o (yielded ops a.tmps) = true then Oper.wp Try.prog o a w K Q else E := by
  have hw : Region.wanted o (yielded ops a.tmps) = true := by simp [Region.wanted, hgd]
  rw [if_pos hw]
  have hi := infoS
  cases hq : Try.prog.info? 59 with
  | none => rw [hq] at hi; cases hi
  | some ie =>
    rw [hq] at hi
    simp only [Option.map_some, Option.some.injEq, Prod.mk.injEq] at hi
    refine wp_buildSlice _ _ 4 _ ho _ ie zeroBx Try.underlying65 hq hi.1 (by rw [hi.2]; decide) (by rw [hi.2]; decide) ?_ h
    rw [hi.2]
    simp only [List.map_toArray, List.map_cons, List.map_nil, hx, hy, hz, hu]
    exact fill4 s0 s1 s2 s3 V0 V1 V2 V3
/-- What is short enough. -/
theorem light10 (s : Sn) (A : Option Addr) (n cp : Nat) (w : World) (hn : n ≤ maxLen) (hnm : s.nm.size ≤ maxLen) :
    Calls Try.prog 24 #[.agg (cells s (.slice A n cp))] w fun e w' => e = .returned (.bool (decide (s.nm.size ≤ 100) && decide (n ≤ 40))) ∧ Below w.heap.size w w' := by
  have hb0 : Below w.heap.size w (w.alloc (.cells (cells s (.slice A n cp)) 59)) := (Below.refl _ _).alloc (Nat.le_refl _) _
  have hx0 : Bx (w.alloc (.cells (cells s (.slice A n cp)) 59)) w.heap.size s (.slice A n cp) := heap_alloc_new w _
  have c3 : (w.alloc (.cells (cells s (.slice A n cp)) 59)).cell? ⟨w.heap.size, 3, none⟩ = some (.string s.nm) := hx0.c 3
  have c13 : (w.alloc (.cells (cells s (.slice A n cp)) 59)).cell? ⟨w.heap.size, 13, none⟩ = some (.slice A n cp) := hx0.c 13
  unfold maxLen at hn hnm
  clear hx0
  go_enter Try.func24, Try.ntmps24
  by_cases h1 : s.nm.size ≤ 100
  · have d1 : decide ((s.nm.size : Int) ≤ 100) = true := decide_eq_true (by omega)
    by_cases h2 : n ≤ 40
    · have d2 : decide ((n : Int) ≤ 40) = true := decide_eq_true (by omega)
      go_wp2_with fail
      go_ret
      exact ⟨by rw [decide_eq_true h1, decide_eq_true h2]; rfl, hb0⟩
    · have d2 : decide ((n : Int) ≤ 40) = false := decide_eq_false (by omega)
      go_wp2_with fail
      go_ret
      exact ⟨by rw [decide_eq_false h2, Bool.and_false]; rfl, hb0⟩
  · have d1 : decide ((s.nm.size : Int) ≤ 100) = false := decide_eq_false (by omega)
    go_wp2_with fail
    go_ret
    exact ⟨by rw [decide_eq_false h1, Bool.false_and]; rfl, hb0⟩
end Go.Proofs.Ytafoaonkjcfbaaa.Yv
