/- From a law's walk to its row: strings and fields as parameters. -/
import Derived.Test.YtafoaonkjcfbaaaLaw
import Derived.Deep.SlicePairs
namespace Go.Proofs.Ytafoaonkjcfbaaa.Law
open Go.RowKit Go.ChangeShapes Go.WideShapes Go.ChangeAt Go.Proofs.Ytafoaonkjcfbaaa.Mem

section
variable {H : Type} {enc : TypeId × Value → H} {P : Program}
theorem open_str {w : World} {base : Nat} {t : TypeId} {v : Value} {d : DataW H} {ps : List MemPlace} (ht : P.underlying t = some .string)
    {r : Reach} {b0 : Nat} (hval : Value.okWide P w r b0 t v) (h : DataW.Trod enc P w base (fun _ => true) true t v d ps) : ∃ s : ByteArray, v = .string s ∧ s.size ≤ maxLen := by
  obtain ⟨s, rfl⟩ := okWide_string ht hval
  obtain ⟨fuel, hf⟩ := h
  obtain ⟨s', h1, -, hs⟩ := DataW.trod_string ht hf
  simp [Value.cells] at h1
  subst h1
  exact ⟨s, rfl, hs⟩
theorem open_field {w : World} {base : Nat} {t : TypeId} {f0 f1 : Field} {v : Value} {d : DataW H} {ps : List MemPlace} (ht : P.underlying t = some (.struct #[f0, f1]))
    (ce : P.cellsOf t = 2) (o0 : f0.offset = 0) (o1 : f1.offset = 1) (c0 : P.cellsOf f0.type = 1) (c1 : P.cellsOf f1.type = 1) (h0 : P.underlying f0.type = some (.int .i64)) (h1 : P.underlying f1.type = some .string)
    {r : Reach} {b0 : Nat} (hval : Value.okWide P w r b0 t v) (h : DataW.Trod enc P w base (fun _ => true) true t v d ps) :
    ∃ (k : Int) (s : ByteArray), v = .agg #[.int .i64 k, .string s] ∧ (-9223372036854775808 ≤ k ∧ k ≤ 9223372036854775807) ∧ s.size ≤ maxLen := by
  obtain ⟨cs, rfl, hcs⟩ := okWide_struct ht hval
  obtain ⟨fuel, hf⟩ := h
  obtain ⟨xs, n, -, -, hl, hxl, hall⟩ := DataW.trod_struct ht hf
  have g0 := hall 0 f0 rfl
  have g1 := hall 1 f1 rfl
  simp only [Value.cells, o0, o1, c0, c1] at g0 g1 hl
  rcases cs with ⟨l⟩
  rw [ce] at hcs
  match l, hcs with
  | [a, b], _ =>
    match xs, hxl with
    | [x, y], _ =>
      simp at g0 g1
      obtain ⟨k, e0, -, hk⟩ := DataW.trod_int h0 g0
      obtain ⟨s, e1, -, hs⟩ := DataW.trod_string h1 g1
      simp at e0 e1
      subst e0 e1
      exact ⟨k, s, rfl, bounds_i64 hk, hs⟩
end
end Go.Proofs.Ytafoaonkjcfbaaa.Law
