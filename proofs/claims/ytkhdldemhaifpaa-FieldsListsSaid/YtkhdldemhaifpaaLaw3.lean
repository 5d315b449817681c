/- From a law's walk to its row: a slice of fields as a parameter. -/
import Derived.Test.YtkhdldemhaifpaaLaw2
import Derived.Test.YtkhdldemhaifpaaFl
namespace Go.Proofs.Ytkhdldemhaifpaa.Law
open Go.RowKit Go.ChangeShapes Go.WideShapes Go.ChangeAt Go.Proofs.Ytkhdldemhaifpaa.Mem Go.Proofs.Ytkhdldemhaifpaa.Fl

section
variable {H : Type} {enc : TypeId × Value → H} {P : Program}
theorem fvs_of (V0 V1 : Nat → Value) : ∀ (l : List Fi) (_ : ∀ i (h : i < l.length), V0 i = .int .i64 l[i].1 ∧ V1 i = .string l[i].2) (j : Nat) (hj : j < (fvs l).length), (fvs l)[j] = if j % 2 = 0 then V0 (j / 2) else V1 (j / 2) := by
  intro l h j hj
  rw [fvs_len] at hj
  have hk : j / 2 < l.length := by omega
  obtain ⟨g0, g1⟩ := fvs_get l (j / 2) hk
  obtain ⟨e0, e1⟩ := h (j / 2) hk
  by_cases h2 : j % 2 = 0
  · rw [if_pos h2, e0]
    have : j / 2 * 2 = j := by omega
    rw [this, List.getElem?_eq_getElem (by rw [fvs_len]; omega)] at g0
    exact Option.some.inj g0
  · rw [if_neg h2, e1]
    have : j / 2 * 2 + 1 = j := by omega
    rw [this, List.getElem?_eq_getElem (by rw [fvs_len]; omega)] at g1
    exact Option.some.inj g1
theorem open_fields {w : World} {base : Nat} {t e : TypeId} {f0 f1 : Field} {v : Value} {d : DataW H} {ps : List MemPlace} (ht : P.underlying t = some (.slice e)) (he : P.underlying e = some (.struct #[f0, f1]))
    (ce : P.cellsOf e = 2) (o0 : f0.offset = 0) (o1 : f1.offset = 1) (c0 : P.cellsOf f0.type = 1) (c1 : P.cellsOf f1.type = 1) (h0 : P.underlying f0.type = some (.int .i64)) (h1 : P.underlying f1.type = some .string)
    {r : Reach} {b0 : Nat} (hval : Value.okWide P w r b0 t v) (h : DataW.Trod enc P w base (fun _ => true) true t v d ps) :
    ∃ (A : Option Addr) (n c : Nat) (l : List Fi), v = .slice A n c ∧ n = l.length ∧ FRow w.heap.size w A l ∧ (∀ x ∈ l, x.2.size ≤ maxLen) ∧ n ≤ c ∧ c ≤ maxLen ∧ (A = none → c = 0) := by
  obtain ⟨a0, len0, cap0, rfl⟩ := okWide_slice ht hval
  obtain ⟨m, hm⟩ := h
  rcases Go.Deep.open_slice_pairs ht he ce o0 o1 c0 c1 hm with ⟨e1, -⟩ | ⟨a, len, cap, mm, n, V0, V1, D0, D1, P0, P1, e1, -, hl, hcm, hmm, -, hx⟩
  · have e1 : Value.slice a0 len0 cap0 = Value.slice none 0 0 := by simpa [Value.cells] using e1
    exact ⟨none, 0, 0, [], e1, rfl, Rd.nil, by simp, Nat.le_refl _, by unfold maxLen; omega, fun _ => rfl⟩
  · have e1 : Value.slice a0 len0 cap0 = Value.slice (some a) len cap := by simpa [Value.cells] using e1
    have hlm : len ≤ mm := by rw [hmm]; simp; exact hl
    have each : ∀ i, i < len → ∃ q : Fi, V0 i = .int .i64 q.1 ∧ V1 i = .string q.2 ∧ q.2.size ≤ maxLen := fun i hi => by
      obtain ⟨-, -, g0, g1⟩ := hx i (by omega)
      obtain ⟨k, e0, -, -⟩ := DataW.trod_int h0 g0
      obtain ⟨s, e2, -, hs⟩ := DataW.trod_string h1 g1
      injection e0 with e0
      injection e2 with e2
      exact ⟨(k, s), e0, e2, hs⟩
    obtain ⟨q, hq⟩ : ∃ q : Nat → Fi, ∀ i, i < len → V0 i = .int .i64 (q i).1 ∧ V1 i = .string (q i).2 ∧ (q i).2.size ≤ maxLen := by
      refine ⟨fun i => if hi : i < len then Classical.choose (each i hi) else (0, ⟨#[]⟩), fun i hi => ?_⟩
      simp only [hi, dif_pos]
      exact Classical.choose_spec (each i hi)
    have hlen : ((List.range len).map q).length = len := by simp
    have hget : ∀ i (h : i < ((List.range len).map q).length), V0 i = .int .i64 (((List.range len).map q)[i]).1 ∧ V1 i = .string (((List.range len).map q)[i]).2 := fun i hi => by
      rw [hlen] at hi
      obtain ⟨a1, a2, -⟩ := hq i hi
      simp [a1, a2]
    refine ⟨some a, len, cap, (List.range len).map q, e1, hlen.symm, fun hpos => ⟨a, rfl, ?_, fun k hk => ?_⟩, fun x hx' => ?_, hl, hcm, fun hh => by cases hh⟩
    · rw [fvs_len, hlen] at hpos
      have hcell := (hx 0 (by omega)).1
      rw [← add_block a (0 * 2)]
      rcases Nat.lt_or_ge (a.add (0 * 2)).block w.heap.size with hh | hh
      · exact hh
      · simp [World.cell?, Array.getElem?_eq_none hh] at hcell
    · rw [fvs_of V0 V1 _ hget k hk]
      rw [fvs_len, hlen] at hk
      obtain ⟨g0, g1, -, -⟩ := hx (k / 2) (by omega)
      by_cases h2 : k % 2 = 0
      · rw [if_pos h2, ← g0]
        have : k / 2 * 2 = k := by omega
        rw [this]
      · rw [if_neg h2, ← g1]
        have : k / 2 * 2 + 1 = k := by omega
        rw [this]
    · obtain ⟨i, hi, rfl⟩ := List.mem_map.1 hx'
      exact (hq i (List.mem_range.1 hi)).2.2
end
end Go.Proofs.Ytkhdldemhaifpaa.Law
