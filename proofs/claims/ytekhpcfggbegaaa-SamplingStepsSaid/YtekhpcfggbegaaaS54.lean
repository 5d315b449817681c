/- From a law's walk to its row: lists of samples and filters as parameters. -/
import Derived.Test.YtekhpcfggbegaaaS53
import Derived.Test.YtekhpcfggbegaaaS44
import Derived.Deep.Slices
namespace Go.Proofs.Ytekhpcfggbegaaa.Law
open Go.RowKit Go.ChangeShapes Go.WideShapes Go.ChangeAt Go.Proofs.Ytekhpcfggbegaaa.Mem
set_option maxRecDepth 100000
set_option maxHeartbeats 400000

section
variable {H : Type} {enc : TypeId × Value → H} {P : Program}
theorem flat_get {α : Type} (c : α → List Value) (m : Nat) (hc : ∀ q, (c q).length = m) : ∀ (l : List α) (k : Nat) (h : k < l.length) (j : Nat), j < m → (l.flatMap c)[k * m + j]? = (c l[k])[j]?
  | x :: l, 0, _, j, hj => by
    simp only [List.flatMap_cons, Nat.zero_mul, Nat.zero_add, List.getElem_cons_zero]
    rw [List.getElem?_append_left (by rw [hc]; exact hj)]
  | x :: l, k + 1, h, j, hj => by
    have := flat_get c m hc l k (by simpa using h) j hj
    simp only [List.flatMap_cons, List.getElem_cons_succ]
    rw [List.getElem?_append_right (by rw [hc, Nat.add_mul]; omega), hc, ← this]
    congr 1; rw [Nat.add_mul]; omega
theorem flat_len {α : Type} (c : α → List Value) (m : Nat) (hc : ∀ q, (c q).length = m) (l : List α) : (l.flatMap c).length = l.length * m := by
  induction l with
  | nil => simp
  | cons x l ih => simp only [List.flatMap_cons, List.length_append, List.length_cons, ih, hc, Nat.add_mul]; omega
/-- A slice of structs that hold no pointer. -/
theorem open_list {α : Type} (zero : α) (c : α → List Value) (m : Nat) (hm0 : 0 < m) (hc : ∀ q, (c q).length = m) (good : α → Prop) {w : World} {base : Nat} {t e : TypeId} {v : Value} {d : DataW H} {ps : List MemPlace}
    (ht : P.underlying t = some (.slice e)) (ce : P.cellsOf e = m)
    (hcell : ∀ (fuel : Nat) (cs : List Value) (x : DataW H × List MemPlace), cs.length = m → DataW.trod enc P w base (fun _ => true) true fuel e cs = some x → ∃ q, cs = c q ∧ good q)
    {r : Reach} {b0 : Nat} (hval : Value.okWide P w r b0 t v) (h : DataW.Trod enc P w base (fun _ => true) true t v d ps) :
    ∃ (A : Option Addr) (n cap : Nat) (l : List α), v = .slice A n cap ∧ n = l.length ∧ Rd w.heap.size w A (l.flatMap c) ∧ (∀ q ∈ l, good q) ∧ n ≤ cap ∧ cap ≤ maxLen ∧ (A = none → cap = 0) := by
  obtain ⟨a0, len0, cap0, rfl⟩ := okWide_slice ht hval
  obtain ⟨fuel, hm⟩ := h
  rcases Go.Deep.open_slice ht hm with ⟨e1, -⟩ | ⟨a, len, cap, k, n, D, Pl, e1, hbb, hl, hcm, hmm, -, hx⟩
  · have e1 : Value.slice a0 len0 cap0 = Value.slice none 0 0 := by simpa [Value.cells] using e1
    exact ⟨none, 0, 0, [], e1, rfl, Rd.nil, by simp, Nat.le_refl _, by unfold maxLen; omega, fun _ => rfl⟩
  · have e1 : Value.slice a0 len0 cap0 = Value.slice (some a) len cap := by simpa [Value.cells] using e1
    have hlm : len ≤ k := by rw [hmm]; simp; exact hl
    have each : ∀ i, i < len → ∃ q : α, good q ∧ ∀ j, j < m → w.cell? (a.add (i * m + j)) = (c q)[j]? := fun i hi => by
      obtain ⟨cs', g1, g2⟩ := hx i (by omega)
      rw [ce] at g1
      obtain ⟨_, hlen, hcl⟩ := World.cells?_some g1
      obtain ⟨q, rfl, hq⟩ := hcell _ _ _ hlen g2
      refine ⟨q, hq, fun j hj => ?_⟩
      have := hcl j (by omega)
      rw [← add_add]
      exact this
    have hd : ∃ q : Nat → α, ∀ i, i < len → good (q i) ∧ ∀ j, j < m → w.cell? (a.add (i * m + j)) = (c (q i))[j]? := by
      refine ⟨fun i => if hi : i < len then Classical.choose (each i hi) else zero, fun i hi => ?_⟩
      simp only [hi, dif_pos]
      exact Classical.choose_spec (each i hi)
    obtain ⟨q, hq⟩ := hd
    refine ⟨some a, len, cap, (List.range len).map q, e1, by simp, fun hpos => ⟨a, rfl, ?_, fun i hi => ?_⟩, fun x hx' => ?_, hl, hcm, fun hh => by cases hh⟩
    · rw [flat_len c m hc] at hpos
      have hp0 : 0 < len := by
        rcases Nat.eq_zero_or_pos len with h | h
        · rw [h] at hpos; simp at hpos
        · exact h
      have h0 := (hq 0 hp0).2 0 hm0
      rw [List.getElem?_eq_getElem (show 0 < (c (q 0)).length by rw [hc]; exact hm0)] at h0
      rw [← add_block a (0 * m + 0)]
      rcases Nat.lt_or_ge (a.add (0 * m + 0)).block w.heap.size with hh | hh
      · exact hh
      · exfalso
        unfold World.cell? at h0
        rw [Array.getElem?_eq_none hh] at h0
        cases h0
    · have hi' := hi
      rw [flat_len c m hc] at hi'
      simp at hi'
      have hdiv : i / m < len := (Nat.div_lt_iff_lt_mul hm0).2 hi'
      have hmod : i % m < m := Nat.mod_lt _ hm0
      have hsum : i / m * m + i % m = i := by rw [Nat.mul_comm]; exact Nat.div_add_mod i m
      have h1 := (hq (i / m) hdiv).2 (i % m) hmod
      have h2 := flat_get c m hc ((List.range len).map q) (i / m) (by simpa using hdiv) (i % m) hmod
      rw [hsum] at h1 h2
      rw [h1]
      rw [List.getElem?_eq_getElem hi] at h2
      rw [h2]
      simp
    · obtain ⟨i, hi, rfl⟩ := List.mem_map.1 hx'
      exact (hq i (List.mem_range.1 hi)).1
theorem tvs_flat (l : List Jk.Tk) : Jk.tvs l = l.flatMap (fun e => e.cells.toList) := by
  induction l with
  | nil => rfl
  | cons x l ih => rw [Jk.tvs, List.flatMap_cons, ih]
/-- A list of samples. -/
theorem open_takes {w : World} {base : Nat} {t e : TypeId} {f0 f1 : Field} {v : Value} {d : DataW H} {ps : List MemPlace} (hs : P.underlying t = some (.slice e)) (ht : P.underlying e = some (.struct #[f0, f1]))
    (ce : P.cellsOf e = 2) (ho : f0.offset = 0 ∧ f1.offset = 1) (hc : P.cellsOf f0.type = 1 ∧ P.cellsOf f1.type = 1)
    (h0 : P.underlying f0.type = some (.int .u8)) (h1 : P.underlying f1.type = some .bool)
    {r : Reach} {b0 : Nat} (hval : Value.okWide P w r b0 t v) (h : DataW.Trod enc P w base (fun _ => true) true t v d ps) :
    ∃ (A : Option Addr) (n c : Nat) (l : List Jk.Tk), v = .slice A n c ∧ Jk.TSl w A n c l := by
  obtain ⟨A, n, c, l, e1, e2, e3, -, e5, e6, e7⟩ := open_list (⟨0, false⟩ : Jk.Tk) (fun e => e.cells.toList) 2 (by omega) (fun _ => rfl) (fun _ => True) hs ce (fun fuel cs x hl hf => by
    obtain ⟨xs, n, -, -, -, hxl, hall⟩ := DataW.trod_struct ht hf
    obtain ⟨o0, o1⟩ := ho
    obtain ⟨c0, c1⟩ := hc
    have g0 := hall 0 f0 rfl
    have g1 := hall 1 f1 rfl
    simp only [o0, o1, c0, c1] at g0 g1
    match cs, hl with
    | [z0, z1], _ =>
      match xs, hxl with
      | [x0, x1], _ =>
        simp at g0 g1
        obtain ⟨a0, e0, -, w0⟩ := DataW.trod_int h0 g0
        obtain ⟨a1, e1, -⟩ := DataW.trod_bool h1 g1
        simp at e0 e1
        subst e0 e1
        obtain ⟨b1, b2⟩ := bounds_u8 w0
        refine ⟨⟨UInt8.ofNat a0.toNat, a1⟩, ?_, trivial⟩
        have : ((UInt8.ofNat a0.toNat).toNat : Int) = a0 := by rw [UInt8.toNat_ofNat']; omega
        show _ = [Value.int .u8 ((UInt8.ofNat a0.toNat).toNat : Int), .bool a1]
        rw [this]) hval h
  exact ⟨A, n, c, l, e1, ⟨e2, by show Rd _ _ _ (Jk.tvs l); rw [tvs_flat]; exact e3, e5, e6, e7⟩⟩
/-- A filter. -/
theorem open_filter {w : World} {base : Nat} {t e : TypeId} {f0 f1 : Field} {v : Value} {d : DataW H} {ps : List MemPlace} (ht : P.underlying t = some (.struct #[f0, f1]))
    (ce : P.cellsOf t = 2) (o0 : f0.offset = 0) (o1 : f1.offset = 1) (c0 : P.cellsOf f0.type = 1) (c1 : P.cellsOf f1.type = 1) (h0 : P.underlying f0.type = some (.slice e)) (he : P.underlying e = some (.int .u8)) (hc : P.cellsOf e = 1) (h1 : P.underlying f1.type = some (.int .i64))
    {r : Reach} {b0 : Nat} (hval : Value.okWide P w r b0 t v) (h : DataW.Trod enc P w base (fun _ => true) true t v d ps) :
    ∃ (A : Option Addr) (n c : Nat) (l : List UInt8) (m : Int), v = .agg #[.slice A n c, .int .i64 m] ∧ Sl w A n c l ∧ (-9223372036854775808 ≤ m ∧ m ≤ 9223372036854775807) := by
  obtain ⟨cs, rfl, hcs⟩ := okWide_struct ht hval
  obtain ⟨fuel, hf⟩ := h
  obtain ⟨xs, n, -, -, hl, hxl, hall⟩ := DataW.trod_struct ht hf
  have g0 := hall 0 f0 rfl
  have g1 := hall 1 f1 rfl
  simp only [Value.cells, o0, o1, c0, c1] at g0 g1 hl
  rcases cs with ⟨l⟩
  rw [ce] at hcs
  match l, hcs with
  | [a, b], _ =>
    match xs, hxl with
    | [x, y], _ =>
      simp at g0 g1
      obtain ⟨k, e1, -, hk⟩ := DataW.trod_int h1 g1
      simp at e1
      subst e1
      rcases open_ints h0 he hc g0 with ⟨q1, q2⟩ | ⟨a, len, cap, zs, q1, -, q3, q4, q5, -, q7, q8⟩
      · simp at q1
        subst q1
        exact ⟨none, 0, 0, [], k, rfl, ⟨rfl, Rd.nil, Nat.le_refl _, by unfold maxLen; omega, fun _ => rfl⟩, bounds_i64 hk⟩
      · simp at q1
        subst q1
        simp only [if_true] at q5
        refine ⟨some a, len, cap, (zs.take len).map (fun z => UInt8.ofNat z.toNat), k, rfl, ⟨by simp; omega, fun hl => ⟨a, rfl, ?_, fun k hk => ?_⟩, q3, q4, fun hh => by cases hh⟩, bounds_i64 hk⟩
        · have hz : 0 < zs.length := by simp [bvs] at hl; omega
          have hcell := q7 0 hz
          rw [← add_block a 0]
          rcases Nat.lt_or_ge (a.add 0).block w.heap.size with hh | hh
          · exact hh
          · simp [World.cell?, Array.getElem?_eq_none hh] at hcell
        · have hk' : k < zs.length := by simp [bvs] at hk; omega
          rw [q7 k hk']
          have hw := q8 _ (List.getElem_mem hk')
          have hx : 0 ≤ zs[k] ∧ zs[k] ≤ 255 := by simpa [Lit.wf, IntKind.min, IntKind.max, IntKind.signed, IntKind.bits] using hw
          have e1 : zs.getD k 0 = zs[k] := by rw [List.getD, List.getElem?_eq_getElem hk']; rfl
          have e2 : ((UInt8.ofNat zs[k].toNat).toNat : Int) = zs[k] := by rw [UInt8.toNat_ofNat']; omega
          rw [e1]
          simp only [bvs, List.getElem_map, List.getElem_take, bv, e2]
end
end Go.Proofs.Ytekhpcfggbegaaa.Law
