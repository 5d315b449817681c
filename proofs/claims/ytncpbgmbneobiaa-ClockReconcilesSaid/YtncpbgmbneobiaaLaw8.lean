/- From a law's walk to its row: clocks, lists of events and of acts as parameters. -/
import Derived.Test.YtncpbgmbneobiaaLaw7
import Derived.Test.YtncpbgmbneobiaaV9e
import Derived.Test.YtncpbgmbneobiaaV9a
import Derived.Deep.Slices
namespace Go.Proofs.Ytncpbgmbneobiaa.Law
open Go.RowKit Go.ChangeShapes Go.WideShapes Go.ChangeAt Go.Proofs.Ytncpbgmbneobiaa.Mem Go.Proofs.Ytncpbgmbneobiaa.V7 Go.Proofs.Ytncpbgmbneobiaa.V9
set_option maxRecDepth 100000
set_option maxHeartbeats 400000

section
variable {H : Type} {enc : TypeId × Value → H} {P : Program}
theorem flat_get {α : Type} (c : α → List Value) (m : Nat) (hc : ∀ q, (c q).length = m) : ∀ (l : List α) (k : Nat) (h : k < l.length) (j : Nat), j < m → (l.flatMap c)[k * m + j]? = (c l[k])[j]?
  | x :: l, 0, _, j, hj => by
    simp only [List.flatMap_cons, Nat.zero_mul, Nat.zero_add, List.getElem_cons_zero]
    rw [List.getElem?_append_left (by rw [hc]; exact hj)]
  | x :: l, k + 1, h, j, hj => by
    have := flat_get c m hc l k (by simpa using h) j hj
    simp only [List.flatMap_cons, List.getElem_cons_succ]
    rw [List.getElem?_append_right (by rw [hc, Nat.add_mul]; omega), hc, ← this]
    congr 1; rw [Nat.add_mul]; omega
theorem flat_len {α : Type} (c : α → List Value) (m : Nat) (hc : ∀ q, (c q).length = m) (l : List α) : (l.flatMap c).length = l.length * m := by
  induction l with
  | nil => simp
  | cons x l ih => simp only [List.flatMap_cons, List.length_append, List.length_cons, ih, hc, Nat.add_mul]; omega
/-- A slice of structs that hold no pointer. -/
theorem open_list {α : Type} (zero : α) (c : α → List Value) (m : Nat) (hm0 : 0 < m) (hc : ∀ q, (c q).length = m) (good : α → Prop) {w : World} {base : Nat} {t e : TypeId} {v : Value} {d : DataW H} {ps : List MemPlace}
    (ht : P.underlying t = some (.slice e)) (ce : P.cellsOf e = m)
    (hcell : ∀ (fuel : Nat) (cs : List Value) (x : DataW H × List MemPlace), cs.length = m → DataW.trod enc P w base (fun _ => true) true fuel e cs = some x → ∃ q, cs = c q ∧ good q)
    {r : Reach} {b0 : Nat} (hval : Value.okWide P w r b0 t v) (h : DataW.Trod enc P w base (fun _ => true) true t v d ps) :
    ∃ (A : Option Addr) (n cap : Nat) (l : List α), v = .slice A n cap ∧ n = l.length ∧ Rd w.heap.size w A (l.flatMap c) ∧ (∀ q ∈ l, good q) ∧ n ≤ cap ∧ cap ≤ maxLen ∧ (A = none → cap = 0) := by
  obtain ⟨a0, len0, cap0, rfl⟩ := okWide_slice ht hval
  obtain ⟨fuel, hm⟩ := h
  rcases Go.Deep.open_slice ht hm with ⟨e1, -⟩ | ⟨a, len, cap, k, n, D, Pl, e1, hbb, hl, hcm, hmm, -, hx⟩
  · have e1 : Value.slice a0 len0 cap0 = Value.slice none 0 0 := by simpa [Value.cells] using e1
    exact ⟨none, 0, 0, [], e1, rfl, Rd.nil, by simp, Nat.le_refl _, by unfold maxLen; omega, fun _ => rfl⟩
  · have e1 : Value.slice a0 len0 cap0 = Value.slice (some a) len cap := by simpa [Value.cells] using e1
    have hlm : len ≤ k := by rw [hmm]; simp; exact hl
    have each : ∀ i, i < len → ∃ q : α, good q ∧ ∀ j, j < m → w.cell? (a.add (i * m + j)) = (c q)[j]? := fun i hi => by
      obtain ⟨cs', g1, g2⟩ := hx i (by omega)
      rw [ce] at g1
      obtain ⟨_, hlen, hcl⟩ := World.cells?_some g1
      obtain ⟨q, rfl, hq⟩ := hcell _ _ _ hlen g2
      refine ⟨q, hq, fun j hj => ?_⟩
      have := hcl j (by omega)
      rw [← add_add]
      exact this
    have hd : ∃ q : Nat → α, ∀ i, i < len → good (q i) ∧ ∀ j, j < m → w.cell? (a.add (i * m + j)) = (c (q i))[j]? := by
      refine ⟨fun i => if hi : i < len then Classical.choose (each i hi) else zero, fun i hi => ?_⟩
      simp only [hi, dif_pos]
      exact Classical.choose_spec (each i hi)
    obtain ⟨q, hq⟩ := hd
    refine ⟨some a, len, cap, (List.range len).map q, e1, by simp, fun hpos => ⟨a, rfl, ?_, fun i hi => ?_⟩, fun x hx' => ?_, hl, hcm, fun hh => by cases hh⟩
    · rw [flat_len c m hc] at hpos
      have hp0 : 0 < len := by
        rcases Nat.eq_zero_or_pos len with h | h
        · rw [h] at hpos; simp at hpos
        · exact h
      have h0 := (hq 0 hp0).2 0 hm0
      rw [List.getElem?_eq_getElem (show 0 < (c (q 0)).length by rw [hc]; exact hm0)] at h0
      rw [← add_block a (0 * m + 0)]
      rcases Nat.lt_or_ge (a.add (0 * m + 0)).block w.heap.size with hh | hh
      · exact hh
      · exfalso
        unfold World.cell? at h0
        rw [Array.getElem?_eq_none hh] at h0
        cases h0
    · have hi' := hi
      rw [flat_len c m hc] at hi'
      simp at hi'
      have hdiv : i / m < len := (Nat.div_lt_iff_lt_mul hm0).2 hi'
      have hmod : i % m < m := Nat.mod_lt _ hm0
      have hsum : i / m * m + i % m = i := by rw [Nat.mul_comm]; exact Nat.div_add_mod i m
      have h1 := (hq (i / m) hdiv).2 (i % m) hmod
      have h2 := flat_get c m hc ((List.range len).map q) (i / m) (by simpa using hdiv) (i % m) hmod
      rw [hsum] at h1 h2
      rw [h1]
      rw [List.getElem?_eq_getElem hi] at h2
      rw [h2]
      simp
    · obtain ⟨i, hi, rfl⟩ := List.mem_map.1 hx'
      exact (hq i (List.mem_range.1 hi)).1
theorem evs_flat (l : List Ev) : evs l = l.flatMap (fun e => e.cells.toList) := by
  induction l with
  | nil => rfl
  | cons x l ih => rw [evs, List.flatMap_cons, ih]
theorem event_cell {w : World} {base fuel : Nat} {t ea : TypeId} {f0 f1 f2 f3 f4 f5 f6 f7 : Field} {cs : List Value} {x : DataW H × List MemPlace} (ht : P.underlying t = some (.struct #[f0, f1, f2, f3, f4, f5, f6, f7]))
    (ho : f0.offset = 0 ∧ f1.offset = 1 ∧ f2.offset = 2 ∧ f3.offset = 3 ∧ f4.offset = 4 ∧ f5.offset = 5 ∧ f6.offset = 6 ∧ f7.offset = 7)
    (hc : P.cellsOf f0.type = 1 ∧ P.cellsOf f1.type = 1 ∧ P.cellsOf f2.type = 1 ∧ P.cellsOf f3.type = 1 ∧ P.cellsOf f4.type = 1 ∧ P.cellsOf f5.type = 1 ∧ P.cellsOf f6.type = 1 ∧ P.cellsOf f7.type = 3)
    (h0 : P.underlying f0.type = some (.int .u16)) (h1 : P.underlying f1.type = some (.int .u32)) (h2 : P.underlying f2.type = some (.int .u16)) (h3 : P.underlying f3.type = some (.int .u8)) (h4 : P.underlying f4.type = some (.int .u8)) (h5 : P.underlying f5.type = some (.int .u8)) (h6 : P.underlying f6.type = some .bool)
    (h7 : P.underlying f7.type = some (.array 3 ea)) (ca : P.cellsOf ea = 1) (ha : P.underlying ea = some (.int .u8)) (hl : cs.length = 10)
    (hf : DataW.trod enc P w base (fun _ => true) true fuel t cs = some x) : ∃ e : Ev, cs = e.cells.toList ∧ e.Fit := by
  obtain ⟨xs, n, -, -, -, hxl, hall⟩ := DataW.trod_struct ht hf
  obtain ⟨o0, o1, o2, o3, o4, o5, o6, o7⟩ := ho
  obtain ⟨c0, c1, c2, c3, c4, c5, c6, c7⟩ := hc
  have g0 := hall 0 f0 rfl
  have g1 := hall 1 f1 rfl
  have g2 := hall 2 f2 rfl
  have g3 := hall 3 f3 rfl
  have g4 := hall 4 f4 rfl
  have g5 := hall 5 f5 rfl
  have g6 := hall 6 f6 rfl
  have g7 := hall 7 f7 rfl
  simp only [o0, o1, o2, o3, o4, o5, o6, o7, c0, c1, c2, c3, c4, c5, c6, c7] at g0 g1 g2 g3 g4 g5 g6 g7
  match cs, hl with
  | [z0, z1, z2, z3, z4, z5, z6, z7, z8, z9], _ =>
    match xs, hxl with
    | [x0, x1, x2, x3, x4, x5, x6, x7], _ =>
      simp at g0 g1 g2 g3 g4 g5 g6 g7
      obtain ⟨a0, e0, -, w0⟩ := DataW.trod_int h0 g0
      obtain ⟨a1, e1, -, w1⟩ := DataW.trod_int h1 g1
      obtain ⟨a2, e2, -, w2⟩ := DataW.trod_int h2 g2
      obtain ⟨a3, e3, -, w3⟩ := DataW.trod_int h3 g3
      obtain ⟨a4, e4, -, w4⟩ := DataW.trod_int h4 g4
      obtain ⟨a5, e5, -, w5⟩ := DataW.trod_int h5 g5
      obtain ⟨a6, e6, -⟩ := DataW.trod_bool h6 g6
      obtain ⟨ys, m, -, -, -, hyl, hy⟩ := DataW.trod_array h7 g7
      match ys, hyl with
      | [y0, y1, y2], _ =>
        have k0 := hy 0 (by omega)
        have k1 := hy 1 (by omega)
        have k2 := hy 2 (by omega)
        simp only [ca] at k0 k1 k2
        simp at k0 k1 k2
        obtain ⟨b0, i0, -, u0⟩ := DataW.trod_int ha k0
        obtain ⟨b1, i1, -, u1⟩ := DataW.trod_int ha k1
        obtain ⟨b2, i2, -, u2⟩ := DataW.trod_int ha k2
        simp at e0 e1 e2 e3 e4 e5 e6 i0 i1 i2
        subst e0 e1 e2 e3 e4 e5 e6 i0 i1 i2
        obtain ⟨p0, q0⟩ := bounds_u16 w0
        obtain ⟨p1, q1⟩ := bounds_u32 w1
        obtain ⟨p2, q2⟩ := bounds_u16 w2
        obtain ⟨p3, q3⟩ := bounds_u8 w3
        obtain ⟨p4, q4⟩ := bounds_u8 w4
        obtain ⟨p5, q5⟩ := bounds_u8 w5
        obtain ⟨p7, q7⟩ := bounds_u8 u0
        obtain ⟨p8, q8⟩ := bounds_u8 u1
        obtain ⟨p9, q9⟩ := bounds_u8 u2
        obtain ⟨a0, rfl⟩ := nat_of p0
        obtain ⟨a1, rfl⟩ := nat_of p1
        obtain ⟨a2, rfl⟩ := nat_of p2
        obtain ⟨a3, rfl⟩ := nat_of p3
        obtain ⟨a4, rfl⟩ := nat_of p4
        obtain ⟨a5, rfl⟩ := nat_of p5
        obtain ⟨b0, rfl⟩ := nat_of p7
        obtain ⟨b1, rfl⟩ := nat_of p8
        obtain ⟨b2, rfl⟩ := nat_of p9
        exact ⟨⟨a0, a1, a2, a3, a4, a5, a6, b0, b1, b2⟩, rfl, ⟨by show a0 < 65536; omega, by show a1 < 4294967296; omega, by show a2 < 65536; omega, by show a3 < 256; omega, by show a4 < 256; omega, by show a5 < 256; omega, by show b0 < 256; omega, by show b1 < 256; omega, by show b2 < 256; omega⟩⟩
theorem open_events {w : World} {base : Nat} {t e ea : TypeId} {f0 f1 f2 f3 f4 f5 f6 f7 : Field} {v : Value} {d : DataW H} {ps : List MemPlace} (hs : P.underlying t = some (.slice e)) (ht : P.underlying e = some (.struct #[f0, f1, f2, f3, f4, f5, f6, f7]))
    (ce : P.cellsOf e = 10) (ho : f0.offset = 0 ∧ f1.offset = 1 ∧ f2.offset = 2 ∧ f3.offset = 3 ∧ f4.offset = 4 ∧ f5.offset = 5 ∧ f6.offset = 6 ∧ f7.offset = 7)
    (hc : P.cellsOf f0.type = 1 ∧ P.cellsOf f1.type = 1 ∧ P.cellsOf f2.type = 1 ∧ P.cellsOf f3.type = 1 ∧ P.cellsOf f4.type = 1 ∧ P.cellsOf f5.type = 1 ∧ P.cellsOf f6.type = 1 ∧ P.cellsOf f7.type = 3)
    (h0 : P.underlying f0.type = some (.int .u16)) (h1 : P.underlying f1.type = some (.int .u32)) (h2 : P.underlying f2.type = some (.int .u16)) (h3 : P.underlying f3.type = some (.int .u8)) (h4 : P.underlying f4.type = some (.int .u8)) (h5 : P.underlying f5.type = some (.int .u8)) (h6 : P.underlying f6.type = some .bool)
    (h7 : P.underlying f7.type = some (.array 3 ea)) (ca : P.cellsOf ea = 1) (ha : P.underlying ea = some (.int .u8))
    {r : Reach} {b0 : Nat} (hval : Value.okWide P w r b0 t v) (h : DataW.Trod enc P w base (fun _ => true) true t v d ps) :
    ∃ (A : Option Addr) (n c : Nat) (l : List Ev), v = .slice A n c ∧ ESl w A n c l ∧ ∀ q ∈ l, q.Fit := by
  obtain ⟨A, n, c, l, e1, e2, e3, e4, e5, e6, e7⟩ := open_list Ev.none (fun e => e.cells.toList) 10 (by omega) (fun _ => rfl) (fun q => q.Fit) hs ce (fun fuel cs x hl hx => event_cell ht ho hc h0 h1 h2 h3 h4 h5 h6 h7 ca ha hl hx) hval h
  exact ⟨A, n, c, l, e1, ⟨e2, by show Rd _ _ _ (evs l); rw [evs_flat]; exact e3, e5, e6, e7⟩, e4⟩
theorem open_clock {w : World} {base : Nat} {t : TypeId} {f0 f1 f2 : Field} {v : Value} {d : DataW H} {ps : List MemPlace} (ht : P.underlying t = some (.struct #[f0, f1, f2]))
    (ce : P.cellsOf t = 3) (ho : f0.offset = 0 ∧ f1.offset = 1 ∧ f2.offset = 2) (hc : P.cellsOf f0.type = 1 ∧ P.cellsOf f1.type = 1 ∧ P.cellsOf f2.type = 1)
    (h0 : P.underlying f0.type = some (.int .i64)) (h1 : P.underlying f1.type = some (.int .i64)) (h2 : P.underlying f2.type = some .bool)
    {r : Reach} {b0 : Nat} (hval : Value.okWide P w r b0 t v) (h : DataW.Trod enc P w base (fun _ => true) true t v d ps) :
    ∃ c : Ck, v = c.v ∧ c.Fit := by
  obtain ⟨cs, rfl, hcs⟩ := okWide_struct ht hval
  obtain ⟨fuel, hf⟩ := h
  obtain ⟨xs, n, -, -, hl, hxl, hall⟩ := DataW.trod_struct ht hf
  obtain ⟨o0, o1, o2⟩ := ho
  obtain ⟨c0, c1, c2⟩ := hc
  have g0 := hall 0 f0 rfl
  have g1 := hall 1 f1 rfl
  have g2 := hall 2 f2 rfl
  simp only [Value.cells, o0, o1, o2, c0, c1, c2] at g0 g1 g2 hl
  rcases cs with ⟨l⟩
  rw [ce] at hcs
  match l, hcs with
  | [z0, z1, z2], _ =>
    match xs, hxl with
    | [x0, x1, x2], _ =>
      simp at g0 g1 g2
      obtain ⟨a0, e0, -, w0⟩ := DataW.trod_int h0 g0
      obtain ⟨a1, e1, -, w1⟩ := DataW.trod_int h1 g1
      obtain ⟨a2, e2, -⟩ := DataW.trod_bool h2 g2
      simp at e0 e1 e2
      subst e0 e1 e2
      exact ⟨⟨a0, a1, a2⟩, rfl, ⟨bounds_i64 w0, bounds_i64 w1⟩⟩
/-- An act: Set, Ticks, Time. -/
theorem open_acts {w : World} {base : Nat} {t e : TypeId} {f0 f1 f2 : Field} {v : Value} {d : DataW H} {ps : List MemPlace} (hs : P.underlying t = some (.slice e)) (ht : P.underlying e = some (.struct #[f0, f1, f2]))
    (ce : P.cellsOf e = 3) (ho : f0.offset = 0 ∧ f1.offset = 1 ∧ f2.offset = 2) (hc : P.cellsOf f0.type = 1 ∧ P.cellsOf f1.type = 1 ∧ P.cellsOf f2.type = 1)
    (h0 : P.underlying f0.type = some .bool) (h1 : P.underlying f1.type = some (.int .i64)) (h2 : P.underlying f2.type = some (.int .u32))
    {r : Reach} {b0 : Nat} (hval : Value.okWide P w r b0 t v) (h : DataW.Trod enc P w base (fun _ => true) true t v d ps) :
    ∃ (A : Option Addr) (n c : Nat) (l : List Act1), v = .slice A n c ∧ ASl w A n c l ∧ ∀ q ∈ l, q.Fit := by
  obtain ⟨A, n, c, l, e1, e2, e3, e4, e5, e6, e7⟩ := open_list (⟨false, 0, 0⟩ : Act1) Act1.cells 3 (by omega) (fun _ => rfl) (fun q => q.Fit) hs ce (fun fuel cs x hl hf => by
    obtain ⟨xs, n, -, -, -, hxl, hall⟩ := DataW.trod_struct ht hf
    obtain ⟨o0, o1, o2⟩ := ho
    obtain ⟨c0, c1, c2⟩ := hc
    have g0 := hall 0 f0 rfl
    have g1 := hall 1 f1 rfl
    have g2 := hall 2 f2 rfl
    simp only [o0, o1, o2, c0, c1, c2] at g0 g1 g2
    match cs, hl with
    | [z0, z1, z2], _ =>
      match xs, hxl with
      | [x0, x1, x2], _ =>
        simp at g0 g1 g2
        obtain ⟨a0, e0, -⟩ := DataW.trod_bool h0 g0
        obtain ⟨a1, e1, -, w1⟩ := DataW.trod_int h1 g1
        obtain ⟨a2, e2, -, w2⟩ := DataW.trod_int h2 g2
        simp at e0 e1 e2
        subst e0 e1 e2
        obtain ⟨p2, q2⟩ := bounds_u32 w2
        obtain ⟨a2, rfl⟩ := nat_of p2
        exact ⟨⟨a0, a1, a2⟩, rfl, bounds_i64 w1, by show a2 < 4294967296; omega⟩) hval h
  exact ⟨A, n, c, l, e1, ⟨e2, e3, e5, e6, e7⟩, e4⟩
end
end Go.Proofs.Ytncpbgmbneobiaa.Law
