/- From a law's walk to its row: a conversion as a parameter. From a law's walk to its row: an array of six bytes, a sensor record as parameters. From a law's walk to its row: a sensor record as a parameter. -/
import Derived.Test.YtekhpcfggbegaaaS53
import Derived.Test.YtekhpcfggbegaaaS11
import Derived.Test.YtekhpcfggbegaaaS17
import Derived.Test.YtekhpcfggbegaaaS19
namespace Go.Proofs.Ytekhpcfggbegaaa.Law
open Go.RowKit Go.ChangeShapes Go.WideShapes Go.ChangeAt Go.Proofs.Ytekhpcfggbegaaa.Mem Go.Proofs.Ytekhpcfggbegaaa.C4l

section
variable {H : Type} {enc : TypeId × Value → H} {P : Program}
theorem pvs_of (V0 V1 : Nat → Value) : ∀ (l : List Pt) (_ : ∀ i (h : i < l.length), V0 i = .int .u8 (l[i].1.toNat : Int) ∧ V1 i = .int .i64 l[i].2) (j : Nat) (hj : j < (pvs l).length), (pvs l)[j] = if j % 2 = 0 then V0 (j / 2) else V1 (j / 2) := by
  intro l h j hj
  rw [pvs_len] at hj
  have hk : j / 2 < l.length := by omega
  obtain ⟨g0, g1⟩ := pvs_get l (j / 2) hk
  obtain ⟨e0, e1⟩ := h (j / 2) hk
  by_cases h2 : j % 2 = 0
  · rw [if_pos h2, e0]
    have : j / 2 * 2 = j := by omega
    rw [this, List.getElem?_eq_getElem (by rw [pvs_len]; omega)] at g0
    exact Option.some.inj g0
  · rw [if_neg h2, e1]
    have : j / 2 * 2 + 1 = j := by omega
    rw [this, List.getElem?_eq_getElem (by rw [pvs_len]; omega)] at g1
    exact Option.some.inj g1
theorem open_points {w : World} {base fuel : Nat} {t e : TypeId} {f0 f1 : Field} {cs : List Value} {x : DataW H × List MemPlace} (ht : P.underlying t = some (.slice e)) (he : P.underlying e = some (.struct #[f0, f1]))
    (ce : P.cellsOf e = 2) (o0 : f0.offset = 0) (o1 : f1.offset = 1) (c0 : P.cellsOf f0.type = 1) (c1 : P.cellsOf f1.type = 1) (h0 : P.underlying f0.type = some (.int .u8)) (h1 : P.underlying f1.type = some (.int .i64))
    (hm : DataW.trod enc P w base (fun _ => true) true fuel t cs = some x) :
    ∃ (A : Option Addr) (n c : Nat) (l : List Pt), cs = [.slice A n c] ∧ PSl w A n c l := by
  rcases Go.Deep.open_slice_pairs ht he ce o0 o1 c0 c1 hm with ⟨e1, -⟩ | ⟨a, len, cap, mm, n, V0, V1, D0, D1, P0, P1, e1, -, hl, hcm, hmm, -, hx⟩
  · exact ⟨none, 0, 0, [], e1, rfl, Rd.nil, Nat.le_refl _, by unfold maxLen; omega, fun _ => rfl⟩
  · have hlm : len ≤ mm := by rw [hmm]; simp; exact hl
    have each : ∀ i, i < len → ∃ q : Pt, V0 i = .int .u8 (q.1.toNat : Int) ∧ V1 i = .int .i64 q.2 := fun i hi => by
      obtain ⟨-, -, g0, g1⟩ := hx i (by omega)
      obtain ⟨k, e0, -, hk⟩ := DataW.trod_int h0 g0
      obtain ⟨s, e2, -, -⟩ := DataW.trod_int h1 g1
      injection e0 with e0
      injection e2 with e2
      have hk2 := bounds_u8 hk
      refine ⟨(UInt8.ofNat k.toNat, s), ?_, e2⟩
      rw [e0]
      show Value.int .u8 k = .int .u8 (((UInt8.ofNat k.toNat).toNat : Nat) : Int)
      rw [UInt8.toNat_ofNat', show ((k.toNat % 2 ^ 8 : Nat) : Int) = k by omega]
    obtain ⟨q, hq⟩ : ∃ q : Nat → Pt, ∀ i, i < len → V0 i = .int .u8 ((q i).1.toNat : Int) ∧ V1 i = .int .i64 (q i).2 := by
      refine ⟨fun i => if hi : i < len then Classical.choose (each i hi) else (0, 0), fun i hi => ?_⟩
      simp only [hi, dif_pos]
      exact Classical.choose_spec (each i hi)
    have hlen : ((List.range len).map q).length = len := by simp
    have hget : ∀ i (h : i < ((List.range len).map q).length), V0 i = .int .u8 ((((List.range len).map q)[i]).1.toNat : Int) ∧ V1 i = .int .i64 (((List.range len).map q)[i]).2 := fun i hi => by
      rw [hlen] at hi
      obtain ⟨a1, a2⟩ := hq i hi
      simp [a1, a2]
    refine ⟨some a, len, cap, (List.range len).map q, e1, hlen.symm, fun hpos => ⟨a, rfl, ?_, fun k hk => ?_⟩, hl, hcm, fun hh => by cases hh⟩
    · rw [pvs_len, hlen] at hpos
      have hcell := (hx 0 (by omega)).1
      rw [← add_block a (0 * 2)]
      rcases Nat.lt_or_ge (a.add (0 * 2)).block w.heap.size with hh | hh
      · exact hh
      · simp [World.cell?, Array.getElem?_eq_none hh] at hcell
    · rw [pvs_of V0 V1 _ hget k hk]
      rw [pvs_len, hlen] at hk
      obtain ⟨g0, g1, -, -⟩ := hx (k / 2) (by omega)
      by_cases h2 : k % 2 = 0
      · rw [if_pos h2, ← g0]
        have : k / 2 * 2 = k := by omega
        rw [this]
      · rw [if_neg h2, ← g1]
        have : k / 2 * 2 + 1 = k := by omega
        rw [this]
theorem open_conv {w : World} {base : Nat} {t ep : TypeId} {f0 f1 f2 f3 f4 f5 f6 p0 p1 : Field} {v : Value} {d : DataW H} {ps : List MemPlace} (ht : P.underlying t = some (.struct #[f0, f1, f2, f3, f4, f5, f6]))
    (ce : P.cellsOf t = 7) (ho : f0.offset = 0 ∧ f1.offset = 1 ∧ f2.offset = 2 ∧ f3.offset = 3 ∧ f4.offset = 4 ∧ f5.offset = 5 ∧ f6.offset = 6)
    (hc : P.cellsOf f0.type = 1 ∧ P.cellsOf f1.type = 1 ∧ P.cellsOf f2.type = 1 ∧ P.cellsOf f3.type = 1 ∧ P.cellsOf f4.type = 1 ∧ P.cellsOf f5.type = 1 ∧ P.cellsOf f6.type = 1)
    (h0 : P.underlying f0.type = some (.int .i64)) (h1 : P.underlying f1.type = some .bool) (h2 : P.underlying f2.type = some (.int .i64)) (h3 : P.underlying f3.type = some (.int .i64)) (h4 : P.underlying f4.type = some (.int .i64)) (h5 : P.underlying f5.type = some (.int .i64))
    (h6 : P.underlying f6.type = some (.slice ep)) (hp : P.underlying ep = some (.struct #[p0, p1])) (cp : P.cellsOf ep = 2) (q0 : p0.offset = 0) (q1 : p1.offset = 1) (r0 : P.cellsOf p0.type = 1) (r1 : P.cellsOf p1.type = 1) (u0 : P.underlying p0.type = some (.int .u8)) (u1 : P.underlying p1.type = some (.int .i64))
    {r : Reach} {b0 : Nat} (hval : Value.okWide P w r b0 t v) (h : DataW.Trod enc P w base (fun _ => true) true t v d ps) :
    ∃ (f : Int) (s : Bool) (m b k1 k2 : Int) (A : Option Addr) (n c : Nat) (l : List Pt), v = .agg #[.int .i64 f, .bool s, .int .i64 m, .int .i64 b, .int .i64 k1, .int .i64 k2, .slice A n c] ∧ PSl w A n c l ∧
      (-9223372036854775808 ≤ f ∧ f ≤ 9223372036854775807) ∧ (-9223372036854775808 ≤ m ∧ m ≤ 9223372036854775807) ∧ (-9223372036854775808 ≤ b ∧ b ≤ 9223372036854775807) ∧ (-9223372036854775808 ≤ k1 ∧ k1 ≤ 9223372036854775807) ∧ (-9223372036854775808 ≤ k2 ∧ k2 ≤ 9223372036854775807) := by
  obtain ⟨cs, rfl, hcs⟩ := okWide_struct ht hval
  obtain ⟨fuel, hf⟩ := h
  obtain ⟨xs, n, -, -, hl, hxl, hall⟩ := DataW.trod_struct ht hf
  obtain ⟨o0, o1, o2, o3, o4, o5, o6⟩ := ho
  obtain ⟨c0, c1, c2, c3, c4, c5, c6⟩ := hc
  have g0 := hall 0 f0 rfl
  have g1 := hall 1 f1 rfl
  have g2 := hall 2 f2 rfl
  have g3 := hall 3 f3 rfl
  have g4 := hall 4 f4 rfl
  have g5 := hall 5 f5 rfl
  have g6 := hall 6 f6 rfl
  simp only [Value.cells, o0, o1, o2, o3, o4, o5, o6, c0, c1, c2, c3, c4, c5, c6] at g0 g1 g2 g3 g4 g5 g6 hl
  rcases cs with ⟨l⟩
  rw [ce] at hcs
  match l, hcs with
  | [z0, z1, z2, z3, z4, z5, z6], _ =>
    match xs, hxl with
    | [x0, x1, x2, x3, x4, x5, x6], _ =>
      simp at g0 g1 g2 g3 g4 g5 g6
      obtain ⟨f, e0, -, w0⟩ := DataW.trod_int h0 g0
      obtain ⟨s, e1, -⟩ := DataW.trod_bool h1 g1
      obtain ⟨m, e2, -, w2⟩ := DataW.trod_int h2 g2
      obtain ⟨b, e3, -, w3⟩ := DataW.trod_int h3 g3
      obtain ⟨k1, e4, -, w4⟩ := DataW.trod_int h4 g4
      obtain ⟨k2, e5, -, w5⟩ := DataW.trod_int h5 g5
      obtain ⟨A, n, c, l, e6, hsl⟩ := open_points h6 hp cp q0 q1 r0 r1 u0 u1 g6
      simp at e0 e1 e2 e3 e4 e5 e6
      subst e0 e1 e2 e3 e4 e5 e6
      exact ⟨f, s, m, b, k1, k2, A, n, c, l, rfl, hsl, bounds_i64 w0, bounds_i64 w2, bounds_i64 w3, bounds_i64 w4, bounds_i64 w5⟩
end
end Go.Proofs.Ytekhpcfggbegaaa.Law
namespace Go.Proofs.Ytekhpcfggbegaaa.Law
open Go.RowKit Go.ChangeShapes Go.WideShapes Go.ChangeAt Go.Proofs.Ytekhpcfggbegaaa.Mem Go.Proofs.Ytekhpcfggbegaaa.C4l Go.Proofs.Ytekhpcfggbegaaa.Ta Go.Proofs.Ytekhpcfggbegaaa.Tb
set_option maxRecDepth 100000

theorem bounds_u16 {n : Int} (h : (Lit.int .u16 n).wf = true) : 0 ≤ n ∧ n ≤ 65535 := by simpa [Lit.wf, IntKind.min, IntKind.max, IntKind.signed, IntKind.bits] using h
theorem nat_of {n : Int} (h : 0 ≤ n) : ∃ k : Nat, n = (k : Int) := ⟨n.toNat, by omega⟩
section
variable {H : Type} {enc : TypeId × Value → H} {P : Program} {w : World} {base fuel : Nat} {x : DataW H × List MemPlace}
theorem one_u8 {t : TypeId} {cs : List Value} (ht : P.underlying t = some (.int .u8)) (h : DataW.trod enc P w base (fun _ => true) true fuel t cs = some x) : ∃ q : UInt8, cs = [.int .u8 (q.toNat : Int)] := by
  obtain ⟨k, e0, -, hk⟩ := DataW.trod_int ht h
  have hk2 := bounds_u8 hk
  refine ⟨UInt8.ofNat k.toNat, ?_⟩
  rw [e0, UInt8.toNat_ofNat', show ((k.toNat % 2 ^ 8 : Nat) : Int) = k by omega]
theorem one_u16 {t : TypeId} {cs : List Value} (ht : P.underlying t = some (.int .u16)) (h : DataW.trod enc P w base (fun _ => true) true fuel t cs = some x) : ∃ q : Nat, cs = [.int .u16 (q : Int)] ∧ q < 65536 := by
  obtain ⟨k, e0, -, hk⟩ := DataW.trod_int ht h
  have hk2 := bounds_u16 hk
  obtain ⟨q, rfl⟩ := nat_of hk2.1
  exact ⟨q, e0, by omega⟩
theorem one_i64 {t : TypeId} {cs : List Value} (ht : P.underlying t = some (.int .i64)) (h : DataW.trod enc P w base (fun _ => true) true fuel t cs = some x) : ∃ q : Int, cs = [.int .i64 q] ∧ (-9223372036854775808 ≤ q ∧ q ≤ 9223372036854775807) := by
  obtain ⟨k, e0, -, hk⟩ := DataW.trod_int ht h
  exact ⟨k, e0, bounds_i64 hk⟩
theorem one_bool {t : TypeId} {cs : List Value} (ht : P.underlying t = some .bool) (h : DataW.trod enc P w base (fun _ => true) true fuel t cs = some x) : ∃ q : Bool, cs = [.bool q] := by
  obtain ⟨k, e0, -⟩ := DataW.trod_bool ht h
  exact ⟨k, e0⟩
theorem six_u8 {t e : TypeId} {cs : List Value} (ht : P.underlying t = some (.array 6 e)) (ce : P.cellsOf e = 1) (he : P.underlying e = some (.int .u8)) (ct : P.cellsOf t = 6) (h : DataW.trod enc P w base (fun _ => true) true fuel t cs = some x) :
    ∃ q0 q1 q2 q3 q4 q5 : UInt8, cs = [.int .u8 (q0.toNat : Int), .int .u8 (q1.toNat : Int), .int .u8 (q2.toNat : Int), .int .u8 (q3.toNat : Int), .int .u8 (q4.toNat : Int), .int .u8 (q5.toNat : Int)] := by
  obtain ⟨ys, m, -, -, hl, hyl, hy⟩ := DataW.trod_array ht h
  rw [ct] at hl
  match cs, hl with
  | [z0, z1, z2, z3, z4, z5], _ =>
    match ys, hyl with
    | [y0, y1, y2, y3, y4, y5], _ =>
      have k0 := hy 0 (by omega)
      have k1 := hy 1 (by omega)
      have k2 := hy 2 (by omega)
      have k3 := hy 3 (by omega)
      have k4 := hy 4 (by omega)
      have k5 := hy 5 (by omega)
      simp only [ce] at k0 k1 k2 k3 k4 k5
      simp at k0 k1 k2 k3 k4 k5
      obtain ⟨q0, e0⟩ := one_u8 he k0
      obtain ⟨q1, e1⟩ := one_u8 he k1
      obtain ⟨q2, e2⟩ := one_u8 he k2
      obtain ⟨q3, e3⟩ := one_u8 he k3
      obtain ⟨q4, e4⟩ := one_u8 he k4
      obtain ⟨q5, e5⟩ := one_u8 he k5
      simp at e0 e1 e2 e3 e4 e5
      exact ⟨q0, q1, q2, q3, q4, q5, by rw [e0, e1, e2, e3, e4, e5]⟩
theorem okWide_arr {t e : TypeId} {n b0 : Nat} {r : Reach} {v : Value} (ht : P.underlying t = some (.array n e)) (h : Value.okWide P w r b0 t v) : ∃ cs, v = .agg cs ∧ cs.size = P.cellsOf t := by
  simp only [Value.okWide, ht] at h
  obtain ⟨cs, h1, h2, _⟩ := h
  exact ⟨cs, h1, h2⟩
theorem open_arr6 {t e : TypeId} {v : Value} {d : DataW H} {ps : List MemPlace} (ht : P.underlying t = some (.array 6 e)) (ce : P.cellsOf e = 1) (he : P.underlying e = some (.int .u8)) (ct : P.cellsOf t = 6)
    {r : Reach} {b0 : Nat} (hval : Value.okWide P w r b0 t v) (h : DataW.Trod enc P w base (fun _ => true) true t v d ps) :
    ∃ q0 q1 q2 q3 q4 q5 : UInt8, v = .agg #[.int .u8 (q0.toNat : Int), .int .u8 (q1.toNat : Int), .int .u8 (q2.toNat : Int), .int .u8 (q3.toNat : Int), .int .u8 (q4.toNat : Int), .int .u8 (q5.toNat : Int)] := by
  obtain ⟨cs, rfl, hcs⟩ := okWide_arr ht hval
  obtain ⟨fuel, hf⟩ := h
  obtain ⟨q0, q1, q2, q3, q4, q5, e⟩ := six_u8 ht ce he ct hf
  refine ⟨q0, q1, q2, q3, q4, q5, ?_⟩
  rcases cs with ⟨l⟩
  simp only [Value.cells] at e
  rw [e]
end
end Go.Proofs.Ytekhpcfggbegaaa.Law
namespace Go.Proofs.Ytekhpcfggbegaaa.Law
open Go.RowKit Go.ChangeShapes Go.WideShapes Go.ChangeAt Go.Proofs.Ytekhpcfggbegaaa.Mem Go.Proofs.Ytekhpcfggbegaaa.C4l Go.Proofs.Ytekhpcfggbegaaa.Ta Go.Proofs.Ytekhpcfggbegaaa.Tb
set_option maxRecDepth 100000
set_option maxHeartbeats 1000000

section
variable {H : Type} {enc : TypeId × Value → H} {P : Program} {w : World} {base fuel : Nat} {x : DataW H × List MemPlace}
theorem one_str {t : TypeId} {cs : List Value} (ht : P.underlying t = some .string) (h : DataW.trod enc P w base (fun _ => true) true fuel t cs = some x) : ∃ s : ByteArray, cs = [.string s] ∧ s.size ≤ maxLen := by
  obtain ⟨s, e, -, h2⟩ := DataW.trod_string ht h
  exact ⟨s, e, h2⟩
theorem trod_ent {t : TypeId} {f0 f1 : Field} {cs : List Value} (ht : P.underlying t = some (.struct #[f0, f1])) (ce : P.cellsOf t = 2) (ho : f0.offset = 0 ∧ f1.offset = 1) (hc : P.cellsOf f0.type = 1 ∧ P.cellsOf f1.type = 1)
    (h0 : P.underlying f0.type = some (.int .u8)) (h1 : P.underlying f1.type = some (.int .u8)) (h : DataW.trod enc P w base (fun _ => true) true fuel t cs = some x) : ∃ a b : UInt8, cs = [.int .u8 (a.toNat : Int), .int .u8 (b.toNat : Int)] := by
  obtain ⟨xs, n, -, -, hl, hxl, hall⟩ := DataW.trod_struct ht h
  obtain ⟨o0, o1⟩ := ho
  obtain ⟨c0, c1⟩ := hc
  have g0 := hall 0 f0 rfl
  have g1 := hall 1 f1 rfl
  simp only [o0, o1, c0, c1] at g0 g1
  rw [ce] at hl
  match cs, hl with
  | [z0, z1], _ =>
    match xs, hxl with
    | [x0, x1], _ =>
      simp at g0 g1
      obtain ⟨a, e0⟩ := one_u8 h0 g0
      obtain ⟨b, e1⟩ := one_u8 h1 g1
      simp at e0 e1
      exact ⟨a, b, by rw [e0, e1]⟩
theorem trod_conv {t ep : TypeId} {f0 f1 f2 f3 f4 f5 f6 p0 p1 : Field} {cs : List Value} (ht : P.underlying t = some (.struct #[f0, f1, f2, f3, f4, f5, f6]))
    (ce : P.cellsOf t = 7) (ho : f0.offset = 0 ∧ f1.offset = 1 ∧ f2.offset = 2 ∧ f3.offset = 3 ∧ f4.offset = 4 ∧ f5.offset = 5 ∧ f6.offset = 6)
    (hc : P.cellsOf f0.type = 1 ∧ P.cellsOf f1.type = 1 ∧ P.cellsOf f2.type = 1 ∧ P.cellsOf f3.type = 1 ∧ P.cellsOf f4.type = 1 ∧ P.cellsOf f5.type = 1 ∧ P.cellsOf f6.type = 1)
    (h0 : P.underlying f0.type = some (.int .i64)) (h1 : P.underlying f1.type = some .bool) (h2 : P.underlying f2.type = some (.int .i64)) (h3 : P.underlying f3.type = some (.int .i64)) (h4 : P.underlying f4.type = some (.int .i64)) (h5 : P.underlying f5.type = some (.int .i64))
    (h6 : P.underlying f6.type = some (.slice ep)) (hp : P.underlying ep = some (.struct #[p0, p1])) (cp : P.cellsOf ep = 2) (q0 : p0.offset = 0) (q1 : p1.offset = 1) (r0 : P.cellsOf p0.type = 1) (r1 : P.cellsOf p1.type = 1) (u0 : P.underlying p0.type = some (.int .u8)) (u1 : P.underlying p1.type = some (.int .i64))
    (h : DataW.trod enc P w base (fun _ => true) true fuel t cs = some x) :
    ∃ (c : C4p.Cv) (A : Option Addr) (n cp : Nat), cs = [.int .i64 c.f, .bool c.s, .int .i64 c.m, .int .i64 c.b, .int .i64 c.k1, .int .i64 c.k2, .slice A n cp] ∧ PSl w A n cp c.p := by
  obtain ⟨xs, n, -, -, hl, hxl, hall⟩ := DataW.trod_struct ht h
  obtain ⟨o0, o1, o2, o3, o4, o5, o6⟩ := ho
  obtain ⟨c0, c1, c2, c3, c4, c5, c6⟩ := hc
  have g0 := hall 0 f0 rfl
  have g1 := hall 1 f1 rfl
  have g2 := hall 2 f2 rfl
  have g3 := hall 3 f3 rfl
  have g4 := hall 4 f4 rfl
  have g5 := hall 5 f5 rfl
  have g6 := hall 6 f6 rfl
  simp only [o0, o1, o2, o3, o4, o5, o6, c0, c1, c2, c3, c4, c5, c6] at g0 g1 g2 g3 g4 g5 g6
  rw [ce] at hl
  match cs, hl with
  | [z0, z1, z2, z3, z4, z5, z6], _ =>
    match xs, hxl with
    | [x0, x1, x2, x3, x4, x5, x6], _ =>
      simp at g0 g1 g2 g3 g4 g5 g6
      obtain ⟨f, e0, -, -⟩ := DataW.trod_int h0 g0
      obtain ⟨s, e1, -⟩ := DataW.trod_bool h1 g1
      obtain ⟨m, e2, -, -⟩ := DataW.trod_int h2 g2
      obtain ⟨b, e3, -, -⟩ := DataW.trod_int h3 g3
      obtain ⟨k1, e4, -, -⟩ := DataW.trod_int h4 g4
      obtain ⟨k2, e5, -, -⟩ := DataW.trod_int h5 g5
      obtain ⟨A, n, c, l, e6, hsl⟩ := open_points h6 hp cp q0 q1 r0 r1 u0 u1 g6
      simp at e0 e1 e2 e3 e4 e5 e6
      subst e0 e1 e2 e3 e4 e5 e6
      exact ⟨⟨f, s, m, b, k1, k2, l⟩, A, n, c, rfl, hsl⟩
theorem trod_lim {t ea : TypeId} {f0 f1 : Field} {cs : List Value} (ht : P.underlying t = some (.struct #[f0, f1])) (ce : P.cellsOf t = 7) (ho : f0.offset = 0 ∧ f1.offset = 1) (hc : P.cellsOf f0.type = 1 ∧ P.cellsOf f1.type = 6)
    (h0 : P.underlying f0.type = some (.int .u8)) (h1 : P.underlying f1.type = some (.array 6 ea)) (ca : P.cellsOf ea = 1) (ha : P.underlying ea = some (.int .u8)) (h : DataW.trod enc P w base (fun _ => true) true fuel t cs = some x) :
    ∃ m r0 r1 r2 r3 r4 r5 : UInt8, cs = [.int .u8 (m.toNat : Int), .int .u8 (r0.toNat : Int), .int .u8 (r1.toNat : Int), .int .u8 (r2.toNat : Int), .int .u8 (r3.toNat : Int), .int .u8 (r4.toNat : Int), .int .u8 (r5.toNat : Int)] := by
  obtain ⟨xs, n, -, -, hl, hxl, hall⟩ := DataW.trod_struct ht h
  obtain ⟨o0, o1⟩ := ho
  obtain ⟨c0, c1⟩ := hc
  have g0 := hall 0 f0 rfl
  have g1 := hall 1 f1 rfl
  simp only [o0, o1, c0, c1] at g0 g1
  rw [ce] at hl
  match cs, hl with
  | [z0, z1, z2, z3, z4, z5, z6], _ =>
    match xs, hxl with
    | [x0, x1], _ =>
      simp at g0 g1
      obtain ⟨m, e0⟩ := one_u8 h0 g0
      obtain ⟨r0, r1, r2, r3, r4, r5, e1⟩ := six_u8 h1 ca ha c1 g1
      simp at e0 e1
      obtain ⟨a1, a2, a3, a4, a5, a6⟩ := e1
      exact ⟨m, r0, r1, r2, r3, r4, r5, by rw [e0, a1, a2, a3, a4, a5, a6]⟩
theorem open_sensor {t : TypeId} {f0 f1 f2 f3 f4 f5 f6 f7 f8 f9 f10 f11 f12 f13 f14 : Field} {v : Value} {d : DataW H} {ps : List MemPlace} (ht : P.underlying t = some (.struct #[f0, f1, f2, f3, f4, f5, f6, f7, f8, f9, f10, f11, f12, f13, f14]))
    (ce : P.cellsOf t = 28) (ho : f0.offset = 0 ∧ f1.offset = 1 ∧ f2.offset = 2 ∧ f3.offset = 3 ∧ f4.offset = 4 ∧ f5.offset = 6 ∧ f6.offset = 7 ∧ f7.offset = 14 ∧ f8.offset = 21 ∧ f9.offset = 22 ∧ f10.offset = 23 ∧ f11.offset = 24 ∧ f12.offset = 25 ∧ f13.offset = 26 ∧ f14.offset = 27)
    (hc : P.cellsOf f0.type = 1 ∧ P.cellsOf f1.type = 1 ∧ P.cellsOf f2.type = 1 ∧ P.cellsOf f3.type = 1 ∧ P.cellsOf f4.type = 2 ∧ P.cellsOf f5.type = 1 ∧ P.cellsOf f6.type = 7 ∧ P.cellsOf f7.type = 7 ∧ P.cellsOf f8.type = 1 ∧ P.cellsOf f9.type = 1 ∧ P.cellsOf f10.type = 1 ∧ P.cellsOf f11.type = 1 ∧ P.cellsOf f12.type = 1 ∧ P.cellsOf f13.type = 1 ∧ P.cellsOf f14.type = 1)
    (h0 : P.underlying f0.type = some (.int .u8))
    (h1 : P.underlying f1.type = some (.int .u8))
    (h2 : P.underlying f2.type = some (.int .u8))
    (h3 : P.underlying f3.type = some .string)
    (h4 : ∀ {fuel : Nat} {cs : List Value} {x : DataW H × List MemPlace}, DataW.trod enc P w base (fun _ => true) true fuel f4.type cs = some x → ∃ a b : UInt8, cs = [.int .u8 (a.toNat : Int), .int .u8 (b.toNat : Int)])
    (h5 : P.underlying f5.type = some .bool)
    (h6 : ∀ {fuel : Nat} {cs : List Value} {x : DataW H × List MemPlace}, DataW.trod enc P w base (fun _ => true) true fuel f6.type cs = some x → ∃ (c : C4p.Cv) (A : Option Addr) (n cp : Nat), cs = [.int .i64 c.f, .bool c.s, .int .i64 c.m, .int .i64 c.b, .int .i64 c.k1, .int .i64 c.k2, .slice A n cp] ∧ PSl w A n cp c.p)
    (h7 : ∀ {fuel : Nat} {cs : List Value} {x : DataW H × List MemPlace}, DataW.trod enc P w base (fun _ => true) true fuel f7.type cs = some x → ∃ m r0 r1 r2 r3 r4 r5 : UInt8, cs = [.int .u8 (m.toNat : Int), .int .u8 (r0.toNat : Int), .int .u8 (r1.toNat : Int), .int .u8 (r2.toNat : Int), .int .u8 (r3.toNat : Int), .int .u8 (r4.toNat : Int), .int .u8 (r5.toNat : Int)])
    (h8 : P.underlying f8.type = some (.int .u8))
    (h9 : P.underlying f9.type = some (.int .u8))
    (h10 : P.underlying f10.type = some (.int .u16))
    (h11 : P.underlying f11.type = some (.int .u16))
    (h12 : P.underlying f12.type = some (.int .u16))
    (h13 : P.underlying f13.type = some .bool)
    (h14 : P.underlying f14.type = some (.int .i64))
    {r : Reach} {b0 : Nat} (hval : Value.okWide P w r b0 t v) (h : DataW.Trod enc P w base (fun _ => true) true t v d ps) :
    ∃ (s : Sn) (A : Option Addr) (n cp : Nat), v = .agg (cells s (.slice A n cp)) ∧ PSl w A n cp s.c.p ∧ s.nm.size ≤ maxLen ∧ s.Fit := by
  obtain ⟨cs, rfl, hcs⟩ := okWide_struct ht hval
  obtain ⟨fuel, hf⟩ := h
  obtain ⟨xs, n, -, -, hl, hxl, hall⟩ := DataW.trod_struct ht hf
  obtain ⟨o0, o1, o2, o3, o4, o5, o6, o7, o8, o9, o10, o11, o12, o13, o14⟩ := ho
  obtain ⟨c0, c1, c2, c3, c4, c5, c6, c7, c8, c9, c10, c11, c12, c13, c14⟩ := hc
  have g0 := hall 0 f0 rfl
  have g1 := hall 1 f1 rfl
  have g2 := hall 2 f2 rfl
  have g3 := hall 3 f3 rfl
  have g4 := hall 4 f4 rfl
  have g5 := hall 5 f5 rfl
  have g6 := hall 6 f6 rfl
  have g7 := hall 7 f7 rfl
  have g8 := hall 8 f8 rfl
  have g9 := hall 9 f9 rfl
  have g10 := hall 10 f10 rfl
  have g11 := hall 11 f11 rfl
  have g12 := hall 12 f12 rfl
  have g13 := hall 13 f13 rfl
  have g14 := hall 14 f14 rfl
  simp only [Value.cells, o0, o1, o2, o3, o4, o5, o6, o7, o8, o9, o10, o11, o12, o13, o14, c0, c1, c2, c3, c4, c5, c6, c7, c8, c9, c10, c11, c12, c13, c14] at g0 g1 g2 g3 g4 g5 g6 g7 g8 g9 g10 g11 g12 g13 g14 hl
  rcases cs with ⟨l⟩
  rw [ce] at hcs
  match l, hcs with
  | [z0, z1, z2, z3, z4, z5, z6, z7, z8, z9, z10, z11, z12, z13, z14, z15, z16, z17, z18, z19, z20, z21, z22, z23, z24, z25, z26, z27], _ =>
    match xs, hxl with
    | [x0, x1, x2, x3, x4, x5, x6, x7, x8, x9, x10, x11, x12, x13, x14], _ =>
      simp at g0 g1 g2 g3 g4 g5 g6 g7 g8 g9 g10 g11 g12 g13 g14
      obtain ⟨a0, e0⟩ := one_u8 h0 g0
      obtain ⟨a1, e1⟩ := one_u8 h1 g1
      obtain ⟨a2, e2⟩ := one_u8 h2 g2
      obtain ⟨a3, e3, hs⟩ := one_str h3 g3
      obtain ⟨a4, b4, e4⟩ := h4 g4
      obtain ⟨a5, e5⟩ := one_bool h5 g5
      obtain ⟨cv, A, pn, pc, e6, hp⟩ := h6 g6
      obtain ⟨m, r0, r1, r2, r3, r4, r5, e7⟩ := h7 g7
      obtain ⟨a8, e8⟩ := one_u8 h8 g8
      obtain ⟨a9, e9⟩ := one_u8 h9 g9
      obtain ⟨a10, e10, l10⟩ := one_u16 h10 g10
      obtain ⟨a11, e11, l11⟩ := one_u16 h11 g11
      obtain ⟨a12, e12, l12⟩ := one_u16 h12 g12
      obtain ⟨a13, e13⟩ := one_bool h13 g13
      obtain ⟨a14, e14, -⟩ := one_i64 h14 g14
      simp at e0 e1 e2 e3 e4 e5 e6 e7 e8 e9 e10 e11 e12 e13 e14
      obtain ⟨e4a, e4b⟩ := e4
      obtain ⟨e6a, e6b, e6c, e6d, e6e, e6f, e6g⟩ := e6
      obtain ⟨e7a, e7b, e7c, e7d, e7e, e7f, e7g⟩ := e7
      refine ⟨⟨a0, a1, a2, a3, a4, b4, a5, cv, m, r0, r1, r2, r3, r4, r5, a8, a9, a10, a11, a12, a13, a14⟩, A, pn, pc, ?_, hp, hs, l10, l11, l12⟩
      rw [e0, e1, e2, e3, e4a, e4b, e5, e6a, e6b, e6c, e6d, e6e, e6f, e6g, e7a, e7b, e7c, e7d, e7e, e7f, e7g, e8, e9, e10, e11, e12, e13, e14]
      rfl
end
end Go.Proofs.Ytekhpcfggbegaaa.Law
