/- From a law's walk to its row: events as parameters. -/
import Derived.Test.YtncpbgmbneobiaaLaw2
import Derived.Test.YtncpbgmbneobiaaV7a
namespace Go.Proofs.Ytncpbgmbneobiaa.Law
open Go.RowKit Go.ChangeShapes Go.WideShapes Go.ChangeAt Go.Proofs.Ytncpbgmbneobiaa.Mem Go.Proofs.Ytncpbgmbneobiaa.V7
set_option maxRecDepth 100000

theorem bounds_u16 {n : Int} (h : (Lit.int .u16 n).wf = true) : 0 ≤ n ∧ n ≤ 65535 := by simpa [Lit.wf, IntKind.min, IntKind.max, IntKind.signed, IntKind.bits] using h
theorem nat_of {n : Int} (h : 0 ≤ n) : ∃ k : Nat, n = (k : Int) := ⟨n.toNat, by omega⟩
section
variable {H : Type} {enc : TypeId × Value → H} {P : Program}
theorem open_event {w : World} {base : Nat} {t ea : TypeId} {f0 f1 f2 f3 f4 f5 f6 f7 : Field} {v : Value} {d : DataW H} {ps : List MemPlace} (ht : P.underlying t = some (.struct #[f0, f1, f2, f3, f4, f5, f6, f7]))
    (ce : P.cellsOf t = 10) (ho : f0.offset = 0 ∧ f1.offset = 1 ∧ f2.offset = 2 ∧ f3.offset = 3 ∧ f4.offset = 4 ∧ f5.offset = 5 ∧ f6.offset = 6 ∧ f7.offset = 7)
    (hc : P.cellsOf f0.type = 1 ∧ P.cellsOf f1.type = 1 ∧ P.cellsOf f2.type = 1 ∧ P.cellsOf f3.type = 1 ∧ P.cellsOf f4.type = 1 ∧ P.cellsOf f5.type = 1 ∧ P.cellsOf f6.type = 1 ∧ P.cellsOf f7.type = 3)
    (h0 : P.underlying f0.type = some (.int .u16)) (h1 : P.underlying f1.type = some (.int .u32)) (h2 : P.underlying f2.type = some (.int .u16)) (h3 : P.underlying f3.type = some (.int .u8)) (h4 : P.underlying f4.type = some (.int .u8)) (h5 : P.underlying f5.type = some (.int .u8)) (h6 : P.underlying f6.type = some .bool)
    (h7 : P.underlying f7.type = some (.array 3 ea)) (ca : P.cellsOf ea = 1) (ha : P.underlying ea = some (.int .u8))
    {r : Reach} {b0 : Nat} (hval : Value.okWide P w r b0 t v) (h : DataW.Trod enc P w base (fun _ => true) true t v d ps) :
    ∃ e : Ev, v = e.v ∧ e.Fit := by
  obtain ⟨cs, rfl, hcs⟩ := okWide_struct ht hval
  obtain ⟨fuel, hf⟩ := h
  obtain ⟨xs, n, -, -, hl, hxl, hall⟩ := DataW.trod_struct ht hf
  obtain ⟨o0, o1, o2, o3, o4, o5, o6, o7⟩ := ho
  obtain ⟨c0, c1, c2, c3, c4, c5, c6, c7⟩ := hc
  have g0 := hall 0 f0 rfl
  have g1 := hall 1 f1 rfl
  have g2 := hall 2 f2 rfl
  have g3 := hall 3 f3 rfl
  have g4 := hall 4 f4 rfl
  have g5 := hall 5 f5 rfl
  have g6 := hall 6 f6 rfl
  have g7 := hall 7 f7 rfl
  simp only [Value.cells, o0, o1, o2, o3, o4, o5, o6, o7, c0, c1, c2, c3, c4, c5, c6, c7] at g0 g1 g2 g3 g4 g5 g6 g7 hl
  rcases cs with ⟨l⟩
  rw [ce] at hcs
  match l, hcs with
  | [z0, z1, z2, z3, z4, z5, z6, z7, z8, z9], _ =>
    match xs, hxl with
    | [x0, x1, x2, x3, x4, x5, x6, x7], _ =>
      simp at g0 g1 g2 g3 g4 g5 g6 g7
      obtain ⟨a0, e0, -, w0⟩ := DataW.trod_int h0 g0
      obtain ⟨a1, e1, -, w1⟩ := DataW.trod_int h1 g1
      obtain ⟨a2, e2, -, w2⟩ := DataW.trod_int h2 g2
      obtain ⟨a3, e3, -, w3⟩ := DataW.trod_int h3 g3
      obtain ⟨a4, e4, -, w4⟩ := DataW.trod_int h4 g4
      obtain ⟨a5, e5, -, w5⟩ := DataW.trod_int h5 g5
      obtain ⟨a6, e6, -⟩ := DataW.trod_bool h6 g6
      obtain ⟨ys, m, -, -, -, hyl, hy⟩ := DataW.trod_array h7 g7
      match ys, hyl with
      | [y0, y1, y2], _ =>
        have k0 := hy 0 (by omega)
        have k1 := hy 1 (by omega)
        have k2 := hy 2 (by omega)
        simp only [ca] at k0 k1 k2
        simp at k0 k1 k2
        obtain ⟨b0, i0, -, u0⟩ := DataW.trod_int ha k0
        obtain ⟨b1, i1, -, u1⟩ := DataW.trod_int ha k1
        obtain ⟨b2, i2, -, u2⟩ := DataW.trod_int ha k2
        simp at e0 e1 e2 e3 e4 e5 e6 i0 i1 i2
        subst e0 e1 e2 e3 e4 e5 e6 i0 i1 i2
        obtain ⟨p0, q0⟩ := bounds_u16 w0
        obtain ⟨p1, q1⟩ := bounds_u32 w1
        obtain ⟨p2, q2⟩ := bounds_u16 w2
        obtain ⟨p3, q3⟩ := bounds_u8 w3
        obtain ⟨p4, q4⟩ := bounds_u8 w4
        obtain ⟨p5, q5⟩ := bounds_u8 w5
        obtain ⟨p7, q7⟩ := bounds_u8 u0
        obtain ⟨p8, q8⟩ := bounds_u8 u1
        obtain ⟨p9, q9⟩ := bounds_u8 u2
        obtain ⟨a0, rfl⟩ := nat_of p0
        obtain ⟨a1, rfl⟩ := nat_of p1
        obtain ⟨a2, rfl⟩ := nat_of p2
        obtain ⟨a3, rfl⟩ := nat_of p3
        obtain ⟨a4, rfl⟩ := nat_of p4
        obtain ⟨a5, rfl⟩ := nat_of p5
        obtain ⟨b0, rfl⟩ := nat_of p7
        obtain ⟨b1, rfl⟩ := nat_of p8
        obtain ⟨b2, rfl⟩ := nat_of p9
        exact ⟨⟨a0, a1, a2, a3, a4, a5, a6, b0, b1, b2⟩, rfl, ⟨by show a0 < 65536; omega, by show a1 < 4294967296; omega, by show a2 < 65536; omega, by show a3 < 256; omega, by show a4 < 256; omega, by show a5 < 256; omega, by show b0 < 256; omega, by show b1 < 256; omega, by show b2 < 256; omega⟩⟩
end
end Go.Proofs.Ytncpbgmbneobiaa.Law
