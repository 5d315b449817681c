/- From a law's walk to its row: an array of six bytes, a sensor record as parameters. -/
import Derived.Test.YtafoaonkjcfbaaaS56
import Derived.Test.YtafoaonkjcfbaaaS18
import Derived.Test.YtafoaonkjcfbaaaS20
namespace Go.Proofs.Ytafoaonkjcfbaaa.Law
open Go.RowKit Go.ChangeShapes Go.WideShapes Go.ChangeAt Go.Proofs.Ytafoaonkjcfbaaa.Mem Go.Proofs.Ytafoaonkjcfbaaa.C4l Go.Proofs.Ytafoaonkjcfbaaa.Ta Go.Proofs.Ytafoaonkjcfbaaa.Tb
set_option maxRecDepth 100000

theorem bounds_u16 {n : Int} (h : (Lit.int .u16 n).wf = true) : 0 ≤ n ∧ n ≤ 65535 := by simpa [Lit.wf, IntKind.min, IntKind.max, IntKind.signed, IntKind.bits] using h
theorem nat_of {n : Int} (h : 0 ≤ n) : ∃ k : Nat, n = (k : Int) := ⟨n.toNat, by omega⟩
section
variable {H : Type} {enc : TypeId × Value → H} {P : Program} {w : World} {base fuel : Nat} {x : DataW H × List MemPlace}
theorem one_u8 {t : TypeId} {cs : List Value} (ht : P.underlying t = some (.int .u8)) (h : DataW.trod enc P w base (fun _ => true) true fuel t cs = some x) : ∃ q : UInt8, cs = [.int .u8 (q.toNat : Int)] := by
  obtain ⟨k, e0, -, hk⟩ := DataW.trod_int ht h
  have hk2 := bounds_u8 hk
  refine ⟨UInt8.ofNat k.toNat, ?_⟩
  rw [e0, UInt8.toNat_ofNat', show ((k.toNat % 2 ^ 8 : Nat) : Int) = k by omega]
theorem one_u16 {t : TypeId} {cs : List Value} (ht : P.underlying t = some (.int .u16)) (h : DataW.trod enc P w base (fun _ => true) true fuel t cs = some x) : ∃ q : Nat, cs = [.int .u16 (q : Int)] ∧ q < 65536 := by
  obtain ⟨k, e0, -, hk⟩ := DataW.trod_int ht h
  have hk2 := bounds_u16 hk
  obtain ⟨q, rfl⟩ := nat_of hk2.1
  exact ⟨q, e0, by omega⟩
theorem one_i64 {t : TypeId} {cs : List Value} (ht : P.underlying t = some (.int .i64)) (h : DataW.trod enc P w base (fun _ => true) true fuel t cs = some x) : ∃ q : Int, cs = [.int .i64 q] ∧ (-9223372036854775808 ≤ q ∧ q ≤ 9223372036854775807) := by
  obtain ⟨k, e0, -, hk⟩ := DataW.trod_int ht h
  exact ⟨k, e0, bounds_i64 hk⟩
theorem one_bool {t : TypeId} {cs : List Value} (ht : P.underlying t = some .bool) (h : DataW.trod enc P w base (fun _ => true) true fuel t cs = some x) : ∃ q : Bool, cs = [.bool q] := by
  obtain ⟨k, e0, -⟩ := DataW.trod_bool ht h
  exact ⟨k, e0⟩
theorem six_u8 {t e : TypeId} {cs : List Value} (ht : P.underlying t = some (.array 6 e)) (ce : P.cellsOf e = 1) (he : P.underlying e = some (.int .u8)) (ct : P.cellsOf t = 6) (h : DataW.trod enc P w base (fun _ => true) true fuel t cs = some x) :
    ∃ q0 q1 q2 q3 q4 q5 : UInt8, cs = [.int .u8 (q0.toNat : Int), .int .u8 (q1.toNat : Int), .int .u8 (q2.toNat : Int), .int .u8 (q3.toNat : Int), .int .u8 (q4.toNat : Int), .int .u8 (q5.toNat : Int)] := by
  obtain ⟨ys, m, -, -, hl, hyl, hy⟩ := DataW.trod_array ht h
  rw [ct] at hl
  match cs, hl with
  | [z0, z1, z2, z3, z4, z5], _ =>
    match ys, hyl with
    | [y0, y1, y2, y3, y4, y5], _ =>
      have k0 := hy 0 (by omega)
      have k1 := hy 1 (by omega)
      have k2 := hy 2 (by omega)
      have k3 := hy 3 (by omega)
      have k4 := hy 4 (by omega)
      have k5 := hy 5 (by omega)
      simp only [ce] at k0 k1 k2 k3 k4 k5
      simp at k0 k1 k2 k3 k4 k5
      obtain ⟨q0, e0⟩ := one_u8 he k0
      obtain ⟨q1, e1⟩ := one_u8 he k1
      obtain ⟨q2, e2⟩ := one_u8 he k2
      obtain ⟨q3, e3⟩ := one_u8 he k3
      obtain ⟨q4, e4⟩ := one_u8 he k4
      obtain ⟨q5, e5⟩ := one_u8 he k5
      simp at e0 e1 e2 e3 e4 e5
      exact ⟨q0, q1, q2, q3, q4, q5, by rw [e0, e1, e2, e3, e4, e5]⟩
theorem okWide_arr {t e : TypeId} {n b0 : Nat} {r : Reach} {v : Value} (ht : P.underlying t = some (.array n e)) (h : Value.okWide P w r b0 t v) : ∃ cs, v = .agg cs ∧ cs.size = P.cellsOf t := by
  simp only [Value.okWide, ht] at h
  obtain ⟨cs, h1, h2, _⟩ := h
  exact ⟨cs, h1, h2⟩
theorem open_arr6 {t e : TypeId} {v : Value} {d : DataW H} {ps : List MemPlace} (ht : P.underlying t = some (.array 6 e)) (ce : P.cellsOf e = 1) (he : P.underlying e = some (.int .u8)) (ct : P.cellsOf t = 6)
    {r : Reach} {b0 : Nat} (hval : Value.okWide P w r b0 t v) (h : DataW.Trod enc P w base (fun _ => true) true t v d ps) :
    ∃ q0 q1 q2 q3 q4 q5 : UInt8, v = .agg #[.int .u8 (q0.toNat : Int), .int .u8 (q1.toNat : Int), .int .u8 (q2.toNat : Int), .int .u8 (q3.toNat : Int), .int .u8 (q4.toNat : Int), .int .u8 (q5.toNat : Int)] := by
  obtain ⟨cs, rfl, hcs⟩ := okWide_arr ht hval
  obtain ⟨fuel, hf⟩ := h
  obtain ⟨q0, q1, q2, q3, q4, q5, e⟩ := six_u8 ht ce he ct hf
  refine ⟨q0, q1, q2, q3, q4, q5, ?_⟩
  rcases cs with ⟨l⟩
  simp only [Value.cells] at e
  rw [e]
end
end Go.Proofs.Ytafoaonkjcfbaaa.Law
