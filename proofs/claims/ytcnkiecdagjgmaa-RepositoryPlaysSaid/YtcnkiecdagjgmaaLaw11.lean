/- From a law's walk to its row: a script for a repository as a parameter. -/
import Derived.Test.YtcnkiecdagjgmaaLaw2
import Derived.Test.YtcnkiecdagjgmaaRv
import Derived.Deep.Slices
namespace Go.Proofs.Ytcnkiecdagjgmaa.Law
open Go.RowKit Go.ChangeShapes Go.WideShapes Go.ChangeAt Go.Proofs.Ytcnkiecdagjgmaa.Mem Go.Proofs.Ytcnkiecdagjgmaa.R11
set_option maxRecDepth 100000
set_option maxHeartbeats 400000

theorem bounds_u16' {n : Int} (h : (Lit.int .u16 n).wf = true) : 0 ≤ n ∧ n ≤ 65535 := by simpa [Lit.wf, IntKind.min, IntKind.max, IntKind.signed, IntKind.bits] using h
section
variable {H : Type} {enc : TypeId × Value → H} {P : Program}
theorem bytes_cell {w : World} {base fuel : Nat} {t e : TypeId} {cs : List Value} {x : DataW H × List MemPlace} (ht : P.underlying t = some (.slice e)) (he : P.underlying e = some (.int .u8)) (hc : P.cellsOf e = 1)
    (hm : DataW.trod enc P w base (fun _ => true) true fuel t cs = some x) : ∃ (A : Option Addr) (n c : Nat) (l : List UInt8), cs = [.slice A n c] ∧ n = l.length ∧ Row w.heap.size w A l ∧ n ≤ c ∧ c ≤ maxLen ∧ (A = none → c = 0) := by
  rcases open_ints ht he hc hm with ⟨h1, h2⟩ | ⟨a, len, cap, zs, h1, -, h3, h4, h5, -, h7, h8⟩
  · exact ⟨none, 0, 0, [], h1, rfl, Rd.nil, Nat.le_refl _, by unfold maxLen; omega, fun _ => rfl⟩
  · simp only [if_true] at h5
    refine ⟨some a, len, cap, (zs.take len).map (fun z => UInt8.ofNat z.toNat), h1, by simp; omega, fun hl => ⟨a, rfl, ?_, fun k hk => ?_⟩, h3, h4, fun hh => by cases hh⟩
    · have hz : 0 < zs.length := by simp [bvs] at hl; omega
      have hcell := h7 0 hz
      rw [← add_block a 0]
      rcases Nat.lt_or_ge (a.add 0).block w.heap.size with hh | hh
      · exact hh
      · simp [World.cell?, Array.getElem?_eq_none hh] at hcell
    · have hk' : k < zs.length := by simp [bvs] at hk; omega
      rw [h7 k hk']
      have hw := h8 _ (List.getElem_mem hk')
      have hx : 0 ≤ zs[k] ∧ zs[k] ≤ 255 := by simpa [Lit.wf, IntKind.min, IntKind.max, IntKind.signed, IntKind.bits] using hw
      have e1 : zs.getD k 0 = zs[k] := by rw [List.getD, List.getElem?_eq_getElem hk']; rfl
      have e2 : ((UInt8.ofNat zs[k].toNat).toNat : Int) = zs[k] := by rw [UInt8.toNat_ofNat']; omega
      rw [e1]
      simp only [bvs, List.getElem_map, List.getElem_take, bv, e2]
theorem open_does {w : World} {base : Nat} {t e eb : TypeId} {f0 f1 f2 f3 f4 f5 f6 : Field} {v : Value} {d : DataW H} {ps : List MemPlace} (ht : P.underlying t = some (.slice e)) (he : P.underlying e = some (.struct #[f0, f1, f2, f3, f4, f5, f6]))
    (ce : P.cellsOf e = 7) (ho : f0.offset = 0 ∧ f1.offset = 1 ∧ f2.offset = 2 ∧ f3.offset = 3 ∧ f4.offset = 4 ∧ f5.offset = 5 ∧ f6.offset = 6)
    (hc : P.cellsOf f0.type = 1 ∧ P.cellsOf f1.type = 1 ∧ P.cellsOf f2.type = 1 ∧ P.cellsOf f3.type = 1 ∧ P.cellsOf f4.type = 1 ∧ P.cellsOf f5.type = 1 ∧ P.cellsOf f6.type = 1)
    (h0 : P.underlying f0.type = some (.int .i64)) (h1 : P.underlying f1.type = some (.int .i64)) (h2 : P.underlying f2.type = some (.int .i64)) (h3 : P.underlying f3.type = some (.int .u16)) (h4 : P.underlying f4.type = some (.int .u16)) (h5 : P.underlying f5.type = some .bool)
    (h6 : P.underlying f6.type = some (.slice eb)) (hb : P.underlying eb = some (.int .u8)) (cb : P.cellsOf eb = 1)
    {r : Reach} {b0 : Nat} (hval : Value.okWide P w r b0 t v) (h : DataW.Trod enc P w base (fun _ => true) true t v d ps) :
    ∃ (A : Option Addr) (n c : Nat) (l : List Do2), v = .slice A n c ∧ Scr w.heap.size w A n c l := by
  obtain ⟨a0, len0, cap0, rfl⟩ := okWide_slice ht hval
  obtain ⟨fuel, hm⟩ := h
  obtain ⟨o0, o1, o2, o3, o4, o5, o6⟩ := ho
  obtain ⟨c0, c1, c2, c3, c4, c5, c6⟩ := hc
  rcases Go.Deep.open_slice ht hm with ⟨e1, -⟩ | ⟨a, len, cap, m, n, D, Pl, e1, hbb, hl, hcm, hmm, -, hx⟩
  · have e1 : Value.slice a0 len0 cap0 = Value.slice none 0 0 := by simpa [Value.cells] using e1
    exact ⟨none, 0, 0, [], e1, rfl, Nat.le_refl _, by unfold maxLen; omega, fun _ => rfl, fun k hk => absurd hk (by simp)⟩
  · have e1 : Value.slice a0 len0 cap0 = Value.slice (some a) len cap := by simpa [Value.cells] using e1
    have hlm : len ≤ m := by rw [hmm]; simp; exact hl
    have each : ∀ i, i < len → ∃ q : Do2, a.block < w.heap.size ∧ DoIn w.heap.size w (a.add (i * 7)) q := fun i hi => by
      obtain ⟨cs', g1, g2⟩ := hx i (by omega)
      rw [ce] at g1
      obtain ⟨_, hlen, hcell⟩ := World.cells?_some g1
      obtain ⟨xs, k, -, -, -, hxl, hf⟩ := DataW.trod_struct he g2
      match xs, hxl, cs', hlen with
      | [y0, y1, y2, y3, y4, y5, y6], _, [v0, v1, v2, v3, v4, v5, v6], _ =>
        have t0 := hf 0 f0 rfl
        have t1 := hf 1 f1 rfl
        have t2 := hf 2 f2 rfl
        have t3 := hf 3 f3 rfl
        have t4 := hf 4 f4 rfl
        have t5 := hf 5 f5 rfl
        have t6 := hf 6 f6 rfl
        simp [o0, o1, o2, o3, o4, o5, o6, c0, c1, c2, c3, c4, c5, c6] at t0 t1 t2 t3 t4 t5 t6
        have q0 := hcell 0 (by omega)
        have q1 := hcell 1 (by omega)
        have q2 := hcell 2 (by omega)
        have q3 := hcell 3 (by omega)
        have q4 := hcell 4 (by omega)
        have q5 := hcell 5 (by omega)
        have q6 := hcell 6 (by omega)
        obtain ⟨k0, e0, -, w0⟩ := DataW.trod_int h0 t0
        obtain ⟨k1, e1', -, w1⟩ := DataW.trod_int h1 t1
        obtain ⟨k2, e2, -, w2⟩ := DataW.trod_int h2 t2
        obtain ⟨k3, e3, -, w3⟩ := DataW.trod_int h3 t3
        obtain ⟨k4, e4, -, w4⟩ := DataW.trod_int h4 t4
        obtain ⟨k5, e5, -⟩ := DataW.trod_bool h5 t5
        obtain ⟨B, bn, bc, bl, e6, r1, r2, r3, r4, r5⟩ := bytes_cell h6 hb cb t6
        simp at e0 e1' e2 e3 e4 e5 e6
        subst e0 e1' e2 e3 e4 e5 e6
        have w3' := bounds_u16' w3
        have w4' := bounds_u16' w4
        obtain ⟨m3, rfl⟩ := Int.eq_ofNat_of_zero_le w3'.1
        obtain ⟨m4, rfl⟩ := Int.eq_ofNat_of_zero_le w4'.1
        have q0' : w.cell? (a.add (i * 7)) = some (.int .i64 k0) := by simpa [Addr.add] using q0
        refine ⟨⟨k0, k1, k2, m3, m4, k5, B, bn, bc, bl⟩, ?_, ⟨(bounds_i64 w0).1, (bounds_i64 w0).2, (bounds_i64 w1).1, (bounds_i64 w1).2, (bounds_i64 w2).1, (bounds_i64 w2).2, Int.ofNat_le.1 w3'.2, Int.ofNat_le.1 w4'.2, r1, r3, r4, r5, r2, q0', q1, q2, q3, q4, q5, q6⟩⟩
        rw [← add_block a (i * 7)]
        rcases Nat.lt_or_ge (a.add (i * 7)).block w.heap.size with hh | hh
        · exact hh
        · simp [World.cell?, Array.getElem?_eq_none hh] at q0'
    have hd : ∃ q : Nat → Do2, ∀ i, i < len → a.block < w.heap.size ∧ DoIn w.heap.size w (a.add (i * 7)) (q i) := by
      refine ⟨fun i => if hi : i < len then Classical.choose (each i hi) else ⟨0, 0, 0, 0, 0, false, none, 0, 0, []⟩, fun i hi => ?_⟩
      simp only [hi, dif_pos]
      exact Classical.choose_spec (each i hi)
    obtain ⟨q, hq⟩ := hd
    refine ⟨some a, len, cap, (List.range len).map q, e1, by simp, hl, hcm, (fun hh => by cases hh), fun k hk => ?_⟩
    have hk' : k < len := by simpa using hk
    obtain ⟨s1, s2⟩ := hq k hk'
    refine ⟨a, rfl, s1, ?_⟩
    rw [List.getElem_map, List.getElem_range]
    exact s2
end
end Go.Proofs.Ytcnkiecdagjgmaa.Law
