/- Walks: the program's sensor records: limits. Walks: the program's sensor records: which ones are valid. -/
import Derived.Test.YtafoaonkjcfbaaaK14
namespace Go.Proofs.Ytafoaonkjcfbaaa.Tb
open Go.RowKit Go.Proofs.Ytafoaonkjcfbaaa.Mem Go.Proofs.Ytafoaonkjcfbaaa.F2p Go.Proofs.Ytafoaonkjcfbaaa.Ta
set_option maxRecDepth 100000
set_option maxHeartbeats 1000000

theorem limits_p (sg : Bool) (mx r0 r1 r2 r3 r4 r5 : UInt8) (w : World) :
    Calls Try.prog 116 #[.agg #[.int .u8 (mx.toNat : Int), .int .u8 (r0.toNat : Int), .int .u8 (r1.toNat : Int), .int .u8 (r2.toNat : Int), .int .u8 (r3.toNat : Int), .int .u8 (r4.toNat : Int), .int .u8 (r5.toNat : Int)], .bool sg] w fun e w' => e = .returned (.bool (lims sg mx.toNat [r0, r1, r2, r3, r4, r5])) ∧ Below w.heap.size w w' := by
  obtain ⟨R, hR⟩ : ∃ R, R = lims sg mx.toNat [r0, r1, r2, r3, r4, r5] := ⟨_, rfl⟩
  rw [← hR]
  have hb0 : Below w.heap.size w (w.alloc (.cells #[.int .u8 (mx.toNat : Int), .int .u8 (r0.toNat : Int), .int .u8 (r1.toNat : Int), .int .u8 (r2.toNat : Int), .int .u8 (r3.toNat : Int), .int .u8 (r4.toNat : Int), .int .u8 (r5.toNat : Int)] 57)) := (Below.refl _ _).alloc (Nat.le_refl _) _
  have hth0 : Th (w.alloc (.cells #[.int .u8 (mx.toNat : Int), .int .u8 (r0.toNat : Int), .int .u8 (r1.toNat : Int), .int .u8 (r2.toNat : Int), .int .u8 (r3.toNat : Int), .int .u8 (r4.toNat : Int), .int .u8 (r5.toNat : Int)] 57)) w.heap.size mx r0 r1 r2 r3 r4 r5 := heap_alloc_new w _
  by_cases h63 : mx.toNat ≤ 63
  case neg =>
    have hf : R = false := by rw [hR]; unfold lims; rw [decide_eq_false h63]; rfl
    subst hf
    clear hR
    have h64 : 63 < mx.toNat := by omega
    go_enter Try.func116, Try.ntmps116
    go_wp2_with fail
    go_ret
    exact ⟨rfl, hb0⟩
  have hyes : (∀ i, i < 6 → (has mx.toNat i || decide ([r0, r1, r2, r3, r4, r5].getD i 0 = 0)) = true) → R = ordd sg mx.toNat [r0, r1, r2, r3, r4, r5] := fun h => by
    have : zer mx.toNat [r0, r1, r2, r3, r4, r5] = true := by unfold zer; simp only [List.all_eq_true, List.mem_range]; exact h
    rw [hR]; unfold lims
    rw [decide_eq_true h63, this, Bool.true_and, Bool.true_and]
  have hno : ∀ i, i < 6 → (has mx.toNat i || decide ([r0, r1, r2, r3, r4, r5].getD i 0 = 0)) = false → R = false := fun i hi hp => by
    have : zer mx.toNat [r0, r1, r2, r3, r4, r5] = false := by unfold zer; rw [List.all_eq_false]; exact ⟨i, List.mem_range.2 hi, by rw [hp]; simp⟩
    rw [hR]; unfold lims
    rw [this, Bool.false_and, Bool.and_false]
  have HY := Lib.hid hyes
  have HN := Lib.hid hno
  clear hyes hno hR
  go_enter Try.func116, Try.ntmps116
  go_wp2_with fail
  generalize w.alloc (.cells #[.int .u8 (mx.toNat : Int), .int .u8 (r0.toNat : Int), .int .u8 (r1.toNat : Int), .int .u8 (r2.toNat : Int), .int .u8 (r3.toNat : Int), .int .u8 (r4.toNat : Int), .int .u8 (r5.toNat : Int)] 57) = w1 at *
  generalize hr0 : w.heap.size = r at *
  have HR0 := Lib.hid hr0
  clear hr0
  go_loopw [12] (fun v wr => ∃ j : Nat, j ≤ 6 ∧ v = .int .i64 (j : Int) ∧ Th wr r mx r0 r1 r2 r3 r4 r5 ∧ Below r w wr ∧ ∀ i, i < j → (has mx.toNat i || decide ([r0, r1, r2, r3, r4, r5].getD i 0 = 0)) = true) (fun v _ => 6 - (intOf v).toNat)
  case atStart => exact ⟨0, by omega, rfl, hth0, hb0, fun _ h => absurd h (Nat.not_lt_zero _)⟩
  case round =>
    clear hth0 hb0
    obtain ⟨j, hj, rfl, hth, hb, hok⟩ := hrel
    have HOK := Lib.hid hok
    clear hok
    by_cases hj6 : j < 6
    · have hix : ∀ W, Sem.run Try.prog (Instr.index 55 (.agg #[.int .u8 (r0.toNat : Int), .int .u8 (r1.toNat : Int), .int .u8 (r2.toNat : Int), .int .u8 (r3.toNat : Int), .int .u8 (r4.toNat : Int), .int .u8 (r5.toNat : Int)]) (.int .i64 (j : Int))) W = .ok (Value.int .u8 (([r0, r1, r2, r3, r4, r5].getD j 0).toNat : Int)) W := fun W => by
        rcases (show j = 0 ∨ j = 1 ∨ j = 2 ∨ j = 3 ∨ j = 4 ∨ j = 5 by omega) with rfl | rfl | rfl | rfl | rfl | rfl <;> first | rfl | (go_simp; rfl) | go_simp
      have kj6 : decide ((j : Int) < 6) = true := by simp; omega
      obtain ⟨bi, hbi⟩ : ∃ bi, bi = has mx.toNat j := ⟨_, rfl⟩
      have HI := Lib.hid fun (u : World) => by have := has_p mx r0 r1 r2 r3 r4 r5 j hj6 u; rw [← hbi] at this; exact this
      have hno := HN.out j hj6
      have hyy : (has mx.toNat j || decide ([r0, r1, r2, r3, r4, r5].getD j 0 = 0)) = (bi || decide ([r0, r1, r2, r3, r4, r5].getD j 0 = 0)) := by rw [hbi]
      rw [hyy] at hno
      generalize hxj : [r0, r1, r2, r3, r4, r5].getD j 0 = xj at *
      have HXJ := Lib.hid hxj
      clear hxj
      have HNO := Lib.hid hno
      have HYY := Lib.hid hyy
      obtain ⟨c0, c1, c2, c3, c4, c5, c6⟩ := hth.cells
      clear hno hyy hbi
      go_wp2_with fail
      refine (HI.out _).mono ?_
      rintro e w2 ⟨rfl, hb2⟩
      have hb' := hb.trans (hb2.mono (Nat.le_of_lt hth.lt))
      have hth' := hth.below hb2
      cases bi
      · by_cases hz : xj = 0
        · subst hz
          go_wp2_with fail
          refine ⟨⟨j + 1, by omega, by go_num, hth', hb', fun k hk => ?_⟩, by simp [intOf]; omega⟩
          rcases Nat.lt_or_ge k j with g | g
          · exact HOK.out k g
          · obtain rfl : k = j := by omega
            rw [HXJ.out]; first | rw [HYY.out]; rfl | exact HYY.out
        · have hnz : ((xj.toNat : Int) != 0) = true := by
            rw [bne_iff_ne]; intro h; exact hz (UInt8.toNat_inj.1 (by rw [show (0 : UInt8).toNat = 0 from rfl]; omega))
          have hf := HNO.out (by rw [decide_eq_false hz]; rfl)
          subst hf
          go_wp2_with fail
          go_ret
          exact ⟨rfl, by rw [HR0.out]; exact hb'⟩
      · go_wp2_with fail
        refine ⟨⟨j + 1, by omega, by go_num, hth', hb', fun k hk => ?_⟩, by simp [intOf]; omega⟩
        rcases Nat.lt_or_ge k j with g | g
        · exact HOK.out k g
        · obtain rfl : k = j := by omega
          rw [HXJ.out]; first | rw [HYY.out]; rfl | exact HYY.out
    · have hy := HY.out (fun i h => HOK.out i (by omega))
      have HO := Lib.hid fun (u : World) => by have := ordered_p sg mx r0 r1 r2 r3 r4 r5 u; rw [← hy] at this; exact this
      obtain ⟨c0, c1, c2, c3, c4, c5, c6⟩ := hth.cells
      clear hy
      go_wp2_with fail
      refine (HO.out _).mono ?_
      rintro e w2 ⟨rfl, hb2⟩
      go_wp2_with fail
      go_ret
      exact ⟨rfl, by rw [HR0.out]; exact hb.trans (hb2.mono (Nat.le_of_lt hth.lt))⟩
/-- A record's cells; V: the points. -/
def cells (s : Sn) (V : Value) : Array Value := #[.int .u8 (s.nu.toNat : Int), .int .u8 (s.ty.toNat : Int), .int .u8 (s.un.toNat : Int), .string s.nm, .int .u8 (s.ei.toNat : Int), .int .u8 (s.en.toNat : Int), .bool s.d, .int .i64 s.c.f, .bool s.c.s, .int .i64 s.c.m, .int .i64 s.c.b, .int .i64 s.c.k1, .int .i64 s.c.k2, V, .int .u8 (s.mx.toNat : Int), .int .u8 (s.r0.toNat : Int), .int .u8 (s.r1.toNat : Int), .int .u8 (s.r2.toNat : Int), .int .u8 (s.r3.toNat : Int), .int .u8 (s.r4.toNat : Int), .int .u8 (s.r5.toNat : Int), .int .u8 (s.hl.toNat : Int), .int .u8 (s.hu.toNat : Int), .int .u16 (s.st : Int), .int .u16 (s.av : Int), .int .u16 (s.dv : Int), .bool s.on, .int .i64 s.sm]

end Go.Proofs.Ytafoaonkjcfbaaa.Tb
namespace Go.Proofs.Ytafoaonkjcfbaaa.Tb
open Go.RowKit Go.Proofs.Ytafoaonkjcfbaaa.Mem Go.Proofs.Ytafoaonkjcfbaaa.F2p Go.Proofs.Ytafoaonkjcfbaaa.C4l Go.Proofs.Ytafoaonkjcfbaaa.Ta
set_option maxRecDepth 100000
set_option maxHeartbeats 1000000

/-- A record in a block. -/
def Bx (w : World) (r : Nat) (s : Sn) (V : Value) : Prop := w.heap[r]? = some (.cells (cells s V) 59 (0, 0))
section
variable {w w' : World} {r : Nat} {s : Sn} {V : Value}
theorem Bx.lt (h : Bx w r s V) : r < w.heap.size := by
  rcases Nat.lt_or_ge r w.heap.size with h1 | h1
  · exact h1
  · unfold Bx at h; rw [Array.getElem?_eq_none h1] at h; cases h
theorem Bx.below (h : Bx w r s V) (hb : Below w.heap.size w w') : Bx w' r s V := (hb.block r h.lt).trans h
theorem Bx.c (h : Bx w r s V) (i : Nat) : w.cell? ⟨r, i, none⟩ = (cells s V)[i]? := cell_of_row w r i _ _ _ h
theorem Bx.fz (h : Bx w r s V) (i : Nat) : w.frozen? ⟨r, i, none⟩ = false := frozen_of_row w r i _ _ h
end
section
variable {w : World} {r : Nat} {nu ty un : UInt8} {nm : ByteArray} {ei en : UInt8} {d : Bool} {f m b k1 k2 : Int} {sg : Bool} {p : List Pt} {mx r0 r1 r2 r3 r4 r5 hl hu : UInt8} {st av dv : Nat} {on : Bool} {sm : Int} {V : Value}
theorem Bx.all (h : Bx w r ⟨nu, ty, un, nm, ei, en, d, ⟨f, sg, m, b, k1, k2, p⟩, mx, r0, r1, r2, r3, r4, r5, hl, hu, st, av, dv, on, sm⟩ V) : w.cell? ⟨r, 0, none⟩ = some (.int .u8 (nu.toNat : Int)) ∧ w.cell? ⟨r, 1, none⟩ = some (.int .u8 (ty.toNat : Int)) ∧ w.cell? ⟨r, 2, none⟩ = some (.int .u8 (un.toNat : Int)) ∧ w.cell? ⟨r, 3, none⟩ = some (.string nm) ∧ w.cell? ⟨r, 4, none⟩ = some (.int .u8 (ei.toNat : Int)) ∧ w.cell? ⟨r, 5, none⟩ = some (.int .u8 (en.toNat : Int)) ∧ w.cell? ⟨r, 6, none⟩ = some (.bool d) ∧ w.cell? ⟨r, 7, none⟩ = some (.int .i64 f) ∧ w.cell? ⟨r, 8, none⟩ = some (.bool sg) ∧ w.cell? ⟨r, 9, none⟩ = some (.int .i64 m) ∧ w.cell? ⟨r, 10, none⟩ = some (.int .i64 b) ∧ w.cell? ⟨r, 11, none⟩ = some (.int .i64 k1) ∧ w.cell? ⟨r, 12, none⟩ = some (.int .i64 k2) ∧ w.cell? ⟨r, 13, none⟩ = some (V) ∧ w.cell? ⟨r, 14, none⟩ = some (.int .u8 (mx.toNat : Int)) ∧ w.cell? ⟨r, 15, none⟩ = some (.int .u8 (r0.toNat : Int)) ∧ w.cell? ⟨r, 16, none⟩ = some (.int .u8 (r1.toNat : Int)) ∧ w.cell? ⟨r, 17, none⟩ = some (.int .u8 (r2.toNat : Int)) ∧ w.cell? ⟨r, 18, none⟩ = some (.int .u8 (r3.toNat : Int)) ∧ w.cell? ⟨r, 19, none⟩ = some (.int .u8 (r4.toNat : Int)) ∧ w.cell? ⟨r, 20, none⟩ = some (.int .u8 (r5.toNat : Int)) ∧ w.cell? ⟨r, 21, none⟩ = some (.int .u8 (hl.toNat : Int)) ∧ w.cell? ⟨r, 22, none⟩ = some (.int .u8 (hu.toNat : Int)) ∧ w.cell? ⟨r, 23, none⟩ = some (.int .u16 (st : Int)) ∧ w.cell? ⟨r, 24, none⟩ = some (.int .u16 (av : Int)) ∧ w.cell? ⟨r, 25, none⟩ = some (.int .u16 (dv : Int)) ∧ w.cell? ⟨r, 26, none⟩ = some (.bool on) ∧ w.cell? ⟨r, 27, none⟩ = some (.int .i64 sm) :=
  ⟨h.c 0, h.c 1, h.c 2, h.c 3, h.c 4, h.c 5, h.c 6, h.c 7, h.c 8, h.c 9, h.c 10, h.c 11, h.c 12, h.c 13, h.c 14, h.c 15, h.c 16, h.c 17, h.c 18, h.c 19, h.c 20, h.c 21, h.c 22, h.c 23, h.c 24, h.c 25, h.c 26, h.c 27⟩
theorem Bx.new {w : World} : Bx (w.alloc (.cells #[.int .u8 (nu.toNat : Int), .int .u8 (ty.toNat : Int), .int .u8 (un.toNat : Int), .string nm, .int .u8 (ei.toNat : Int), .int .u8 (en.toNat : Int), .bool d, .int .i64 f, .bool sg, .int .i64 m, .int .i64 b, .int .i64 k1, .int .i64 k2, V, .int .u8 (mx.toNat : Int), .int .u8 (r0.toNat : Int), .int .u8 (r1.toNat : Int), .int .u8 (r2.toNat : Int), .int .u8 (r3.toNat : Int), .int .u8 (r4.toNat : Int), .int .u8 (r5.toNat : Int), .int .u8 (hl.toNat : Int), .int .u8 (hu.toNat : Int), .int .u16 (st : Int), .int .u16 (av : Int), .int .u16 (dv : Int), .bool on, .int .i64 sm] 59)) w.heap.size ⟨nu, ty, un, nm, ei, en, d, ⟨f, sg, m, b, k1, k2, p⟩, mx, r0, r1, r2, r3, r4, r5, hl, hu, st, av, dv, on, sm⟩ V := heap_alloc_new w _
end
theorem ana_p (s : Sn) (A : Option Addr) (n cp : Nat) (w : World) (hsl : PSl w A n cp s.c.p) : Calls Try.prog 80 #[.agg (cells s (.slice A n cp))] w fun e w' => e = .returned (.bool (ana s)) ∧ Below w.heap.size w w' := by
  obtain ⟨nu, ty, un, nm, ei, en, d, ⟨f, sg, m, b, k1, k2, p⟩, mx, r0, r1, r2, r3, r4, r5, hl, hu, st, av, dv, on, sm⟩ := s
  dsimp only at hsl
  obtain ⟨R, hR⟩ : ∃ R, R = ana ⟨nu, ty, un, nm, ei, en, d, ⟨f, sg, m, b, k1, k2, p⟩, mx, r0, r1, r2, r3, r4, r5, hl, hu, st, av, dv, on, sm⟩ := ⟨_, rfl⟩
  rw [← hR]
  unfold ana at hR
  dsimp only [Sn.raw] at hR
  unfold cells
  dsimp only
  have hb0 : Below w.heap.size w (w.alloc (.cells #[.int .u8 (nu.toNat : Int), .int .u8 (ty.toNat : Int), .int .u8 (un.toNat : Int), .string nm, .int .u8 (ei.toNat : Int), .int .u8 (en.toNat : Int), .bool d, .int .i64 f, .bool sg, .int .i64 m, .int .i64 b, .int .i64 k1, .int .i64 k2, .slice A n cp, .int .u8 (mx.toNat : Int), .int .u8 (r0.toNat : Int), .int .u8 (r1.toNat : Int), .int .u8 (r2.toNat : Int), .int .u8 (r3.toNat : Int), .int .u8 (r4.toNat : Int), .int .u8 (r5.toNat : Int), .int .u8 (hl.toNat : Int), .int .u8 (hu.toNat : Int), .int .u16 (st : Int), .int .u16 (av : Int), .int .u16 (dv : Int), .bool on, .int .i64 sm] 59)) := (Below.refl _ _).alloc (Nat.le_refl _) _
  have hx0 : Bx (w.alloc (.cells #[.int .u8 (nu.toNat : Int), .int .u8 (ty.toNat : Int), .int .u8 (un.toNat : Int), .string nm, .int .u8 (ei.toNat : Int), .int .u8 (en.toNat : Int), .bool d, .int .i64 f, .bool sg, .int .i64 m, .int .i64 b, .int .i64 k1, .int .i64 k2, .slice A n cp, .int .u8 (mx.toNat : Int), .int .u8 (r0.toNat : Int), .int .u8 (r1.toNat : Int), .int .u8 (r2.toNat : Int), .int .u8 (r3.toNat : Int), .int .u8 (r4.toNat : Int), .int .u8 (r5.toNat : Int), .int .u8 (hl.toNat : Int), .int .u8 (hu.toNat : Int), .int .u16 (st : Int), .int .u16 (av : Int), .int .u16 (dv : Int), .bool on, .int .i64 sm] 59)) w.heap.size ⟨nu, ty, un, nm, ei, en, d, ⟨f, sg, m, b, k1, k2, p⟩, mx, r0, r1, r2, r3, r4, r5, hl, hu, st, av, dv, on, sm⟩ (.slice A n cp) := Bx.new
  have hs1 := hsl.step hb0
  obtain ⟨b1, hb1⟩ : ∃ b1, b1 = C4p.vld ⟨f, sg, m, b, k1, k2, p⟩ := ⟨_, rfl⟩
  obtain ⟨b2, hb2⟩ : ∃ b2, b2 = lims sg mx.toNat [r0, r1, r2, r3, r4, r5] := ⟨_, rfl⟩
  obtain ⟨b4, hb4⟩ : ∃ b4, b4 = inm av mx.toNat := ⟨_, rfl⟩
  obtain ⟨b5, hb5⟩ : ∃ b5, b5 = inm dv mx.toNat := ⟨_, rfl⟩
  have H1 := Lib.hid (by have := P4.valid_p f m b k1 k2 sg A n cp p _ hs1; rw [← hb1] at this; exact this)
  have H2 := Lib.hid fun (u : World) => by have := limits_p sg mx r0 r1 r2 r3 r4 r5 u; rw [← hb2] at this; exact this
  have H4 := Lib.hid fun (u : World) => by have := within_p av mx.toNat u; rw [← hb4] at this; exact this
  have H5 := Lib.hid fun (u : World) => by have := within_p dv mx.toNat u; rw [← hb5] at this; exact this
  rw [← hb1, ← hb2, ← hb4, ← hb5] at hR
  have HR := Lib.hid hR
  clear hb1 hb2 hb4 hb5 hR hsl hs1
  have hml := mx.toNat_lt
  go_enter Try.func80, Try.ntmps80
  go_wp2_with fail
  refine H1.out.mono ?_
  rintro e w2 ⟨rfl, hb2⟩
  have hx2 := hx0.below hb2
  have hbb := hb0.trans (hb2.mono hb0.size)
  clear hx0 hb0 hb2 H1
  cases b1
  · have hf : R = false := HR.out
    subst hf
    go_wp2_with fail
    go_ret
    exact ⟨rfl, hbb⟩
  obtain ⟨z0, z1, z2, z3, z4, z5, z6, z7, z8, z9, z10, z11, z12, z13, z14, z15, z16, z17, z18, z19, z20, z21, z22, z23, z24, z25, z26, z27⟩ := hx2.all
  go_wp2_with fail
  refine (H2.out _).mono ?_
  rintro e w3 ⟨rfl, hb3⟩
  have hx3 := hx2.below hb3
  have hbb2 := hbb.trans (hb3.mono (Nat.le_trans (Nat.le_of_lt hx2.lt) (Nat.le_refl _)))
  clear hx2 hbb hb3 z0 z1 z2 z3 z4 z5 z6 z7 z8 z9 z10 z11 z12 z13 z14 z15 z16 z17 z18 z19 z20 z21 z22 z23 z24 z25 z26 z27
  cases b2
  · have hf : R = false := HR.out
    subst hf
    go_wp2_with fail
    go_ret
    exact ⟨rfl, hbb2⟩
  obtain ⟨z0, z1, z2, z3, z4, z5, z6, z7, z8, z9, z10, z11, z12, z13, z14, z15, z16, z17, z18, z19, z20, z21, z22, z23, z24, z25, z26, z27⟩ := hx3.all
  by_cases h0 : st = 0
  case neg =>
    have hf : R = false := by rw [HR.out, decide_eq_false h0]; rfl
    subst hf
    have hk : ((st : Int) == 0) = false := by rw [beq_eq_false_iff_ne]; omega
    go_wp2_with fail
    go_ret
    exact ⟨rfl, hbb2⟩
  subst h0
  go_wp2_with fail
  refine (H4.out _).mono ?_
  rintro e w4 ⟨rfl, rfl⟩
  cases b4
  · have hf : R = false := HR.out
    subst hf
    go_wp2_with fail
    go_ret
    exact ⟨rfl, hbb2⟩
  go_wp2_with fail
  refine (H5.out _).mono ?_
  rintro e w4 ⟨rfl, rfl⟩
  have hf : R = b5 := HR.out
  subst hf
  go_wp2_with fail
  all_goals
    go_ret
    exact ⟨rfl, hbb2⟩
end Go.Proofs.Ytafoaonkjcfbaaa.Tb
