/- Walks: the program's sensor records: which ones are valid. -/
import Derived.Test.YtekhpcfggbegaaaS19
namespace Go.Proofs.Ytekhpcfggbegaaa.Tb
open Go.RowKit Go.Proofs.Ytekhpcfggbegaaa.Mem Go.Proofs.Ytekhpcfggbegaaa.F2p Go.Proofs.Ytekhpcfggbegaaa.C4l Go.Proofs.Ytekhpcfggbegaaa.Ta
set_option maxRecDepth 100000
set_option maxHeartbeats 1000000

/-- A record in a block. -/
def Bx (w : World) (r : Nat) (s : Sn) (V : Value) : Prop := w.heap[r]? = some (.cells (cells s V) 32 (0, 0))
section
variable {w w' : World} {r : Nat} {s : Sn} {V : Value}
theorem Bx.lt (h : Bx w r s V) : r < w.heap.size := by
  rcases Nat.lt_or_ge r w.heap.size with h1 | h1
  · exact h1
  · unfold Bx at h; rw [Array.getElem?_eq_none h1] at h; cases h
theorem Bx.below (h : Bx w r s V) (hb : Below w.heap.size w w') : Bx w' r s V := (hb.block r h.lt).trans h
theorem Bx.c (h : Bx w r s V) (i : Nat) : w.cell? ⟨r, i, none⟩ = (cells s V)[i]? := cell_of_row w r i _ _ _ h
theorem Bx.fz (h : Bx w r s V) (i : Nat) : w.frozen? ⟨r, i, none⟩ = false := frozen_of_row w r i _ _ h
end
section
variable {w : World} {r : Nat} {nu ty un : UInt8} {nm : ByteArray} {ei en : UInt8} {d : Bool} {f m b k1 k2 : Int} {sg : Bool} {p : List Pt} {mx r0 r1 r2 r3 r4 r5 hl hu : UInt8} {st av dv : Nat} {on : Bool} {sm : Int} {V : Value}
theorem Bx.all (h : Bx w r ⟨nu, ty, un, nm, ei, en, d, ⟨f, sg, m, b, k1, k2, p⟩, mx, r0, r1, r2, r3, r4, r5, hl, hu, st, av, dv, on, sm⟩ V) : w.cell? ⟨r, 0, none⟩ = some (.int .u8 (nu.toNat : Int)) ∧ w.cell? ⟨r, 1, none⟩ = some (.int .u8 (ty.toNat : Int)) ∧ w.cell? ⟨r, 2, none⟩ = some (.int .u8 (un.toNat : Int)) ∧ w.cell? ⟨r, 3, none⟩ = some (.string nm) ∧ w.cell? ⟨r, 4, none⟩ = some (.int .u8 (ei.toNat : Int)) ∧ w.cell? ⟨r, 5, none⟩ = some (.int .u8 (en.toNat : Int)) ∧ w.cell? ⟨r, 6, none⟩ = some (.bool d) ∧ w.cell? ⟨r, 7, none⟩ = some (.int .i64 f) ∧ w.cell? ⟨r, 8, none⟩ = some (.bool sg) ∧ w.cell? ⟨r, 9, none⟩ = some (.int .i64 m) ∧ w.cell? ⟨r, 10, none⟩ = some (.int .i64 b) ∧ w.cell? ⟨r, 11, none⟩ = some (.int .i64 k1) ∧ w.cell? ⟨r, 12, none⟩ = some (.int .i64 k2) ∧ w.cell? ⟨r, 13, none⟩ = some (V) ∧ w.cell? ⟨r, 14, none⟩ = some (.int .u8 (mx.toNat : Int)) ∧ w.cell? ⟨r, 15, none⟩ = some (.int .u8 (r0.toNat : Int)) ∧ w.cell? ⟨r, 16, none⟩ = some (.int .u8 (r1.toNat : Int)) ∧ w.cell? ⟨r, 17, none⟩ = some (.int .u8 (r2.toNat : Int)) ∧ w.cell? ⟨r, 18, none⟩ = some (.int .u8 (r3.toNat : Int)) ∧ w.cell? ⟨r, 19, none⟩ = some (.int .u8 (r4.toNat : Int)) ∧ w.cell? ⟨r, 20, none⟩ = some (.int .u8 (r5.toNat : Int)) ∧ w.cell? ⟨r, 21, none⟩ = some (.int .u8 (hl.toNat : Int)) ∧ w.cell? ⟨r, 22, none⟩ = some (.int .u8 (hu.toNat : Int)) ∧ w.cell? ⟨r, 23, none⟩ = some (.int .u16 (st : Int)) ∧ w.cell? ⟨r, 24, none⟩ = some (.int .u16 (av : Int)) ∧ w.cell? ⟨r, 25, none⟩ = some (.int .u16 (dv : Int)) ∧ w.cell? ⟨r, 26, none⟩ = some (.bool on) ∧ w.cell? ⟨r, 27, none⟩ = some (.int .i64 sm) :=
  ⟨h.c 0, h.c 1, h.c 2, h.c 3, h.c 4, h.c 5, h.c 6, h.c 7, h.c 8, h.c 9, h.c 10, h.c 11, h.c 12, h.c 13, h.c 14, h.c 15, h.c 16, h.c 17, h.c 18, h.c 19, h.c 20, h.c 21, h.c 22, h.c 23, h.c 24, h.c 25, h.c 26, h.c 27⟩
theorem Bx.new {w : World} : Bx (w.alloc (.cells #[.int .u8 (nu.toNat : Int), .int .u8 (ty.toNat : Int), .int .u8 (un.toNat : Int), .string nm, .int .u8 (ei.toNat : Int), .int .u8 (en.toNat : Int), .bool d, .int .i64 f, .bool sg, .int .i64 m, .int .i64 b, .int .i64 k1, .int .i64 k2, V, .int .u8 (mx.toNat : Int), .int .u8 (r0.toNat : Int), .int .u8 (r1.toNat : Int), .int .u8 (r2.toNat : Int), .int .u8 (r3.toNat : Int), .int .u8 (r4.toNat : Int), .int .u8 (r5.toNat : Int), .int .u8 (hl.toNat : Int), .int .u8 (hu.toNat : Int), .int .u16 (st : Int), .int .u16 (av : Int), .int .u16 (dv : Int), .bool on, .int .i64 sm] 32)) w.heap.size ⟨nu, ty, un, nm, ei, en, d, ⟨f, sg, m, b, k1, k2, p⟩, mx, r0, r1, r2, r3, r4, r5, hl, hu, st, av, dv, on, sm⟩ V := heap_alloc_new w _
end
theorem ana_p (s : Sn) (A : Option Addr) (n cp : Nat) (w : World) (hsl : PSl w A n cp s.c.p) : Calls Try.prog 96 #[.agg (cells s (.slice A n cp))] w fun e w' => e = .returned (.bool (ana s)) ∧ Below w.heap.size w w' := by
  obtain ⟨nu, ty, un, nm, ei, en, d, ⟨f, sg, m, b, k1, k2, p⟩, mx, r0, r1, r2, r3, r4, r5, hl, hu, st, av, dv, on, sm⟩ := s
  dsimp only at hsl
  obtain ⟨R, hR⟩ : ∃ R, R = ana ⟨nu, ty, un, nm, ei, en, d, ⟨f, sg, m, b, k1, k2, p⟩, mx, r0, r1, r2, r3, r4, r5, hl, hu, st, av, dv, on, sm⟩ := ⟨_, rfl⟩
  rw [← hR]
  unfold ana at hR
  dsimp only [Sn.raw] at hR
  unfold cells
  dsimp only
  have hb0 : Below w.heap.size w (w.alloc (.cells #[.int .u8 (nu.toNat : Int), .int .u8 (ty.toNat : Int), .int .u8 (un.toNat : Int), .string nm, .int .u8 (ei.toNat : Int), .int .u8 (en.toNat : Int), .bool d, .int .i64 f, .bool sg, .int .i64 m, .int .i64 b, .int .i64 k1, .int .i64 k2, .slice A n cp, .int .u8 (mx.toNat : Int), .int .u8 (r0.toNat : Int), .int .u8 (r1.toNat : Int), .int .u8 (r2.toNat : Int), .int .u8 (r3.toNat : Int), .int .u8 (r4.toNat : Int), .int .u8 (r5.toNat : Int), .int .u8 (hl.toNat : Int), .int .u8 (hu.toNat : Int), .int .u16 (st : Int), .int .u16 (av : Int), .int .u16 (dv : Int), .bool on, .int .i64 sm] 32)) := (Below.refl _ _).alloc (Nat.le_refl _) _
  have hx0 : Bx (w.alloc (.cells #[.int .u8 (nu.toNat : Int), .int .u8 (ty.toNat : Int), .int .u8 (un.toNat : Int), .string nm, .int .u8 (ei.toNat : Int), .int .u8 (en.toNat : Int), .bool d, .int .i64 f, .bool sg, .int .i64 m, .int .i64 b, .int .i64 k1, .int .i64 k2, .slice A n cp, .int .u8 (mx.toNat : Int), .int .u8 (r0.toNat : Int), .int .u8 (r1.toNat : Int), .int .u8 (r2.toNat : Int), .int .u8 (r3.toNat : Int), .int .u8 (r4.toNat : Int), .int .u8 (r5.toNat : Int), .int .u8 (hl.toNat : Int), .int .u8 (hu.toNat : Int), .int .u16 (st : Int), .int .u16 (av : Int), .int .u16 (dv : Int), .bool on, .int .i64 sm] 32)) w.heap.size ⟨nu, ty, un, nm, ei, en, d, ⟨f, sg, m, b, k1, k2, p⟩, mx, r0, r1, r2, r3, r4, r5, hl, hu, st, av, dv, on, sm⟩ (.slice A n cp) := Bx.new
  have hs1 := hsl.step hb0
  obtain ⟨b1, hb1⟩ : ∃ b1, b1 = C4p.vld ⟨f, sg, m, b, k1, k2, p⟩ := ⟨_, rfl⟩
  obtain ⟨b2, hb2⟩ : ∃ b2, b2 = lims sg mx.toNat [r0, r1, r2, r3, r4, r5] := ⟨_, rfl⟩
  obtain ⟨b4, hb4⟩ : ∃ b4, b4 = inm av mx.toNat := ⟨_, rfl⟩
  obtain ⟨b5, hb5⟩ : ∃ b5, b5 = inm dv mx.toNat := ⟨_, rfl⟩
  have H1 := Lib.hid (by have := P4.valid_p f m b k1 k2 sg A n cp p _ hs1; rw [← hb1] at this; exact this)
  have H2 := Lib.hid fun (u : World) => by have := limits_p sg mx r0 r1 r2 r3 r4 r5 u; rw [← hb2] at this; exact this
  have H4 := Lib.hid fun (u : World) => by have := within_p av mx.toNat u; rw [← hb4] at this; exact this
  have H5 := Lib.hid fun (u : World) => by have := within_p dv mx.toNat u; rw [← hb5] at this; exact this
  rw [← hb1, ← hb2, ← hb4, ← hb5] at hR
  have HR := Lib.hid hR
  clear hb1 hb2 hb4 hb5 hR hsl hs1
  have hml := mx.toNat_lt
  go_enter Try.func96, Try.ntmps96
  go_wp2_with fail
  refine H1.out.mono ?_
  rintro e w2 ⟨rfl, hb2⟩
  have hx2 := hx0.below hb2
  have hbb := hb0.trans (hb2.mono hb0.size)
  clear hx0 hb0 hb2 H1
  cases b1
  · have hf : R = false := HR.out
    subst hf
    go_wp2_with fail
    go_ret
    exact ⟨rfl, hbb⟩
  obtain ⟨z0, z1, z2, z3, z4, z5, z6, z7, z8, z9, z10, z11, z12, z13, z14, z15, z16, z17, z18, z19, z20, z21, z22, z23, z24, z25, z26, z27⟩ := hx2.all
  go_wp2_with fail
  refine (H2.out _).mono ?_
  rintro e w3 ⟨rfl, hb3⟩
  have hx3 := hx2.below hb3
  have hbb2 := hbb.trans (hb3.mono (Nat.le_trans (Nat.le_of_lt hx2.lt) (Nat.le_refl _)))
  clear hx2 hbb hb3 z0 z1 z2 z3 z4 z5 z6 z7 z8 z9 z10 z11 z12 z13 z14 z15 z16 z17 z18 z19 z20 z21 z22 z23 z24 z25 z26 z27
  cases b2
  · have hf : R = false := HR.out
    subst hf
    go_wp2_with fail
    go_ret
    exact ⟨rfl, hbb2⟩
  obtain ⟨z0, z1, z2, z3, z4, z5, z6, z7, z8, z9, z10, z11, z12, z13, z14, z15, z16, z17, z18, z19, z20, z21, z22, z23, z24, z25, z26, z27⟩ := hx3.all
  by_cases h0 : st = 0
  case neg =>
    have hf : R = false := by rw [HR.out, decide_eq_false h0]; rfl
    subst hf
    have hk : ((st : Int) == 0) = false := by rw [beq_eq_false_iff_ne]; omega
    go_wp2_with fail
    go_ret
    exact ⟨rfl, hbb2⟩
  subst h0
  go_wp2_with fail
  refine (H4.out _).mono ?_
  rintro e w4 ⟨rfl, rfl⟩
  cases b4
  · have hf : R = false := HR.out
    subst hf
    go_wp2_with fail
    go_ret
    exact ⟨rfl, hbb2⟩
  go_wp2_with fail
  refine (H5.out _).mono ?_
  rintro e w4 ⟨rfl, rfl⟩
  have hf : R = b5 := HR.out
  subst hf
  go_wp2_with fail
  all_goals
    go_ret
    exact ⟨rfl, hbb2⟩
end Go.Proofs.Ytekhpcfggbegaaa.Tb
