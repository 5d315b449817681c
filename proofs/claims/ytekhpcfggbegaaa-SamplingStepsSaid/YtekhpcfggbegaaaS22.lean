/- Walks: the program's sensor records: Valid. Walks: the sanity check of layer 10. -/
import Derived.Test.YtekhpcfggbegaaaS21
namespace Go.Proofs.Ytekhpcfggbegaaa.Tb
open Go.RowKit Go.Proofs.Ytekhpcfggbegaaa.Mem Go.Proofs.Ytekhpcfggbegaaa.F2p Go.Proofs.Ytekhpcfggbegaaa.C4l Go.Proofs.Ytekhpcfggbegaaa.Ta
set_option maxRecDepth 100000
set_option maxHeartbeats 1000000

/-- A whole record is loaded. -/
theorem wpList_load_bx {ops : Array Oper} {rest : List Oper} {o : Oper} {a : Act} {w : World} {Q : Exit → Act → World → Prop} (hgd : o.guard = none) (x : Operand) (ho : o.op = .load 32 x)
    (r : Nat) (s : Sn) (V : Value) (hx : a.eval x = .pointer (some ⟨r, 0, none⟩)) (hb : Bx w r s V)
    (h : wpList Try.prog ops Q rest (a.put o.dst (.agg (cells s V))) w) : wpList Try.prog ops Q (o :: rest) a w :=
  wpList_load_row hgd _ x ho r hx _ _ _ _ hb Try.underlying32 rfl (by kernel_rfl) h
theorem valid_p (s : Sn) (A : Option Addr) (n cp : Nat) (w : World) (hsl : PSl w A n cp s.c.p) (hnm : s.nm.size ≤ maxLen) : Calls Try.prog 62 #[.agg (cells s (.slice A n cp))] w fun e w' => e = .returned (.bool (vs s)) ∧ Below w.heap.size w w' := by
  have hA := fun u hu => ana_p s A n cp u hu
  have hD := fun u hu => dsc_p s A n cp u hu
  obtain ⟨nu, ty, un, nm, ei, en, d, ⟨f, sg, m, b, k1, k2, p⟩, mx, r0, r1, r2, r3, r4, r5, hl, hu, st, av, dv, on, sm⟩ := s
  dsimp only at hsl hnm hA hD
  obtain ⟨R, hR⟩ : ∃ R, R = vs ⟨nu, ty, un, nm, ei, en, d, ⟨f, sg, m, b, k1, k2, p⟩, mx, r0, r1, r2, r3, r4, r5, hl, hu, st, av, dv, on, sm⟩ := ⟨_, rfl⟩
  rw [← hR]
  unfold vs at hR
  dsimp only at hR
  have hb0 : Below w.heap.size w (w.alloc (.cells #[.int .u8 (nu.toNat : Int), .int .u8 (ty.toNat : Int), .int .u8 (un.toNat : Int), .string nm, .int .u8 (ei.toNat : Int), .int .u8 (en.toNat : Int), .bool d, .int .i64 f, .bool sg, .int .i64 m, .int .i64 b, .int .i64 k1, .int .i64 k2, .slice A n cp, .int .u8 (mx.toNat : Int), .int .u8 (r0.toNat : Int), .int .u8 (r1.toNat : Int), .int .u8 (r2.toNat : Int), .int .u8 (r3.toNat : Int), .int .u8 (r4.toNat : Int), .int .u8 (r5.toNat : Int), .int .u8 (hl.toNat : Int), .int .u8 (hu.toNat : Int), .int .u16 (st : Int), .int .u16 (av : Int), .int .u16 (dv : Int), .bool on, .int .i64 sm] 32)) := (Below.refl _ _).alloc (Nat.le_refl _) _
  have hx0 : Bx (w.alloc (.cells #[.int .u8 (nu.toNat : Int), .int .u8 (ty.toNat : Int), .int .u8 (un.toNat : Int), .string nm, .int .u8 (ei.toNat : Int), .int .u8 (en.toNat : Int), .bool d, .int .i64 f, .bool sg, .int .i64 m, .int .i64 b, .int .i64 k1, .int .i64 k2, .slice A n cp, .int .u8 (mx.toNat : Int), .int .u8 (r0.toNat : Int), .int .u8 (r1.toNat : Int), .int .u8 (r2.toNat : Int), .int .u8 (r3.toNat : Int), .int .u8 (r4.toNat : Int), .int .u8 (r5.toNat : Int), .int .u8 (hl.toNat : Int), .int .u8 (hu.toNat : Int), .int .u16 (st : Int), .int .u16 (av : Int), .int .u16 (dv : Int), .bool on, .int .i64 sm] 32)) w.heap.size ⟨nu, ty, un, nm, ei, en, d, ⟨f, sg, m, b, k1, k2, p⟩, mx, r0, r1, r2, r3, r4, r5, hl, hu, st, av, dv, on, sm⟩ (.slice A n cp) := Bx.new
  have hs1 := hsl.step hb0
  have HA := Lib.hid (hA _ hs1)
  rw [show cells ⟨nu, ty, un, nm, ei, en, d, ⟨f, sg, m, b, k1, k2, p⟩, mx, r0, r1, r2, r3, r4, r5, hl, hu, st, av, dv, on, sm⟩ (.slice A n cp) = #[.int .u8 (nu.toNat : Int), .int .u8 (ty.toNat : Int), .int .u8 (un.toNat : Int), .string nm, .int .u8 (ei.toNat : Int), .int .u8 (en.toNat : Int), .bool d, .int .i64 f, .bool sg, .int .i64 m, .int .i64 b, .int .i64 k1, .int .i64 k2, .slice A n cp, .int .u8 (mx.toNat : Int), .int .u8 (r0.toNat : Int), .int .u8 (r1.toNat : Int), .int .u8 (r2.toNat : Int), .int .u8 (r3.toNat : Int), .int .u8 (r4.toNat : Int), .int .u8 (r5.toNat : Int), .int .u8 (hl.toNat : Int), .int .u8 (hu.toNat : Int), .int .u16 (st : Int), .int .u16 (av : Int), .int .u16 (dv : Int), .bool on, .int .i64 sm] from rfl]
  have HD := Lib.hid (hD _ hs1)
  have H1 := Lib.hid fun (u : World) => name_p nm hnm u
  have H2 := Lib.hid fun (u : World) => width_p sm u
  generalize ana ⟨nu, ty, un, nm, ei, en, d, ⟨f, sg, m, b, k1, k2, p⟩, mx, r0, r1, r2, r3, r4, r5, hl, hu, st, av, dv, on, sm⟩ = q1 at *
  generalize dsc ⟨nu, ty, un, nm, ei, en, d, ⟨f, sg, m, b, k1, k2, p⟩, mx, r0, r1, r2, r3, r4, r5, hl, hu, st, av, dv, on, sm⟩ = q2 at *
  generalize okn (bl nm) = b1 at *
  generalize wid sm = b2 at *
  have HR := Lib.hid hR
  clear hA hD hR hs1 hsl hnm
  go_enter Try.func62, Try.ntmps62
  go_wp2_with fail
  refine (H1.out _).mono ?_
  rintro e w2 ⟨rfl, rfl⟩
  cases b1
  · have hf : R = false := HR.out
    subst hf
    go_wp2_with fail
    go_ret
    exact ⟨rfl, hb0⟩
  go_wp2_with fail
  refine (H2.out _).mono ?_
  rintro e w2 ⟨rfl, rfl⟩
  cases b2
  · have hf : R = false := HR.out
    subst hf
    go_wp2_with fail
    go_ret
    exact ⟨rfl, hb0⟩
  cases d
  · as_aux_lemma =>
    have hf : R = q1 := HR.out
    subst hf
    go_wp2_with (refine wpList_load_bx rfl (.tmp 1) rfl _ _ _ rfl hx0 ?_)
    refine HA.out.mono ?_
    rintro e w2 ⟨rfl, hb2⟩
    go_wp2_with fail
    go_ret
    exact ⟨rfl, hb0.trans (hb2.mono hb0.size)⟩
  · as_aux_lemma =>
    have hf : R = q2 := HR.out
    subst hf
    go_wp2_with (refine wpList_load_bx rfl (.tmp 1) rfl _ _ _ rfl hx0 ?_)
    refine HD.out.mono ?_
    rintro e w2 ⟨rfl, hb2⟩
    go_wp2_with fail
    go_ret
    exact ⟨rfl, hb0.trans (hb2.mono hb0.size)⟩
end Go.Proofs.Ytekhpcfggbegaaa.Tb
namespace Go.Proofs.Ytekhpcfggbegaaa.Tb
open Go.RowKit Go.Proofs.Ytekhpcfggbegaaa.Mem Go.Proofs.Ytekhpcfggbegaaa.F2p Go.Proofs.Ytekhpcfggbegaaa.C4l Go.Proofs.Ytekhpcfggbegaaa.Ta
set_option maxRecDepth 100000
set_option maxHeartbeats 1000000

theorem one_cells (s : Sn) (V : Value) (hV : V.oneCell' = true) : (cells s V).all (·.oneCell') = true := by
  unfold cells
  rw [← Array.all_toList]
  simp only [List.all_cons, List.all_nil, hV]
  rfl
/-- A whole record is stored at its block. -/
theorem wpList_store_bx {ops : Array Oper} {rest : List Oper} {o : Oper} {a : Act} {w : World} {Q : Exit → Act → World → Prop} (hgd : o.guard = none) (x y : Operand) (ho : o.op = .store 32 x y)
    (r : Nat) (s s0 : Sn) (V V0 : Value) (hx : a.eval x = .pointer (some ⟨r, 0, none⟩)) (hy : a.eval y = .agg (cells s V)) (hV : V.oneCell' = true) (hb : Bx w r s0 V0)
    (h : ∀ w', Bx w' r s V → w.grownBy w' (some r) → wpList Try.prog ops Q rest (a.put o.dst undef) w') : wpList Try.prog ops Q (o :: rest) a w :=
  wpList_store_row hgd _ x y ho r (cells s V) hx hy _ _ hb (by kernel_rfl) rfl (one_cells s V hV)
    (h _ (setRow_heap w r _ _ _ _ hb) ⟨rfl, rfl, rfl, by simp, fun k _ hk => setRow_other w r k _ (fun he => hk (by rw [he]))⟩)
/-- A whole record is loaded, behind a guard that says yes. -/
theorem wpList_load_bx_w {ops : Array Oper} {rest : List Oper} {o : Oper} {a : Act} {w : World} {Q : Exit → Act → World → Prop} (hw : Region.wanted o (yielded ops a.tmps) = true) (x : Operand) (ho : o.op = .load 32 x)
    (r : Nat) (s : Sn) (V : Value) (hx : a.eval x = .pointer (some ⟨r, 0, none⟩)) (hb : Bx w r s V)
    (h : wpList Try.prog ops Q rest (a.put o.dst (.agg (cells s V))) w) : wpList Try.prog ops Q (o :: rest) a w := by
  refine wpList_step fun K hK => ?_
  rw [if_pos hw]
  exact wp_load_row (P := Try.prog) _ x ho r hx _ _ _ _ hb Try.underlying32 rfl (by kernel_rfl) (hK _ _ h)
theorem Bx.alloc {w : World} {r : Nat} {s : Sn} {V : Value} (h : Bx w r s V) (o : Obj) : Bx (w.alloc o) r s V := (heap_alloc_old w o h.lt).trans h
/-- The zero value at a new block. -/
theorem Bx.zero (w : World) : Bx (w.alloc (.cells #[.int .u8 0, .int .u8 0, .int .u8 0, .string ⟨#[]⟩, .int .u8 0, .int .u8 0, .bool false, .int .i64 0, .bool false, .int .i64 0, .int .i64 0, .int .i64 0, .int .i64 0, .slice none 0 0, .int .u8 0, .int .u8 0, .int .u8 0, .int .u8 0, .int .u8 0, .int .u8 0, .int .u8 0, .int .u8 0, .int .u8 0, .int .u16 0, .int .u16 0, .int .u16 0, .bool false, .int .i64 0] 32)) w.heap.size noSn (.slice none 0 0) := heap_alloc_new w _
end Go.Proofs.Ytekhpcfggbegaaa.Tb
