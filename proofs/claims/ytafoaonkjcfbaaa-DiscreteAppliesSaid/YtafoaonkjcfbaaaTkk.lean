/- Walks: the sanity check of layer 10. -/
import Derived.Test.YtafoaonkjcfbaaaTg
namespace Go.Proofs.Ytafoaonkjcfbaaa.Tb
open Go.RowKit Go.Proofs.Ytafoaonkjcfbaaa.Mem Go.Proofs.Ytafoaonkjcfbaaa.F2p Go.Proofs.Ytafoaonkjcfbaaa.C4l Go.Proofs.Ytafoaonkjcfbaaa.Ta
set_option maxRecDepth 100000
set_option maxHeartbeats 1000000

theorem one_cells (s : Sn) (V : Value) (hV : V.oneCell' = true) : (cells s V).all (·.oneCell') = true := by
  unfold cells
  rw [← Array.all_toList]
  simp only [List.all_cons, List.all_nil, hV]
  rfl
/-- A whole record is stored at its block. -/
theorem wpList_store_bx {ops : Array Oper} {rest : List Oper} {o : Oper} {a : Act} {w : World} {Q : Exit → Act → World → Prop} (hgd : o.guard = none) (x y : Operand) (ho : o.op = .store 59 x y)
    (r : Nat) (s s0 : Sn) (V V0 : Value) (hx : a.eval x = .pointer (some ⟨r, 0, none⟩)) (hy : a.eval y = .agg (cells s V)) (hV : V.oneCell' = true) (hb : Bx w r s0 V0)
    (h : ∀ w', Bx w' r s V → w.grownBy w' (some r) → wpList Try.prog ops Q rest (a.put o.dst undef) w') : wpList Try.prog ops Q (o :: rest) a w :=
  wpList_store_row hgd _ x y ho r (cells s V) hx hy _ _ hb (by kernel_rfl) rfl (one_cells s V hV)
    (h _ (setRow_heap w r _ _ _ _ hb) ⟨rfl, rfl, rfl, by simp, fun k _ hk => setRow_other w r k _ (fun he => hk (by rw [he]))⟩)
/-- A whole record is loaded, behind a guard that says yes. -/
theorem wpList_load_bx_w {ops : Array Oper} {rest : List Oper} {o : Oper} {a : Act} {w : World} {Q : Exit → Act → World → Prop} (hw : Region.wanted o (yielded ops a.tmps) = true) (x : Operand) (ho : o.op = .load 59 x)
    (r : Nat) (s : Sn) (V : Value) (hx : a.eval x = .pointer (some ⟨r, 0, none⟩)) (hb : Bx w r s V)
    (h : wpList Try.prog ops Q rest (a.put o.dst (.agg (cells s V))) w) : wpList Try.prog ops Q (o :: rest) a w := by
  refine wpList_step fun K hK => ?_
  rw [if_pos hw]
  exact wp_load_row (P := Try.prog) _ x ho r hx _ _ _ _ hb Try.underlying59 rfl (by kernel_rfl) (hK _ _ h)
theorem Bx.alloc {w : World} {r : Nat} {s : Sn} {V : Value} (h : Bx w r s V) (o : Obj) : Bx (w.alloc o) r s V := (heap_alloc_old w o h.lt).trans h
/-- The zero value at a new block. -/
theorem Bx.zero (w : World) : Bx (w.alloc (.cells #[.int .u8 0, .int .u8 0, .int .u8 0, .string ⟨#[]⟩, .int .u8 0, .int .u8 0, .bool false, .int .i64 0, .bool false, .int .i64 0, .int .i64 0, .int .i64 0, .int .i64 0, .slice none 0 0, .int .u8 0, .int .u8 0, .int .u8 0, .int .u8 0, .int .u8 0, .int .u8 0, .int .u8 0, .int .u8 0, .int .u8 0, .int .u16 0, .int .u16 0, .int .u16 0, .bool false, .int .i64 0] 59)) w.heap.size noSn (.slice none 0 0) := heap_alloc_new w _
end Go.Proofs.Ytafoaonkjcfbaaa.Tb
