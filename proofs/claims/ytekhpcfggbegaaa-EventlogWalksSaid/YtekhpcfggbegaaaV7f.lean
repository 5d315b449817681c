/- Events compared. -/
import Derived.Test.YtekhpcfggbegaaaV7a
import Derived.Laws.StructEq
import Derived.Stop.BytesEq
namespace Go.Proofs.Ytekhpcfggbegaaa.V7
open Go.RowKit Go.Proofs.Ytekhpcfggbegaaa.Mem
set_option maxRecDepth 100000

theorem cell_nat {a : Nat} (h : a < 256) : Go.Extern.Stop.cell (UInt8.ofNat a) = .int .u8 (a : Int) := by
  unfold Go.Extern.Stop.cell
  rw [UInt8.toNat_ofNat', Nat.mod_eq_of_lt h]
  rfl
theorem ofNat_eq {a b : Nat} (ha : a < 256) (hb : b < 256) : (UInt8.ofNat a = UInt8.ofNat b) ↔ a = b := by
  constructor
  · intro h
    have := congrArg UInt8.toNat h
    rw [UInt8.toNat_ofNat', UInt8.toNat_ofNat', Nat.mod_eq_of_lt ha, Nat.mod_eq_of_lt hb] at this
    exact this
  · rintro rfl; rfl
theorem run_eq3 (W : World) {a b c x y z : Nat} (ha : a < 256) (hb : b < 256) (hc : c < 256) (hx : x < 256) (hy : y < 256) (hz : z < 256) :
    (Op.equalIn 9999 87 (.agg #[.int .u8 (a : Int), .int .u8 (b : Int), .int .u8 (c : Int)]) (.agg #[.int .u8 (x : Int), .int .u8 (y : Int), .int .u8 (z : Int)])).run Try.prog W = .ok (decide (a = x ∧ b = y ∧ c = z)) W := by
  have h := run_equalIn_bytes (P := Try.prog) W 9997 87 5 3 Try.underlying87 Try.underlying5 (fun w => Try.sizeOf5 w) [UInt8.ofNat a, UInt8.ofNat b, UInt8.ofNat c] [UInt8.ofNat x, UInt8.ofNat y, UInt8.ofNat z] rfl rfl
  simp only [List.map, cell_nat ha, cell_nat hb, cell_nat hc, cell_nat hx, cell_nat hy, cell_nat hz] at h
  rw [show (9999 : Nat) = 9997 + 2 from rfl, h]
  congr 1
  rw [Bool.eq_iff_iff]
  simp [ofNat_eq ha hx, ofNat_eq hb hy, ofNat_eq hc hz]
theorem run_eqIn (W : World) (e f : Ev) (he : e.Fit) (hf : f.Fit) : (Op.equalIn 10000 89 e.v f.v).run Try.prog W = .ok (decide (e = f)) W := by
  have h3 := fun W => run_eq3 W he.d0 he.d1 he.d2 hf.d0 hf.d1 hf.d2
  obtain ⟨id, time, gen, st, sn, ty, de, d0, d1, d2⟩ := e
  obtain ⟨id', time', gen', st', sn', ty', de', d0', d1', d2'⟩ := f
  dsimp only at h3
  simp only [Ev.v, Ev.cells]
  go_simp
  simp only [Int.natCast_inj]
  by_cases c1 : id = id' <;> by_cases c2 : time = time' <;> by_cases c3 : gen = gen' <;> by_cases c4 : st = st' <;> by_cases c5 : sn = sn' <;> by_cases c6 : ty = ty' <;> by_cases c7 : de = de' <;> simp [c1, c2, c3, c4, c5, c6, c7]
  all_goals (by_cases c8 : d0 = d0' <;> by_cases c9 : d1 = d1' <;> by_cases c10 : d2 = d2' <;> simp [c8, c9, c10])
theorem run_eql (W : World) (e f : Ev) (he : e.Fit) (hf : f.Fit) : (binOp .eql 89 e.v f.v).run Try.prog W = .ok (.bool (decide (e = f))) W := by
  rw [Ev.v, Ev.v, run_eql_struct, ← Ev.v, ← Ev.v, run_eqIn W e f he hf]
  rfl
theorem run_neq (W : World) (e f : Ev) (he : e.Fit) (hf : f.Fit) : (binOp .neq 89 e.v f.v).run Try.prog W = .ok (.bool (!decide (e = f))) W := by
  rw [Ev.v, Ev.v, run_neq_struct, ← Ev.v, ← Ev.v, run_eqIn W e f he hf]
  rfl
/-- A whole event is loaded, behind a guard that says yes. -/
theorem wpList_load_box_w {ops : Array Oper} {rest : List Oper} {o : Oper} {a : Act} {w : World} {Q : Exit → Act → World → Prop} (hw : Region.wanted o (yielded ops a.tmps) = true) (x : Operand) (ho : o.op = .load 89 x)
    (r : Nat) (e : Ev) (hx : a.eval x = .pointer (some ⟨r, 0, none⟩)) (hb : Box w r e)
    (h : wpList Try.prog ops Q rest (a.put o.dst e.v) w) : wpList Try.prog ops Q (o :: rest) a w := by
  refine wpList_step fun K hK => ?_
  rw [if_pos hw]
  exact wp_load_row (P := Try.prog) _ x ho r hx _ _ _ _ hb Try.underlying89 rfl (by kernel_rfl) (hK _ _ h)
/-- Two events are compared. -/
theorem wpList_eql_w {ops : Array Oper} {rest : List Oper} {o : Oper} {a : Act} {w : World} {Q : Exit → Act → World → Prop} (hw : Region.wanted o (yielded ops a.tmps) = true) (x y : Operand) (ho : o.op = .binOp .eql 89 x y 89)
    (e f : Ev) (he : e.Fit) (hf : f.Fit) (hx : a.eval x = e.v) (hy : a.eval y = f.v)
    (h : wpList Try.prog ops Q rest (a.put o.dst (.bool (decide (e = f)))) w) : wpList Try.prog ops Q (o :: rest) a w := by
  refine wpList_step fun K hK => ?_
  rw [if_pos hw]
  unfold Oper.wp execOp
  have hg : ∀ W, (eqGuard .eql 89 x y e.v f.v).run Try.prog W = .ok () W := fun W => by
    unfold Ev.v
    exact run_eqGuard_agg W .eql 89 x y _ _ Try.eqGuardType89
  have hq := fun W => run_eql W e f he hf
  simp only [ho, hx, hy, Sem.run_bind, Sem.run_pure, Result.andThen_ok, hg, hq]
  exact hK _ _ h
theorem wpList_neq_w {ops : Array Oper} {rest : List Oper} {o : Oper} {a : Act} {w : World} {Q : Exit → Act → World → Prop} (hw : Region.wanted o (yielded ops a.tmps) = true) (x y : Operand) (ho : o.op = .binOp .neq 89 x y 89)
    (e f : Ev) (he : e.Fit) (hf : f.Fit) (hx : a.eval x = e.v) (hy : a.eval y = f.v)
    (h : wpList Try.prog ops Q rest (a.put o.dst (.bool (!decide (e = f)))) w) : wpList Try.prog ops Q (o :: rest) a w := by
  refine wpList_step fun K hK => ?_
  rw [if_pos hw]
  unfold Oper.wp execOp
  have hg : ∀ W, (eqGuard .neq 89 x y e.v f.v).run Try.prog W = .ok () W := fun W => by
    unfold Ev.v
    exact run_eqGuard_agg W .neq 89 x y _ _ Try.eqGuardType89
  have hq := fun W => run_neq W e f he hf
  simp only [ho, hx, hy, Sem.run_bind, Sem.run_pure, Result.andThen_ok, hg, hq]
  exact hK _ _ h
/-- Two events are compared, as one step of a region that draws. -/
theorem step_eql {ops : Array Oper} {o : Oper} {a : Act} {w : World} {K : Act → World → Prop} {Q : Exit → Act → World → Prop} {E : Prop} (hw : Region.wanted o (yielded ops a.tmps) = true) (x y : Operand) (ho : o.op = .binOp .eql 89 x y 89)
    (e f : Ev) (he : e.Fit) (hf : f.Fit) (hx : a.eval x = e.v) (hy : a.eval y = f.v) (r : Bool) (hr : decide (e = f) = r) (h : K (a.put o.dst (.bool r)) w) :
    if Region.wanted o (yielded ops a.tmps) = true then Oper.wp Try.prog o a w K Q else E := by
  rw [if_pos hw]
  unfold Oper.wp execOp
  have hg : ∀ W, (eqGuard .eql 89 x y e.v f.v).run Try.prog W = .ok () W := fun W => by
    unfold Ev.v
    exact run_eqGuard_agg W .eql 89 x y _ _ Try.eqGuardType89
  have hq := fun W => run_eql W e f he hf
  rw [hr] at hq
  simp only [ho, hx, hy, Sem.run_bind, Sem.run_pure, Result.andThen_ok, hg, hq]
  exact h
theorem none_fit : Ev.none.Fit := ⟨by decide, by decide, by decide, by decide, by decide, by decide, by decide, by decide, by decide⟩
end Go.Proofs.Ytekhpcfggbegaaa.V7
