/- Clocks compared; what both sides answer. -/
import Derived.Test.YtafhbdbmoeihaaaV9h
import Derived.Test.YtafhbdbmoeihaaaV9g
import Derived.Laws.StructEq
namespace Go.Proofs.Ytafhbdbmoeihaaa.V9
open Go.RowKit Go.Proofs.Ytafhbdbmoeihaaa.Mem Go.Proofs.Ytafhbdbmoeihaaa.F2p Go.Proofs.Ytafhbdbmoeihaaa.V7
set_option maxRecDepth 100000
set_option maxHeartbeats 1000000

theorem run_eqIn_ck (W : World) (c : Ck) : (Op.equalIn 10000 23 c.v c.v).run Try.prog W = .ok true W := by
  obtain ⟨t, b, s⟩ := c
  simp only [Ck.v, Ck.cells]
  go_simp
theorem run_neq_ck (W : World) (t b : Int) (s : Bool) : (binOp .neq 23 (.agg #[.int .i64 t, .int .i64 b, .bool s]) (.agg #[.int .i64 t, .int .i64 b, .bool s])).run Try.prog W = .ok (.bool false) W := by
  have h := run_eqIn_ck W ⟨t, b, s⟩
  unfold Ck.v Ck.cells at h
  rw [run_neq_struct, h]
  rfl
theorem guard_ck (x y : Operand) (t b : Int) (s : Bool) (t' b' : Int) (s' : Bool) (W : World) : (eqGuard .neq 23 x y (.agg #[.int .i64 t, .int .i64 b, .bool s]) (.agg #[.int .i64 t', .int .i64 b', .bool s'])).run Try.prog W = .ok () W :=
  run_eqGuard_agg W .neq 23 x y _ _ Try.eqGuardType23
/-- Both sides advance to the same. -/
theorem adv_both (xt xb : Int) (xs : Bool) (hx : (Ck.mk xt xb xs).Fit) (n : Int) : ∃ (t b : Int) (s : Bool) (ea : Int),
    (∀ u, Calls Try.prog 10 #[.agg #[.int .i64 xt, .int .i64 xb, .bool xs], .int .i64 n] u fun y w' => y = .returned (.tuple #[.agg #[.int .i64 t, .int .i64 b, .bool s], .int .i64 ea]) ∧ Below u.heap.size u w') ∧
    (∀ u, Calls Try.prog 11 #[.agg #[.int .i64 xt, .int .i64 xb, .bool xs], .int .i64 n] u fun y w' => y = .returned (.tuple #[.agg #[.int .i64 t, .int .i64 b, .bool s], .int .i64 ea]) ∧ Below u.heap.size u w') := by
  refine ⟨(adv ⟨xt, xb, xs⟩ n).1.t, (adv ⟨xt, xb, xs⟩ n).1.b, (adv ⟨xt, xb, xs⟩ n).1.s, (adv ⟨xt, xb, xs⟩ n).2, fun u => advance_p ⟨xt, xb, xs⟩ hx n u, fun u => advance_r ⟨xt, xb, xs⟩ hx n u⟩
theorem stp_form (c : Ck) : ∃ a b : Int, stp c = .tuple #[.int .u32 a, .int .i64 b] := by
  unfold stp
  split
  · exact ⟨_, _, rfl⟩
  · exact ⟨_, _, rfl⟩
theorem stp_both (xt xb : Int) (xs : Bool) (hx : (Ck.mk xt xb xs).Fit) : ∃ (a ea : Int),
    (∀ u, Calls Try.prog 12 #[.agg #[.int .i64 xt, .int .i64 xb, .bool xs]] u fun y w' => y = .returned (.tuple #[.int .u32 a, .int .i64 ea]) ∧ Below u.heap.size u w') ∧
    (∀ u, Calls Try.prog 13 #[.agg #[.int .i64 xt, .int .i64 xb, .bool xs]] u fun y w' => y = .returned (.tuple #[.int .u32 a, .int .i64 ea]) ∧ Below u.heap.size u w') := by
  obtain ⟨a, b, h⟩ := stp_form ⟨xt, xb, xs⟩
  exact ⟨a, b, fun u => by rw [← h]; exact stamp_p ⟨xt, xb, xs⟩ hx u, fun u => by rw [← h]; exact stamp_r ⟨xt, xb, xs⟩ hx u⟩
theorem vld_both (xt xb : Int) (xs : Bool) (hx : (Ck.mk xt xb xs).Fit) : ∃ (a : Bool),
    (∀ u, Calls Try.prog 14 #[.agg #[.int .i64 xt, .int .i64 xb, .bool xs]] u fun y w' => y = .returned (.bool a) ∧ Below u.heap.size u w') ∧
    (∀ u, Calls Try.prog 15 #[.agg #[.int .i64 xt, .int .i64 xb, .bool xs]] u fun y w' => y = .returned (.bool a) ∧ Below u.heap.size u w') :=
  ⟨_, fun u => valid_ck ⟨xt, xb, xs⟩ hx u, fun u => valid_rck ⟨xt, xb, xs⟩ hx u⟩
theorem adj_fit (c : Ck) (n : Nat) (hn : n < 4294967296) : ∀ e ∈ (adj c n).2.1, e.Fit := by
  intro e he
  unfold adj at he
  split at he
  · split at he
    · cases he
    · rename_i hk _
      have := (Ck.ok_b hk).2.2.2
      simp only [List.mem_cons, List.not_mem_nil, or_false] at he
      rcases he with rfl | rfl
      · exact chg_fit (by omega) (by omega)
      · exact chg_fit (by omega) hn
  · cases he
theorem adj_len (c : Ck) (n : Nat) : (adj c n).2.1.length ≤ 2 := by
  unfold adj
  split
  · split <;> simp
  · simp
/-- Both sides set to the same. -/
theorem adj_both (xt xb : Int) (xs : Bool) (hx : (Ck.mk xt xb xs).Fit) (n : Nat) (hn : n < 4294967296) : ∃ (t b : Int) (s : Bool) (l : List Ev) (ea : Int), (∀ e ∈ l, e.Fit) ∧ l.length ≤ 2 ∧
    (∀ u, Calls Try.prog 17 #[.agg #[.int .i64 xt, .int .i64 xb, .bool xs], .int .u32 (n : Int)] u fun y w' => ∃ v, y = .returned (.tuple #[.agg #[.int .i64 t, .int .i64 b, .bool s], v, .int .i64 ea]) ∧ EOwn u.heap.size w' v l ∧ Below u.heap.size u w') ∧
    (∀ u, Calls Try.prog 18 #[.agg #[.int .i64 xt, .int .i64 xb, .bool xs], .int .u32 (n : Int)] u fun y w' => ∃ v, y = .returned (.tuple #[.agg #[.int .i64 t, .int .i64 b, .bool s], v, .int .i64 ea]) ∧ EOwn u.heap.size w' v l ∧ Below u.heap.size u w') := by
  refine ⟨(adj ⟨xt, xb, xs⟩ n).1.t, (adj ⟨xt, xb, xs⟩ n).1.b, (adj ⟨xt, xb, xs⟩ n).1.s, (adj ⟨xt, xb, xs⟩ n).2.1, (adj ⟨xt, xb, xs⟩ n).2.2, adj_fit _ _ hn, adj_len _ _, fun u => adjust_p ⟨xt, xb, xs⟩ hx n hn u, fun u => adjust_r ⟨xt, xb, xs⟩ hx n hn u⟩
end Go.Proofs.Ytafhbdbmoeihaaa.V9
