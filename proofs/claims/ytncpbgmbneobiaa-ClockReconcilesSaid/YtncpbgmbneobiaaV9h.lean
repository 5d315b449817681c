/- Walks: the examples of the chapter on clocks, which each statement asks beside its own. -/
import Derived.Test.YtncpbgmbneobiaaV9c
import Derived.Test.YtncpbgmbneobiaaMade
namespace Go.Proofs.Ytncpbgmbneobiaa.V9
open Go.RowKit Go.Proofs.Ytncpbgmbneobiaa.Mem Go.Proofs.Ytncpbgmbneobiaa.F2p Go.Proofs.Ytncpbgmbneobiaa.V7 Go.Proofs.Ytncpbgmbneobiaa.Made
set_option maxRecDepth 100000
set_option maxHeartbeats 4000000

theorem none_ckfit : Ck.none.Fit := ⟨by decide, by decide⟩
theorem awake_any (w : World) : Calls Try.prog 11 #[] w fun e w' => e = .returned (.bool true) ∧ Below w.heap.size w w' := by
  have ha := Lib.hid (fun u => (show Calls Try.prog 38 #[.agg #[.int .i64 0, .int .i64 0, .bool false], .int .i64 25] u fun x w' => x = .returned (.tuple #[.agg #[.int .i64 25, .int .i64 0, .bool false], .int .i64 0]) ∧ Below u.heap.size u w' from by
    have := advance_p Ck.none none_ckfit 25 u
    rw [show adv Ck.none 25 = (⟨25, 0, false⟩, 0) by decide] at this
    exact this))
  have hst := Lib.hid (fun u => (show Calls Try.prog 39 #[.agg #[.int .i64 25, .int .i64 0, .bool false]] u fun x w' => x = .returned (.tuple #[.int .u32 2, .int .i64 0]) ∧ Below u.heap.size u w' from by
    have := stamp_p ⟨25, 0, false⟩ ⟨by decide, by decide⟩ u
    rw [show stp ⟨25, 0, false⟩ = .tuple #[.int .u32 2, .int .i64 0] by unfold stp; rw [if_pos (by decide)]; rfl] at this
    exact this))
  have had := Lib.hid (fun u => (show Calls Try.prog 40 #[.agg #[.int .i64 25, .int .i64 0, .bool false], .int .u32 1000] u fun x w' => ∃ v, x = .returned (.tuple #[.agg #[.int .i64 25, .int .i64 998, .bool true], v, .int .i64 0]) ∧ EOwn u.heap.size w' v [chg 0 2, chg 128 1000] ∧ Below u.heap.size u w' from by
    have := adjust_p ⟨25, 0, false⟩ ⟨by decide, by decide⟩ 1000 (by omega) u
    rw [show adj ⟨25, 0, false⟩ 1000 = (⟨25, 998, true⟩, [chg 0 2, chg 128 1000], 0) by decide] at this
    exact this))
  go_enter Try.func11, Try.ntmps11
  go_wp2_with fail
  refine (ha.out _).mono ?_
  rintro e w1 ⟨rfl, hb1⟩
  go_wp2_with fail
  have hC1 := CBox.new w1 ⟨25, 0, false⟩
  have hs1 := hb1.alloc hb1.size (.cells (Ck.mk 25 0 false).cells 37)
  simp only [Ck.cells] at hC1 hs1
  have hz1 : w.heap.size ≤ w1.heap.size := hb1.size
  clear hb1
  refine (hst.out _).mono ?_
  rintro e w2 ⟨rfl, hb2⟩
  have hC2 := hC1.below hb2 hC1.lt
  have hs2 := hs1.trans (hb2.mono hs1.size)
  clear hb2 hC1 hs1
  have c0 : w2.cell? ⟨w1.heap.size, 0, none⟩ = some (.int .i64 25) := hC2.c0
  have c1 : w2.cell? ⟨w1.heap.size, 1, none⟩ = some (.int .i64 0) := hC2.c1
  have c2 : w2.cell? ⟨w1.heap.size, 2, none⟩ = some (.bool false) := hC2.c2
  clear hC2
  go_wp2_with fail
  refine (had.out _).mono ?_
  rintro e w3 ⟨v3, rfl, hown, hb3⟩
  have hs3 := hs2.trans (hb3.mono hs2.size)
  clear hb3 hs2 c0 c1 c2
  obtain ⟨A, n, c, rfl, hsl⟩ := hown.sl
  obtain ⟨a, rfl, hab, hev⟩ := erow_at hsl.row (k := 1) (by decide)
  have hn : n = 2 := hsl.len
  subst hn
  have hcc := hsl.cap
  have hmx := hsl.max
  have hev' : EvAt (w3.alloc (.cells #[.int .i64 25, .int .i64 998, .bool true] 37)) (a.add (1 * 10)) (chg 128 1000) := hev.below ((Below.refl _ _).alloc (Nat.le_refl _) _) (by rw [add_block]; exact hab)
  have t1 : (w3.alloc (.cells #[.int .i64 25, .int .i64 998, .bool true] 37)).cell? ⟨(a.add 10).block, (a.add 10).off + 1, none⟩ = some (.int .u32 1000) := hev'.c1
  have t2 : (w3.alloc (.cells #[.int .i64 25, .int .i64 998, .bool true] 37)).cell? ⟨a.block, a.off + 10 + 1, none⟩ = some (.int .u32 1000) := hev'.c1
  have t3 : (w3.alloc (.cells #[.int .i64 25, .int .i64 998, .bool true] 37)).cell? ⟨a.block, a.off + 11, none⟩ = some (.int .u32 1000) := hev'.c1
  clear hev hev' hown hsl
  go_wp2_with fail
  go_ret
  exact ⟨rfl, hs3.alloc hs3.size _⟩
theorem out_ck1 {p : Tmp} {a : Act} {w : World} {r : Nat} {e : Ck} {Q : Ending → World → Prop} {fn : Func} (hr : fn.results = #[.cell p 37]) (hp : a.tmps.getD p undef = .pointer (some ⟨r, 0, none⟩)) (hd : a.defers = []) (hb : CBox w r e) (h : Q (.returned e.v) w) :
    bodyPost Try.prog fn Q .ret a w :=
  bodyPost_ret (results_cell_row hr _ w r _ _ _ _ hp hb Try.underlying37 rfl (by kernel_rfl)) hd h
/-- What made makes. -/
structure MadeCk (f : Bool) (c : Ck) : Prop where
  t : 0 ≤ c.t ∧ c.t < 17179869184
  b : -5700000000 < c.b ∧ c.b < 4300000000
  s : c.s = f
  u : f = false → c.b = 0
theorem MadeCk.fit {f : Bool} {c : Ck} (h : MadeCk f c) : c.Fit := ⟨by have := h.t; omega, by have := h.b; omega⟩
end Go.Proofs.Ytncpbgmbneobiaa.V9
