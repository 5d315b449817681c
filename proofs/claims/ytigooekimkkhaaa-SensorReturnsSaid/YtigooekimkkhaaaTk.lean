/- Walks: the sanity check of layer 10. -/
import Derived.Test.YtigooekimkkhaaaTj
import Derived.Test.YtigooekimkkhaaaSame
namespace Go.Proofs.Ytigooekimkkhaaa.Tb
open Go.RowKit Go.Proofs.Ytigooekimkkhaaa.Mem Go.Proofs.Ytigooekimkkhaaa.F2p Go.Proofs.Ytigooekimkkhaaa.C4l Go.Proofs.Ytigooekimkkhaaa.Ta
set_option maxRecDepth 100000
set_option maxHeartbeats 1000000

theorem one_cells (s : Sn) (V : Value) (hV : V.oneCell' = true) : (cells s V).all (·.oneCell') = true := by
  unfold cells
  rw [← Array.all_toList]
  simp only [List.all_cons, List.all_nil, hV]
  rfl
/-- A whole record is stored at its block. -/
theorem wpList_store_bx {ops : Array Oper} {rest : List Oper} {o : Oper} {a : Act} {w : World} {Q : Exit → Act → World → Prop} (hgd : o.guard = none) (x y : Operand) (ho : o.op = .store 32 x y)
    (r : Nat) (s s0 : Sn) (V V0 : Value) (hx : a.eval x = .pointer (some ⟨r, 0, none⟩)) (hy : a.eval y = .agg (cells s V)) (hV : V.oneCell' = true) (hb : Bx w r s0 V0)
    (h : ∀ w', Bx w' r s V → w.grownBy w' (some r) → wpList Try.prog ops Q rest (a.put o.dst undef) w') : wpList Try.prog ops Q (o :: rest) a w :=
  wpList_store_row hgd _ x y ho r (cells s V) hx hy _ _ hb (by kernel_rfl) rfl (one_cells s V hV)
    (h _ (setRow_heap w r _ _ _ _ hb) ⟨rfl, rfl, rfl, by simp, fun k _ hk => setRow_other w r k _ (fun he => hk (by rw [he]))⟩)
/-- A whole record is loaded, behind a guard that says yes. -/
theorem wpList_load_bx_w {ops : Array Oper} {rest : List Oper} {o : Oper} {a : Act} {w : World} {Q : Exit → Act → World → Prop} (hw : Region.wanted o (yielded ops a.tmps) = true) (x : Operand) (ho : o.op = .load 32 x)
    (r : Nat) (s : Sn) (V : Value) (hx : a.eval x = .pointer (some ⟨r, 0, none⟩)) (hb : Bx w r s V)
    (h : wpList Try.prog ops Q rest (a.put o.dst (.agg (cells s V))) w) : wpList Try.prog ops Q (o :: rest) a w := by
  refine wpList_step fun K hK => ?_
  rw [if_pos hw]
  exact wp_load_row (P := Try.prog) _ x ho r hx _ _ _ _ hb Try.underlying32 rfl (by kernel_rfl) (hK _ _ h)
/-- The zero value at a new block. -/
theorem Bx.zero (w : World) : Bx (w.alloc (.cells #[.int .u8 0, .int .u8 0, .int .u8 0, .string ⟨#[]⟩, .int .u8 0, .int .u8 0, .bool false, .int .i64 0, .bool false, .int .i64 0, .int .i64 0, .int .i64 0, .int .i64 0, .slice none 0 0, .int .u8 0, .int .u8 0, .int .u8 0, .int .u8 0, .int .u8 0, .int .u8 0, .int .u8 0, .int .u8 0, .int .u8 0, .int .u16 0, .int .u16 0, .int .u16 0, .bool false, .int .i64 0] 32)) w.heap.size noSn (.slice none 0 0) := heap_alloc_new w _
def snE : Sn := { noSn with nu := 2, ty := 37, nm := ⟨#[80]⟩, d := true, st := 1, av := 1, dv := 1, sm := 1 }
def exE : List UInt8 := [1, 2, 37, 0, 0, 0, 5, 1, 80, 1, 0, 1, 0, 1, 0, 127]
theorem exE1 : encS snE = exE := by decide +kernel
theorem exE2 : vs snE = true := by decide +kernel
theorem awake_any (w : World) :
    Calls Try.prog 11 #[] w fun e w' => e = .returned (.bool true) ∧ Below w.heap.size w w' := by
  have HE := Lib.hid fun (u : World) => by have := encp_p snE none 0 0 u PSl.none exE2; rw [exE1] at this; exact this
  have HV := Lib.hid fun (u : World) => by have := valid_p snE none 0 0 u PSl.none (by unfold maxLen; decide); rw [exE2] at this; exact this
  have hb0 : Below w.heap.size w (w.alloc (.cells #[.int .u8 0, .int .u8 0, .int .u8 0, .string ⟨#[]⟩, .int .u8 0, .int .u8 0, .bool false, .int .i64 0, .bool false, .int .i64 0, .int .i64 0, .int .i64 0, .int .i64 0, .slice none 0 0, .int .u8 0, .int .u8 0, .int .u8 0, .int .u8 0, .int .u8 0, .int .u8 0, .int .u8 0, .int .u8 0, .int .u8 0, .int .u16 0, .int .u16 0, .int .u16 0, .bool false, .int .i64 0] 32)) := (Below.refl _ _).alloc (Nat.le_refl _) _
  have hx0 := Bx.zero w
  go_enter Try.func11, Try.ntmps11
  go_wp2_with (refine wpList_store_bx rfl (.tmp 1) (.tmp 4) rfl w.heap.size snE noSn (.slice none 0 0) (.slice none 0 0) rfl rfl rfl hx0 ?_; intro w1 hx1 hg1; refine Hid.out ?_)
  refine Lib.hid ?_
  have hb1 := hb0.grown hg1 hb0.size (fun k hk => by injection hk; omega)
  clear hx0 hb0 hg1
  go_wp2_with (refine wpList_load_bx rfl (.tmp 1) rfl _ _ _ rfl hx1 ?_)
  refine (HE.out _).mono ?_
  rintro e w2 ⟨u, rfl, ho2, hb2⟩
  obtain ⟨A2, n2, c2, rfl, hs2⟩ := Sl.of_own ho2
  have hx2 := hx1.below hb2
  have hbb2 := hb1.trans (hb2.mono hb1.size)
  have hb3 : Below w2.heap.size w2 (w2.alloc (.cells #[.int .u8 1, .int .u8 2, .int .u8 37, .int .u8 0, .int .u8 0, .int .u8 0, .int .u8 5, .int .u8 1, .int .u8 80, .int .u8 1, .int .u8 0, .int .u8 1, .int .u8 0, .int .u8 1, .int .u8 0, .int .u8 127] 5)) := (Below.refl _ _).alloc (Nat.le_refl _) _
  have hs3 : Sl (w2.alloc (.cells #[.int .u8 1, .int .u8 2, .int .u8 37, .int .u8 0, .int .u8 0, .int .u8 0, .int .u8 5, .int .u8 1, .int .u8 80, .int .u8 1, .int .u8 0, .int .u8 1, .int .u8 0, .int .u8 1, .int .u8 0, .int .u8 127] 5)) (some ⟨w2.heap.size, 0, none⟩) 16 16 exE :=
    ⟨rfl, row_new w2 _ _ exE rfl (by simp), Nat.le_refl _, by unfold maxLen; omega, fun h => by cases h⟩
  have HSM := Lib.hid (Same.same_yes (hs2.step hb3) hs3)
  have hx3 := hx2.below hb3
  have hbb3 := hbb2.trans (hb3.mono hbb2.size)
  clear hx1 hb1 ho2 hb2 hs2 hb3 hs3 hx2 hbb2
  go_wp2_with fail
  generalize w2.alloc (.cells #[.int .u8 1, .int .u8 2, .int .u8 37, .int .u8 0, .int .u8 0, .int .u8 0, .int .u8 5, .int .u8 1, .int .u8 80, .int .u8 1, .int .u8 0, .int .u8 1, .int .u8 0, .int .u8 1, .int .u8 0, .int .u8 127] 5) = w3 at *
  refine HSM.out.mono ?_
  rintro e w4 ⟨rfl, hb4⟩
  have hx4 := hx3.below hb4
  have hbb4 := hbb3.trans (hb4.mono hbb3.size)
  clear hx3 hbb3 hb4
  go_wp2_with (refine wpList_load_bx_w rfl (.tmp 1) rfl _ _ _ rfl hx4 ?_)
  refine (HV.out _).mono ?_
  rintro e w5 ⟨rfl, hb5⟩
  go_wp2_with fail
  go_ret
  exact ⟨rfl, hbb4.trans (hb5.mono hbb4.size)⟩
end Go.Proofs.Ytigooekimkkhaaa.Tb
