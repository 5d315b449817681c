/- Walks: awake of the laws of discrete states. -/
import Derived.Test.YtafoaonkjcfbaaaZa
import Derived.Laws.StructEq
namespace Go.Proofs.Ytafoaonkjcfbaaa.Ya
open Go.RowKit Go.Proofs.Ytafoaonkjcfbaaa.Mem Go.Proofs.Ytafoaonkjcfbaaa.F2p Go.Proofs.Ytafoaonkjcfbaaa.C4l Go.Proofs.Ytafoaonkjcfbaaa.Ta Go.Proofs.Ytafoaonkjcfbaaa.Tb
set_option maxRecDepth 100000
set_option maxHeartbeats 1000000

/-- The example of the chapter. -/
def exD : Sn := ⟨0, 0, 0, ⟨#[100]⟩, 0, 0, true, C4p.noCv, 0, 0, 0, 0, 0, 0, 0, 0, 0, 7, 0, 0, false, 1⟩
theorem exD_3 : do3 exD 5 6 = [⟨0, false⟩, ⟨1, true⟩] := by kernel_rfl
theorem ch_eql (W : World) (i : Int) (b : Bool) : (binOp .eql 88 (.agg #[.int .i64 i, .bool b]) (.agg #[.int .i64 i, .bool b])).run Try.prog W = .ok (.bool true) W := by
  rw [run_eql_struct]
  go_simp
theorem ch_guard2 (W : World) (x y : Operand) (i : Int) (b : Bool) : (eqGuard .eql 88 x y (.agg #[.int .i64 i, .bool b]) (.agg #[.int .i64 i, .bool b])).run Try.prog W = .ok () W :=
  run_eqGuard_agg W .eql 88 x y _ _ Try.eqGuardType88
theorem awake13 (w : World) :
    Calls Try.prog 42 #[] w fun e w' => e = .returned (.bool true) ∧ Below w.heap.size w w' := by
  have HS : Hid (∀ u : World, Calls Try.prog 43 #[.agg (cells exD (.slice none 0 0)), .int .u16 5, .int .u16 6] u fun e u' => ∃ A n c, e = .returned (.tuple #[.int .u16 6, .slice A n c, .int .i64 0]) ∧ KSl u' A n c [⟨0, false⟩, ⟨1, true⟩] ∧ Below u.heap.size u u') :=
    Lib.hid fun (u : World) => (step_d exD none 0 0 5 6 (by omega) (by omega) u PSl.none (by unfold maxLen; decide)).mono fun e u' h => by
      have h1 := dstep_out h
      rw [show do1 exD 5 6 = 6 by decide +kernel, show do2 exD 5 6 = 0 by decide +kernel, exD_3] at h1
      exact h1
  have hz := Bx.zero w
  have hb0 := (Below.refl w.heap.size w).alloc (Nat.le_refl _) (.cells #[.int .u8 0, .int .u8 0, .int .u8 0, .string ⟨#[]⟩, .int .u8 0, .int .u8 0, .bool false, .int .i64 0, .bool false, .int .i64 0, .int .i64 0, .int .i64 0, .int .i64 0, .slice none 0 0, .int .u8 0, .int .u8 0, .int .u8 0, .int .u8 0, .int .u8 0, .int .u8 0, .int .u8 0, .int .u8 0, .int .u8 0, .int .u16 0, .int .u16 0, .int .u16 0, .bool false, .int .i64 0] 59)
  go_enter Try.func42, Try.ntmps42
  go_wp2_with (refine wpList_store_bx rfl (.tmp 1) (.tmp 5) rfl w.heap.size exD noSn (.slice none 0 0) (.slice none 0 0) rfl rfl rfl hz ?_; intro w1 hx1 hg1; refine Hid.out ?_)
  refine Lib.hid ?_
  have hb1 := hb0.grown hg1 hb0.size (fun k hk => by injection hk; omega)
  clear hz hb0 hg1
  go_wp2_with (refine wpList_load_bx rfl (.tmp 1) rfl _ _ _ rfl hx1 ?_)
  refine (HS.out _).mono ?_
  rintro e w2 ⟨A, n, c, rfl, hk, hb2⟩
  have hbb := hb1.trans (hb2.mono hb1.size)
  obtain ⟨p, rfl, -, p0, p1⟩ := krow_at hk.row (k := 0) (by simp)
  obtain ⟨q, hq, -, q0, q1⟩ := krow_at hk.row (k := 1) (by simp)
  obtain rfl : p = q := by injection hq
  obtain rfl : n = 2 := hk.len
  have HQ := Lib.hid fun W i b => ch_eql W i b
  have e1 := fun W => ch_eql W 0 false
  have e2 := fun W => ch_eql W 1 true
  have g1 := fun W x y => ch_guard2 W x y 0 false
  have g2 := fun W x y => ch_guard2 W x y 1 true
  have a0 : w2.cell? p = some (.int .i64 0) := p0
  have a1 : w2.cell? (p.add 1) = some (.bool false) := p1
  have b0 : w2.cell? (p.add 2) = some (.int .i64 1) := q0
  have b1 : w2.cell? (p.add 3) = some (.bool true) := q1
  have a1' : w2.cell? ⟨p.block, p.off + 1, none⟩ = some (.bool false) := p1
  have b0' : w2.cell? ⟨p.block, p.off + 2, none⟩ = some (.int .i64 1) := q0
  have b1' : w2.cell? ⟨p.block, p.off + 2 + 1, none⟩ = some (.bool true) := q1
  clear p0 p1 q0 q1 HQ
  go_wp2_with fail
  go_ret
  exact ⟨rfl, hbb⟩
end Go.Proofs.Ytafoaonkjcfbaaa.Ya
