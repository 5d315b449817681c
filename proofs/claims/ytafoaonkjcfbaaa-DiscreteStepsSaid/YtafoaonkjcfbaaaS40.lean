/- Plain mathematics: readings that are more extreme; masks of a side. Small lemmas for stage 12's laws: a record's points over stores in other blocks. Walks: awake of the laws of discrete states. -/
import Derived.Test.YtafoaonkjcfbaaaS09
import Derived.Test.YtafoaonkjcfbaaaS39
import Derived.Test.YtafoaonkjcfbaaaS26
import Derived.Laws.StructEq
namespace Go.Proofs.Ytafoaonkjcfbaaa.Ya
open Go.Proofs.Ytafoaonkjcfbaaa.Ta
set_option maxRecDepth 100000

theorem bit7 (i : Nat) : (7 : Nat).testBit i = decide (i < 3) := Nat.testBit_two_pow_sub_one 3 i
theorem bit56 (i : Nat) : (56 : Nat).testBit i = decide (3 ≤ i ∧ i < 6) := by
  rcases Nat.lt_or_ge i 6 with h | h
  · rcases (show i = 0 ∨ i = 1 ∨ i = 2 ∨ i = 3 ∨ i = 4 ∨ i = 5 by omega) with rfl | rfl | rfl | rfl | rfl | rfl <;> decide
  · have hp : 2 ^ 6 ≤ 2 ^ i := Nat.pow_le_pow_right (by omega) h
    rw [Nat.testBit_lt_two_pow (by omega : 56 < 2 ^ i), decide_eq_false (by omega)]
theorem ord_facts {s : Sn} (hv : vs s = true) (hd : s.d = false) {x y : Int} (hxy : x ≤ y) :
    andn8 (wth s y 0 0 &&& 7) (wth s x 0 0) = 0 ∧ andn8 (wth s x 0 0 &&& 56) (wth s y 0 0) = 0 ∧ (wth s x 0 0 &&& 7 = 0 ∨ wth s x 0 0 &&& 56 = 0) := by
  refine ⟨andn8_zero fun i _ h => ?_, andn8_zero fun i _ h => ?_, ?_⟩
  · rw [Nat.testBit_and, bit7, Bool.and_eq_true, decide_eq_true_eq] at h
    have hi : i < 6 := by omega
    rw [wth_bit _ _ _ _ _ hi] at h ⊢
    exact rch_low hxy (by omega) h.1
  · rw [Nat.testBit_and, bit56, Bool.and_eq_true, decide_eq_true_eq] at h
    have hi : i < 6 := h.2.2
    rw [wth_bit _ _ _ _ _ hi] at h ⊢
    exact rch_up hxy (by omega) h.1
  · rcases Classical.em (∃ i, i ≤ 2 ∧ rch s x 0 0 i = true) with ⟨i, hi, hr⟩ | hno
    · right
      apply Nat.eq_of_testBit_eq
      intro j
      rw [Nat.testBit_and, bit56, Nat.zero_testBit]
      rcases Classical.em (3 ≤ j ∧ j < 6) with hj | hj
      · rw [wth_bit _ _ _ _ _ hj.2]
        cases hq : rch s x 0 0 j
        · rfl
        · exact (rch_both hv hd hi (by omega) hj.2 hr hq).elim
      · rw [decide_eq_false hj, Bool.and_false]
    · left
      apply Nat.eq_of_testBit_eq
      intro j
      rw [Nat.testBit_and, bit7, Nat.zero_testBit]
      rcases Classical.em (j < 3) with hj | hj
      · rw [wth_bit _ _ _ _ _ (by omega)]
        cases hq : rch s x 0 0 j
        · rfl
        · exact (hno ⟨j, by omega, hq⟩).elim
      · rw [decide_eq_false hj, Bool.and_false]
end Go.Proofs.Ytafoaonkjcfbaaa.Ya
namespace Go.Proofs.Ytafoaonkjcfbaaa.Ya
open Go.RowKit Go.Proofs.Ytafoaonkjcfbaaa.Mem Go.Proofs.Ytafoaonkjcfbaaa.F2p Go.Proofs.Ytafoaonkjcfbaaa.C4l Go.Proofs.Ytafoaonkjcfbaaa.Ta Go.Proofs.Ytafoaonkjcfbaaa.Tb
set_option maxRecDepth 100000

theorem psl_own {base : Nat} {w : World} {A : Option Addr} {n c : Nat} {p : List Pt} (h : POwn base w (.slice A n c) p) : PSl w A n c p := by
  obtain ⟨A', n', c', e, hs⟩ := h.sl
  injection e with e1 e2 e3
  subst e1 e2 e3
  exact hs
theorem pown_below {base : Nat} {w w' : World} {v : Value} {p : List Pt} (h : POwn base w v p) (hb : Below w.heap.size w w') : POwn base w' v p := by
  refine ⟨h.1, ?_⟩
  rcases h.2 with h1 | ⟨g, cap, cur, h1, h2, h3, h4⟩
  · exact .inl h1
  · refine .inr ⟨g, cap, cur, h1, h2, (hb.block g ?_).trans h3, h4⟩
    rcases Nat.lt_or_ge g w.heap.size with h5 | h5
    · exact h5
    · rw [Array.getElem?_eq_none h5] at h3; cases h3
end Go.Proofs.Ytafoaonkjcfbaaa.Ya
namespace Go.Proofs.Ytafoaonkjcfbaaa.Ya
open Go.RowKit Go.Proofs.Ytafoaonkjcfbaaa.Mem Go.Proofs.Ytafoaonkjcfbaaa.F2p Go.Proofs.Ytafoaonkjcfbaaa.C4l Go.Proofs.Ytafoaonkjcfbaaa.Ta Go.Proofs.Ytafoaonkjcfbaaa.Tb
set_option maxRecDepth 100000
set_option maxHeartbeats 1000000

/-- The example of the chapter. -/
def exD : Sn := ⟨0, 0, 0, ⟨#[100]⟩, 0, 0, true, C4p.noCv, 0, 0, 0, 0, 0, 0, 0, 0, 0, 7, 0, 0, false, 1⟩
theorem exD_3 : do3 exD 5 6 = [⟨0, false⟩, ⟨1, true⟩] := by kernel_rfl
theorem ch_eql (W : World) (i : Int) (b : Bool) : (binOp .eql 88 (.agg #[.int .i64 i, .bool b]) (.agg #[.int .i64 i, .bool b])).run Try.prog W = .ok (.bool true) W := by
  rw [run_eql_struct]
  go_simp
theorem ch_guard2 (W : World) (x y : Operand) (i : Int) (b : Bool) : (eqGuard .eql 88 x y (.agg #[.int .i64 i, .bool b]) (.agg #[.int .i64 i, .bool b])).run Try.prog W = .ok () W :=
  run_eqGuard_agg W .eql 88 x y _ _ Try.eqGuardType88
theorem awake13 (w : World) :
    Calls Try.prog 42 #[] w fun e w' => e = .returned (.bool true) ∧ Below w.heap.size w w' := by
  have HS : Hid (∀ u : World, Calls Try.prog 43 #[.agg (cells exD (.slice none 0 0)), .int .u16 5, .int .u16 6] u fun e u' => ∃ A n c, e = .returned (.tuple #[.int .u16 6, .slice A n c, .int .i64 0]) ∧ KSl u' A n c [⟨0, false⟩, ⟨1, true⟩] ∧ Below u.heap.size u u') :=
    Lib.hid fun (u : World) => (step_d exD none 0 0 5 6 (by omega) (by omega) u PSl.none (by unfold maxLen; decide)).mono fun e u' h => by
      have h1 := dstep_out h
      rw [show do1 exD 5 6 = 6 by decide +kernel, show do2 exD 5 6 = 0 by decide +kernel, exD_3] at h1
      exact h1
  have hz := Bx.zero w
  have hb0 := (Below.refl w.heap.size w).alloc (Nat.le_refl _) (.cells #[.int .u8 0, .int .u8 0, .int .u8 0, .string ⟨#[]⟩, .int .u8 0, .int .u8 0, .bool false, .int .i64 0, .bool false, .int .i64 0, .int .i64 0, .int .i64 0, .int .i64 0, .slice none 0 0, .int .u8 0, .int .u8 0, .int .u8 0, .int .u8 0, .int .u8 0, .int .u8 0, .int .u8 0, .int .u8 0, .int .u8 0, .int .u16 0, .int .u16 0, .int .u16 0, .bool false, .int .i64 0] 59)
  go_enter Try.func42, Try.ntmps42
  go_wp2_with (refine wpList_store_bx rfl (.tmp 1) (.tmp 5) rfl w.heap.size exD noSn (.slice none 0 0) (.slice none 0 0) rfl rfl rfl hz ?_; intro w1 hx1 hg1; refine Hid.out ?_)
  refine Lib.hid ?_
  have hb1 := hb0.grown hg1 hb0.size (fun k hk => by injection hk; omega)
  clear hz hb0 hg1
  go_wp2_with (refine wpList_load_bx rfl (.tmp 1) rfl _ _ _ rfl hx1 ?_)
  refine (HS.out _).mono ?_
  rintro e w2 ⟨A, n, c, rfl, hk, hb2⟩
  have hbb := hb1.trans (hb2.mono hb1.size)
  obtain ⟨p, rfl, -, p0, p1⟩ := krow_at hk.row (k := 0) (by simp)
  obtain ⟨q, hq, -, q0, q1⟩ := krow_at hk.row (k := 1) (by simp)
  obtain rfl : p = q := by injection hq
  obtain rfl : n = 2 := hk.len
  have HQ := Lib.hid fun W i b => ch_eql W i b
  have e1 := fun W => ch_eql W 0 false
  have e2 := fun W => ch_eql W 1 true
  have g1 := fun W x y => ch_guard2 W x y 0 false
  have g2 := fun W x y => ch_guard2 W x y 1 true
  have a0 : w2.cell? p = some (.int .i64 0) := p0
  have a1 : w2.cell? (p.add 1) = some (.bool false) := p1
  have b0 : w2.cell? (p.add 2) = some (.int .i64 1) := q0
  have b1 : w2.cell? (p.add 3) = some (.bool true) := q1
  have a1' : w2.cell? ⟨p.block, p.off + 1, none⟩ = some (.bool false) := p1
  have b0' : w2.cell? ⟨p.block, p.off + 2, none⟩ = some (.int .i64 1) := q0
  have b1' : w2.cell? ⟨p.block, p.off + 2 + 1, none⟩ = some (.bool true) := q1
  clear p0 p1 q0 q1 HQ
  go_wp2_with fail
  go_ret
  exact ⟨rfl, hbb⟩
end Go.Proofs.Ytafoaonkjcfbaaa.Ya
