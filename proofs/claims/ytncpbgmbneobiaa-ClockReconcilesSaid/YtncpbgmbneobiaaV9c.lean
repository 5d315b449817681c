/- Walks: the program's package clock: the events of a change, Adjust. -/
import Derived.Test.YtncpbgmbneobiaaV9b
import Derived.Test.YtncpbgmbneobiaaV9e
namespace Go.Proofs.Ytncpbgmbneobiaa.V9
open Go.RowKit Go.Proofs.Ytncpbgmbneobiaa.Mem Go.Proofs.Ytncpbgmbneobiaa.F2p Go.Proofs.Ytncpbgmbneobiaa.V7
set_option maxRecDepth 100000
set_option maxHeartbeats 1000000

theorem eown_below {base : Nat} {w w' : World} {v : Value} {l : List Ev} (h : EOwn base w v l) (hb : Below w.heap.size w w') : EOwn base w' v l :=
  World.ownsRow.kept (row := none) h ⟨hb.os, hb.tape, hb.output, hb.size, fun i hi _ => hb.block i hi⟩ (Classical.em _)
theorem eown_far' {base r g n c : Nat} {w w' : World} {l : List Ev} (h : EOwn base w (.slice (some ⟨g, 0, none⟩) n c) l) (hg : w.grownBy w' (some r)) (hr : some g ≠ some r) : EOwn base w' (.slice (some ⟨g, 0, none⟩) n c) l :=
  World.ownsRow.kept h hg (.inr (by simpa [Value.ownBlock] using hr))
/-- One side of a change. -/
def chg (side time : Nat) : Ev := ⟨0, time, 32, 18, 0, 111, false, 5, side, 255⟩
theorem chg_fit {side time : Nat} (h : side < 256) (h2 : time < 4294967296) : (chg side time).Fit :=
  ⟨by show 0 < 65536; omega, h2, by show 32 < 65536; omega, by show 18 < 256; omega, by show 0 < 256; omega, by show 111 < 256; omega, by show 5 < 256; omega, h, by show 255 < 256; omega⟩
theorem chg_p (side time : Nat) (w : World) : Calls Try.prog 65 #[.int .u8 (side : Int), .int .u32 (time : Int)] w fun x w' => x = .returned (chg side time).v ∧ Below w.heap.size w w' := by
  have hst := Lib.hid (fun u => state_p 18 0 5 true u (by omega))
  have hr0 := Lib.hid (Box.new w Ev.none)
  have hs0 := Lib.hid ((Below.refl w.heap.size w).alloc (Nat.le_refl _) (.cells Ev.none.cells 33))
  go_enter Try.func65, Try.ntmps65
  go_wp2_with fail
  refine (hst.out _).mono ?_
  rintro e w1 ⟨rfl, hb1⟩
  have hR1 := Box.below hr0.out hb1 (by simp)
  have hs1 := hs0.out.trans (hb1.mono (by simp))
  have hlt := hR1.lt
  clear hb1
  go_wp2_with (refine wpList_store_box rfl (.tmp 5) (.tmp 9) rfl w1.heap.size ⟨0, 0, 32, 18, 0, 111, false, 5, 255, 255⟩ Ev.none rfl rfl (Box.new w1 Ev.none) ?_; intro w2 hB2 hg2; refine Hid.out ?_)
  refine Lib.hid ?_
  have hR2 := (hR1.alloc (.cells Ev.none.cells 33)).grown hg2 (fun e => by injection e; omega)
  have hs2 := (hs1.alloc hs1.size (.cells Ev.none.cells 33)).grown hg2 (by simp; omega) (fun k hk => by injection hk; omega)
  clear hg2 hR1 hs1
  have c8 := hB2.c8; have f8 := hB2.fz 8; have c1 := hB2.c1; have f1 := hB2.fz 1
  go_upto_region 4 with fail
  have hB3 := hB2.set 8 (.int .u8 (side : Int)) ⟨0, 0, 32, 18, 0, 111, false, 5, side, 255⟩ rfl
  have g3 := set_grown w2 w1.heap.size 8 (.int .u8 (side : Int))
  have hB4 := hB3.set 1 (.int .u32 (time : Int)) (chg side time) rfl
  have g4 := grown_trans g3 (set_grown _ w1.heap.size 1 (.int .u32 (time : Int)))
  have hR4 := hR2.grown g4 (fun e => by injection e; omega)
  have hs4 := hs2.grown g4 hs2.size (fun k hk => by injection hk; have := hs2.size; omega)
  clear hB2 c8 f8 c1 f1 hB3 g3 g4 hR2 hs2
  go_wp2_with (first
    | (refine wpList_load_box rfl (.tmp 5) rfl w1.heap.size (chg side time) rfl hB4 ?_)
    | (refine wpList_store_box rfl (.tmp 4) (.tmp 16) rfl w.heap.size (chg side time) Ev.none rfl rfl hR4 ?_; intro w5 hB5 hg5))
  exact out_box (r := w.heap.size) Try.results65 rfl rfl hB5 ⟨rfl, hs4.grown hg5 hs4.size (fun k hk => by injection hk; omega)⟩
/-- What Adjust answers: clock, events, error. -/
def adj (c : Ck) (n : Nat) : Ck × List Ev × Int := if c.ok then (if 4294967294 < n then (Ck.none, [], 2) else (⟨c.t, (n : Int) - c.t / 10, true⟩, [chg 0 c.tm.toNat, chg 128 n], 0)) else (Ck.none, [], 1)
theorem adjust_p (c : Ck) (hf : c.Fit) (n : Nat) (hn : n < 4294967296) (w : World) : Calls Try.prog 40 #[c.v, .int .u32 (n : Int)] w fun x w' => ∃ v, x = .returned (.tuple #[(adj c n).1.v, v, .int .i64 (adj c n).2.2]) ∧ EOwn w.heap.size w' v (adj c n).2.1 ∧ Below w.heap.size w w' := by
  have hv := Lib.hid (fun u => valid_ck c hf u)
  unfold adj
  rcases hk : c.ok with _ | _
  · rw [hk] at hv
    rw [if_neg (by simp)]
    obtain ⟨t, b, s⟩ := c
    simp only [Ck.v, Ck.cells, Ck.none] at *
    clear hk hf
    have hs0 : Below w.heap.size w ((w.alloc (.cells (Ck.mk t b s).cells 37)).alloc (.cells Ck.none.cells 37)) := ((Below.refl _ _).alloc (Nat.le_refl _) _).alloc (by simp) _
    have hr0 := CBox.new (w.alloc (.cells (Ck.mk t b s).cells 37)) Ck.none
    have hc0 := (CBox.new w (Ck.mk t b s)).alloc (.cells Ck.none.cells 37)
    have hz0 : (w.alloc (.cells (Ck.mk t b s).cells 37)).heap.size = w.heap.size + 1 := by simp
    have hz1 : ((w.alloc (.cells (Ck.mk t b s).cells 37)).alloc (.cells Ck.none.cells 37)).heap.size = w.heap.size + 2 := by simp
    rw [hz0] at hr0
    simp only [Ck.cells, Ck.none] at hs0 hr0 hz1 hc0
    replace hr0 := Lib.hid hr0
    replace hs0 := Lib.hid hs0
    replace hc0 := Lib.hid hc0
    go_enter Try.func40, Try.ntmps40
    go_wp2_with fail
    refine (hv.out _).mono ?_
    rintro e w1 ⟨rfl, hb1⟩
    have hs1 := Lib.hid (hs0.out.trans (hb1.mono (by omega)))
    have hR := CBox.below hr0.out hb1 (by omega)
    have hC := CBox.below hc0.out hb1 (by omega)
    have c0 : w1.cell? ⟨w.heap.size, 0, none⟩ = some (.int .i64 t) := hC.c0
    have c1 : w1.cell? ⟨w.heap.size, 1, none⟩ = some (.int .i64 b) := hC.c1
    have c2 : w1.cell? ⟨w.heap.size, 2, none⟩ = some (.bool s) := hC.c2
    clear hb1
    go_wp2_with (refine wpList_store_ck rfl (.tmp 4) (.tmp 11) rfl (w.heap.size + 1) Ck.none Ck.none rfl rfl hR ?_; intro w2 hR2 hg2)
    exact out_ck3 (r := w.heap.size + 1) Try.results40 rfl rfl rfl rfl hR2 ⟨_, rfl, EOwn.nil, hs1.out.grown hg2 hs1.out.size (fun k hk => by injection hk; omega)⟩
  · rw [hk] at hv
    rw [if_pos rfl]
    by_cases hmax : 4294967294 < n
    · rw [if_pos hmax]
      obtain ⟨t, b, s⟩ := c
      simp only [Ck.v, Ck.cells, Ck.none] at *
      clear hk hf
      have hmI : 4294967294 < (n : Int) := by omega
      clear hmax
      have hs0 : Below w.heap.size w ((w.alloc (.cells (Ck.mk t b s).cells 37)).alloc (.cells Ck.none.cells 37)) := ((Below.refl _ _).alloc (Nat.le_refl _) _).alloc (by simp) _
      have hr0 := CBox.new (w.alloc (.cells (Ck.mk t b s).cells 37)) Ck.none
      have hc0 := (CBox.new w (Ck.mk t b s)).alloc (.cells Ck.none.cells 37)
      have hz0 : (w.alloc (.cells (Ck.mk t b s).cells 37)).heap.size = w.heap.size + 1 := by simp
      have hz1 : ((w.alloc (.cells (Ck.mk t b s).cells 37)).alloc (.cells Ck.none.cells 37)).heap.size = w.heap.size + 2 := by simp
      rw [hz0] at hr0
      simp only [Ck.cells, Ck.none] at hs0 hr0 hz1 hc0
      replace hr0 := Lib.hid hr0
      replace hs0 := Lib.hid hs0
      replace hc0 := Lib.hid hc0
      go_enter Try.func40, Try.ntmps40
      go_wp2_with fail
      refine (hv.out _).mono ?_
      rintro e w1 ⟨rfl, hb1⟩
      have hs1 := Lib.hid (hs0.out.trans (hb1.mono (by omega)))
      have hR := CBox.below hr0.out hb1 (by omega)
      have hC := CBox.below hc0.out hb1 (by omega)
      have c0 : w1.cell? ⟨w.heap.size, 0, none⟩ = some (.int .i64 t) := hC.c0
      have c1 : w1.cell? ⟨w.heap.size, 1, none⟩ = some (.int .i64 b) := hC.c1
      have c2 : w1.cell? ⟨w.heap.size, 2, none⟩ = some (.bool s) := hC.c2
      clear hb1
      go_wp2_with (refine wpList_store_ck rfl (.tmp 4) (.tmp 14) rfl (w.heap.size + 1) Ck.none Ck.none rfl rfl hR ?_; intro w2 hR2 hg2)
      exact out_ck3 (r := w.heap.size + 1) Try.results40 rfl rfl rfl rfl hR2 ⟨_, rfl, EOwn.nil, hs1.out.grown hg2 hs1.out.size (fun k hk => by injection hk; omega)⟩
    · rw [if_neg hmax]
      obtain ⟨h1, h2, -, h4, h5⟩ := Ck.ok_b hk
      have htm := Lib.hid (fun u => tm_p c hk u)
      have hsec := Lib.hid (fun u => seconds_p c h1 h2 u)
      obtain ⟨m, hm⟩ := Int.eq_ofNat_of_zero_le h4
      have hmn : c.tm.toNat = m := by omega
      rw [hmn]
      rw [hm] at htm
      have hm32 : m < 4294967296 := by omega
      clear h4 h5 hmn hm
      have hch0 := Lib.hid (fun u => chg_p 0 m u)
      have hch1 := Lib.hid (fun u => chg_p 128 n u)
      obtain ⟨t, b, s⟩ := c
      simp only [Ck.v, Ck.cells] at *
      clear hk hf
      have hmI : ¬ 4294967294 < (n : Int) := by omega
      have hw1 : wrap64 ((n : Int) - t / 10) = (n : Int) - t / 10 := by unfold wrap64; omega
      obtain ⟨B, hB⟩ : ∃ B, (n : Int) - t / 10 = B := ⟨_, rfl⟩
      rw [hB] at hw1 ⊢
      replace hB := Lib.hid hB
      clear hmax
      have hs0 : Below w.heap.size w ((w.alloc (.cells (Ck.mk t b s).cells 37)).alloc (.cells Ck.none.cells 37)) := ((Below.refl _ _).alloc (Nat.le_refl _) _).alloc (by simp) _
      have hr0 := CBox.new (w.alloc (.cells (Ck.mk t b s).cells 37)) Ck.none
      have hc0 := (CBox.new w (Ck.mk t b s)).alloc (.cells Ck.none.cells 37)
      have hz0 : (w.alloc (.cells (Ck.mk t b s).cells 37)).heap.size = w.heap.size + 1 := by simp
      have hz1 : ((w.alloc (.cells (Ck.mk t b s).cells 37)).alloc (.cells Ck.none.cells 37)).heap.size = w.heap.size + 2 := by simp
      rw [hz0] at hr0
      simp only [Ck.cells, Ck.none] at hs0 hr0 hz1 hc0
      replace hr0 := Lib.hid hr0
      replace hs0 := Lib.hid hs0
      replace hc0 := Lib.hid hc0
      go_enter Try.func40, Try.ntmps40
      go_wp2_with fail
      refine (hv.out _).mono ?_
      rintro e w1 ⟨rfl, hb1⟩
      have hs1 := Lib.hid (hs0.out.trans (hb1.mono (by omega)))
      have hR := CBox.below hr0.out hb1 (by omega)
      have hC := CBox.below hc0.out hb1 (by omega)
      have c0 : w1.cell? ⟨w.heap.size, 0, none⟩ = some (.int .i64 t) := hC.c0
      have c1 : w1.cell? ⟨w.heap.size, 1, none⟩ = some (.int .i64 b) := hC.c1
      have c2 : w1.cell? ⟨w.heap.size, 2, none⟩ = some (.bool s) := hC.c2
      clear hb1
      go_upto_region 5 with fail
      have hlt := hC.lt
      have hltR := hR.lt
      replace hC := Lib.hid hC
      replace hR := Lib.hid hR
      go_wp2_with fail
      refine (htm.out _).mono ?_
      rintro e w2 ⟨rfl, hb2⟩
      have hs2 := Lib.hid (hs1.out.trans (hb2.mono hs1.out.size))
      have hC2 := Lib.hid (CBox.below hC.out hb2 hlt)
      have hR2 := Lib.hid (CBox.below hR.out hb2 hltR)
      have hz2 := hb2.size
      clear hb2 hs1 hC hR c0 c1 c2
      go_wp2_with fail
      refine (hch0.out _).mono ?_
      rintro e w3 ⟨rfl, hb3⟩
      have hs3 := Lib.hid (hs2.out.trans (hb3.mono hs2.out.size))
      have hC3 := Lib.hid (CBox.below hC2.out hb3 (by omega))
      have hR3 := Lib.hid (CBox.below hR2.out hb3 (by omega))
      have hz3 := hb3.size
      clear hb3 hs2 hC2 hR2
      go_wp2_with fail
      refine (hch1.out _).mono ?_
      rintro e w4 ⟨rfl, hb4⟩
      have hs4 := Lib.hid (hs3.out.trans (hb4.mono hs3.out.size))
      have hC4 := Lib.hid (CBox.below hC3.out hb4 (by omega))
      have hR4 := Lib.hid (CBox.below hR3.out hb4 (by omega))
      have hz4 := hb4.size
      clear hb4 hs3 hC3 hR3
      dsimp only [Ev.v, Ev.cells, chg]
      go_upto_region 6 with fail
      have hown : EOwn w.heap.size (w4.alloc (.cells #[.int .u16 0, .int .u32 (m : Int), .int .u16 32, .int .u8 18, .int .u8 0, .int .u8 111, .bool false, .int .u8 5, .int .u8 0, .int .u8 255, .int .u16 0, .int .u32 (n : Int), .int .u16 32, .int .u8 18, .int .u8 0, .int .u8 111, .bool false, .int .u8 5, .int .u8 128, .int .u8 255] 33)) (.slice (some ⟨w4.heap.size, 0, none⟩) 2 2) [chg 0 m, chg 128 n] :=
        World.ownsRow_lit w4 #[.int .u16 0, .int .u32 (m : Int), .int .u16 32, .int .u8 18, .int .u8 0, .int .u8 111, .bool false, .int .u8 5, .int .u8 0, .int .u8 255, .int .u16 0, .int .u32 (n : Int), .int .u16 32, .int .u8 18, .int .u8 0, .int .u8 111, .bool false, .int .u8 5, .int .u8 128, .int .u8 255] 2 (by omega) (by unfold maxLen; omega) rfl
      have hs5 := Lib.hid (hs4.out.alloc hs4.out.size (.cells #[.int .u16 0, .int .u32 (m : Int), .int .u16 32, .int .u8 18, .int .u8 0, .int .u8 111, .bool false, .int .u8 5, .int .u8 0, .int .u8 255, .int .u16 0, .int .u32 (n : Int), .int .u16 32, .int .u8 18, .int .u8 0, .int .u8 111, .bool false, .int .u8 5, .int .u8 128, .int .u8 255] 33))
      have hC5 := hC4.out.alloc (.cells #[.int .u16 0, .int .u32 (m : Int), .int .u16 32, .int .u8 18, .int .u8 0, .int .u8 111, .bool false, .int .u8 5, .int .u8 0, .int .u8 255, .int .u16 0, .int .u32 (n : Int), .int .u16 32, .int .u8 18, .int .u8 0, .int .u8 111, .bool false, .int .u8 5, .int .u8 128, .int .u8 255] 33)
      have hR5 := hR4.out.alloc (.cells #[.int .u16 0, .int .u32 (m : Int), .int .u16 32, .int .u8 18, .int .u8 0, .int .u8 111, .bool false, .int .u8 5, .int .u8 0, .int .u8 255, .int .u16 0, .int .u32 (n : Int), .int .u16 32, .int .u8 18, .int .u8 0, .int .u8 111, .bool false, .int .u8 5, .int .u8 128, .int .u8 255] 33)
      have hz5 : (w4.alloc (.cells #[.int .u16 0, .int .u32 (m : Int), .int .u16 32, .int .u8 18, .int .u8 0, .int .u8 111, .bool false, .int .u8 5, .int .u8 0, .int .u8 255, .int .u16 0, .int .u32 (n : Int), .int .u16 32, .int .u8 18, .int .u8 0, .int .u8 111, .bool false, .int .u8 5, .int .u8 128, .int .u8 255] 33)).heap.size = w4.heap.size + 1 := by simp
      clear hs4 hC4 hR4
      generalize w4.alloc (.cells #[.int .u16 0, .int .u32 (m : Int), .int .u16 32, .int .u8 18, .int .u8 0, .int .u8 111, .bool false, .int .u8 5, .int .u8 0, .int .u8 255, .int .u16 0, .int .u32 (n : Int), .int .u16 32, .int .u8 18, .int .u8 0, .int .u8 111, .bool false, .int .u8 5, .int .u8 128, .int .u8 255] 33) = w5 at *
      have c0 : w5.cell? ⟨w.heap.size, 0, none⟩ = some (.int .i64 t) := hC5.c0
      have c1 : w5.cell? ⟨w.heap.size, 1, none⟩ = some (.int .i64 b) := hC5.c1
      have c2 : w5.cell? ⟨w.heap.size, 2, none⟩ = some (.bool s) := hC5.c2
      have hlt5 := hC5.lt
      replace hown := Lib.hid hown
      replace hC5 := Lib.hid hC5
      replace hR5 := Lib.hid hR5
      go_wp2_with fail
      refine (hsec.out _).mono ?_
      rintro e w6 ⟨rfl, hb6⟩
      have hs6 := Lib.hid (hs5.out.trans (hb6.mono hs5.out.size))
      have hC6 := CBox.below hC5.out hb6 (by omega)
      have hR6 := Lib.hid (CBox.below hR5.out hb6 (by omega))
      have hown6 := Lib.hid (eown_below hown.out hb6)
      have d1 : w6.cell? ⟨w.heap.size, 1, none⟩ = some (.int .i64 b) := hC6.c1
      have e1 := hC6.fz 1
      have e2 := hC6.fz 2
      have d2 : w6.cell? ⟨w.heap.size, 2, none⟩ = some (.bool s) := hC6.c2
      have hz6 := hb6.size
      clear hb6 hs5 hC5 hR5 hown c0 c1 c2
      go_upto_region 8 with fail
      have hC7 := hC6.set 1 (.int .i64 ((n : Int) - t / 10)) ⟨t, (n : Int) - t / 10, s⟩ rfl
      have hC8 := hC7.set 2 (.bool true) ⟨t, B, true⟩ (by rw [← hB.out]; rfl)
      have g8 := grown_trans (set_grown w6 w.heap.size 1 (.int .i64 ((n : Int) - t / 10))) (set_grown _ w.heap.size 2 (.bool true))
      have hR8 := hR6.out.grown g8 (fun e => by injection e; omega)
      have hs8 := Lib.hid (hs6.out.grown g8 hs6.out.size (fun k hk => by injection hk; omega))
      have hown8 := Lib.hid (eown_far' hown6.out g8 (fun e => by injection e; omega))
      clear g8 hC7 hC6 hs6 hown6 hR6 d1 d2 e1 e2
      generalize (w6.setCell ⟨w.heap.size, 1, none⟩ (.int .i64 ((n : Int) - t / 10))).setCell ⟨w.heap.size, 2, none⟩ (.bool true) = w8 at *
      have hltR := hR8.lt
      go_wp2_with (first
        | (refine wpList_load_ck rfl (.tmp 2) rfl w.heap.size ⟨t, B, true⟩ rfl hC8 ?_)
        | (refine wpList_store_ck rfl (.tmp 4) (.tmp 28) rfl (w.heap.size + 1) ⟨t, B, true⟩ Ck.none rfl rfl hR8 ?_; intro w9 hR9 hg9))
      have hown9 := eown_far' hown8.out hg9 (fun e => by injection e; omega)
      exact out_ck3 (r := w.heap.size + 1) Try.results40 rfl rfl rfl rfl hR9 ⟨_, rfl, hown9, hs8.out.grown hg9 hs8.out.size (fun k hk => by injection hk; omega)⟩
end Go.Proofs.Ytncpbgmbneobiaa.V9
