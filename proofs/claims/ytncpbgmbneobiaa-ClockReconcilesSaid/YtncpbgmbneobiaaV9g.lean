/- Walks: the reference of clocks: Adjust. -/
import Derived.Test.YtncpbgmbneobiaaV9f
namespace Go.Proofs.Ytncpbgmbneobiaa.V9
open Go.RowKit Go.Proofs.Ytncpbgmbneobiaa.Mem Go.Proofs.Ytncpbgmbneobiaa.F2p Go.Proofs.Ytncpbgmbneobiaa.V7
set_option maxRecDepth 100000
set_option maxHeartbeats 4000000

/-- A clock's three values stored at the result's block. -/
def set3 (V : World) (R : Nat) (e : Ck) : World := ((V.setCell ⟨R, 0, none⟩ (.int .i64 e.t)).setCell ⟨R, 1, none⟩ (.int .i64 e.b)).setCell ⟨R, 2, none⟩ (.bool e.s)
theorem set3_grown (V : World) (R : Nat) (e : Ck) : V.grownBy (set3 V R e) (some R) := grown_trans (grown_trans (set_grown V R 0 _) (set_grown _ R 1 _)) (set_grown _ R 2 _)
theorem set3_box {V : World} {R : Nat} {e0 : Ck} (h : CBox V R e0) (e : Ck) : CBox (set3 V R e) R e :=
  ((h.set 0 _ ⟨e.t, e0.b, e0.s⟩ rfl).set 1 _ ⟨e.t, e.b, e0.s⟩ rfl).set 2 _ e rfl
/-- What holds while the region of Adjust is under way: the clock's block, the new clock's, the result's. -/
structure RS (w V : World) (F : Nat) (c o : Ck) : Prop where
  c : CBox V w.heap.size c
  o : CBox V F o
  b : Below w.heap.size w V
  lt : w.heap.size + 1 < F
theorem RS.below {w V V' : World} {F : Nat} {c o : Ck} (h : RS w V F c o) (hb : Below V.heap.size V V') : RS w V' F c o :=
  ⟨h.c.below hb h.c.lt, h.o.below hb h.o.lt, h.b.trans (hb.mono h.b.size), h.lt⟩
theorem RS.alloc {w V : World} {F : Nat} {c o : Ck} (h : RS w V F c o) (ob : Obj) : RS w (V.alloc ob) F c o := h.below ((Below.refl _ _).alloc (Nat.le_refl _) ob)
theorem RS.drew {w V : World} {F : Nat} {c o : Ck} (h : RS w V F c o) : RS w V.drew F c o := h.below (Below.refl _ _).drew
theorem RS.set {w V : World} {F : Nat} {c o : Ck} (h : RS w V F c o) (e : Ck) : RS w (set3 V (w.heap.size + 1) e) F c o :=
  ⟨h.c.grown (set3_grown V _ e) (fun e => by injection e; omega), h.o.grown (set3_grown V _ e) (fun e => by injection e; have := h.lt; omega), h.b.grown (set3_grown V _ e) h.b.size (fun k hk => by injection hk; omega), h.lt⟩
theorem adjust_r (c : Ck) (hf : c.Fit) (n : Nat) (hn : n < 4294967296) (w : World) : Calls Try.prog 16 #[c.v, .int .u32 (n : Int)] w fun x w' => ∃ v, x = .returned (.tuple #[(adj c n).1.v, v, .int .i64 (adj c n).2.2]) ∧ EOwn w.heap.size w' v (adj c n).2.1 ∧ Below w.heap.size w w' := by
  have hv := Lib.hid (fun u => valid_rck c hf u)
  unfold adj
  rcases hk : c.ok with _ | _
  · rw [hk] at hv
    rw [if_neg (by simp)]
    obtain ⟨t, b, s⟩ := c
    simp only [Ck.v, Ck.cells, Ck.none] at *
    clear hk hf
    have hs0 : Below w.heap.size w ((w.alloc (.cells (Ck.mk t b s).cells 37)).alloc (.cells Ck.none.cells 37)) := ((Below.refl _ _).alloc (Nat.le_refl _) _).alloc (by simp) _
    have hr0 := CBox.new (w.alloc (.cells (Ck.mk t b s).cells 37)) Ck.none
    have hc0 := (CBox.new w (Ck.mk t b s)).alloc (.cells Ck.none.cells 37)
    have hz0 : (w.alloc (.cells (Ck.mk t b s).cells 37)).heap.size = w.heap.size + 1 := by simp
    have hz1 : ((w.alloc (.cells (Ck.mk t b s).cells 37)).alloc (.cells Ck.none.cells 37)).heap.size = w.heap.size + 2 := by simp
    rw [hz0] at hr0
    simp only [Ck.cells, Ck.none] at hs0 hr0 hz1 hc0
    replace hr0 := Lib.hid hr0
    replace hs0 := Lib.hid hs0
    replace hc0 := Lib.hid hc0
    go_enter Try.func16, Try.ntmps16
    go_wp2_with fail
    refine (hv.out _).mono ?_
    rintro e w1 ⟨rfl, hb1⟩
    have hs1 := Lib.hid (hs0.out.trans (hb1.mono (by omega)))
    have hR := CBox.below hr0.out hb1 (by omega)
    have hC := CBox.below hc0.out hb1 (by omega)
    have c0 : w1.cell? ⟨w.heap.size, 0, none⟩ = some (.int .i64 t) := hC.c0
    have c1 : w1.cell? ⟨w.heap.size, 1, none⟩ = some (.int .i64 b) := hC.c1
    have c2 : w1.cell? ⟨w.heap.size, 2, none⟩ = some (.bool s) := hC.c2
    clear hb1
    go_wp2_with (refine wpList_store_ck rfl (.tmp 4) (.tmp 11) rfl (w.heap.size + 1) Ck.none Ck.none rfl rfl hR ?_; intro w2 hR2 hg2)
    exact out_ck3 (r := w.heap.size + 1) Try.results16 rfl rfl rfl rfl hR2 ⟨_, rfl, EOwn.nil, hs1.out.grown hg2 hs1.out.size (fun k hk => by injection hk; omega)⟩
  · rw [hk] at hv
    rw [if_pos rfl]
    by_cases hmax : 4294967294 < n
    · rw [if_pos hmax]
      obtain ⟨t, b, s⟩ := c
      simp only [Ck.v, Ck.cells, Ck.none] at *
      clear hk hf
      have hmI : 4294967294 < (n : Int) := by omega
      clear hmax
      have hs0 : Below w.heap.size w ((w.alloc (.cells (Ck.mk t b s).cells 37)).alloc (.cells Ck.none.cells 37)) := ((Below.refl _ _).alloc (Nat.le_refl _) _).alloc (by simp) _
      have hr0 := CBox.new (w.alloc (.cells (Ck.mk t b s).cells 37)) Ck.none
      have hc0 := (CBox.new w (Ck.mk t b s)).alloc (.cells Ck.none.cells 37)
      have hz0 : (w.alloc (.cells (Ck.mk t b s).cells 37)).heap.size = w.heap.size + 1 := by simp
      have hz1 : ((w.alloc (.cells (Ck.mk t b s).cells 37)).alloc (.cells Ck.none.cells 37)).heap.size = w.heap.size + 2 := by simp
      rw [hz0] at hr0
      simp only [Ck.cells, Ck.none] at hs0 hr0 hz1 hc0
      replace hr0 := Lib.hid hr0
      replace hs0 := Lib.hid hs0
      replace hc0 := Lib.hid hc0
      go_enter Try.func16, Try.ntmps16
      go_wp2_with fail
      refine (hv.out _).mono ?_
      rintro e w1 ⟨rfl, hb1⟩
      have hs1 := Lib.hid (hs0.out.trans (hb1.mono (by omega)))
      have hR := CBox.below hr0.out hb1 (by omega)
      have hC := CBox.below hc0.out hb1 (by omega)
      have c0 : w1.cell? ⟨w.heap.size, 0, none⟩ = some (.int .i64 t) := hC.c0
      have c1 : w1.cell? ⟨w.heap.size, 1, none⟩ = some (.int .i64 b) := hC.c1
      have c2 : w1.cell? ⟨w.heap.size, 2, none⟩ = some (.bool s) := hC.c2
      clear hb1
      go_wp2_with (refine wpList_store_ck rfl (.tmp 4) (.tmp 14) rfl (w.heap.size + 1) Ck.none Ck.none rfl rfl hR ?_; intro w2 hR2 hg2)
      exact out_ck3 (r := w.heap.size + 1) Try.results16 rfl rfl rfl rfl hR2 ⟨_, rfl, EOwn.nil, hs1.out.grown hg2 hs1.out.size (fun k hk => by injection hk; omega)⟩
    · rw [if_neg hmax]
      obtain ⟨h1, h2, -, h4, h5⟩ := Ck.ok_b hk
      have htm := Lib.hid (fun u => time_r c ⟨h1, h2⟩ (by unfold Ck.tm at h4 h5; omega) u)
      obtain ⟨m, hm⟩ := Int.eq_ofNat_of_zero_le h4
      have hmn : c.tm.toNat = m := by omega
      rw [hmn]
      rw [hm] at htm
      have hm32 : m < 4294967296 := by omega
      clear h4 h5 hmn hm
      have hch0 := Lib.hid (fun u => (show Calls Try.prog 43 #[.int .i64 (m : Int), .int .u8 0] u fun x w' => x = .returned (.agg #[.int .u16 0, .int .u32 (m : Int), .int .u16 32, .int .u8 18, .int .u8 0, .int .u8 111, .bool false, .int .u8 5, .int .u8 0, .int .u8 255]) ∧ Below u.heap.size u w' from change_r m 0 hm32 u))
      have hch1 := Lib.hid (fun u => (show Calls Try.prog 43 #[.int .i64 (IntKind.i64.wrap (n : Int)), .int .u8 128] u fun x w' => x = .returned (.agg #[.int .u16 0, .int .u32 (n : Int), .int .u16 32, .int .u8 18, .int .u8 0, .int .u8 111, .bool false, .int .u8 5, .int .u8 128, .int .u8 255]) ∧ Below u.heap.size u w' from by rw [IntWalk.i64_in _ ⟨by omega, by omega⟩]; exact change_r n 128 hn u))
      obtain ⟨t, b, s⟩ := c
      simp only [Ck.v, Ck.cells] at *
      clear hk hf
      have hmI : ¬ 4294967294 < (n : Int) := by omega
      have ht10 := tdiv_ten h1 (by omega)
      have hw1 : wrap64 ((n : Int) - t / 10) = (n : Int) - t / 10 := by unfold wrap64; omega
      obtain ⟨B, hB⟩ : ∃ B, (n : Int) - t / 10 = B := ⟨_, rfl⟩
      rw [hB] at hw1 ⊢
      replace hB := Lib.hid hB
      clear hmax
      have hs0 : Below w.heap.size w ((w.alloc (.cells (Ck.mk t b s).cells 37)).alloc (.cells Ck.none.cells 37)) := ((Below.refl _ _).alloc (Nat.le_refl _) _).alloc (by simp) _
      have hr0 := CBox.new (w.alloc (.cells (Ck.mk t b s).cells 37)) Ck.none
      have hc0 := (CBox.new w (Ck.mk t b s)).alloc (.cells Ck.none.cells 37)
      have hz0 : (w.alloc (.cells (Ck.mk t b s).cells 37)).heap.size = w.heap.size + 1 := by simp
      have hz1 : ((w.alloc (.cells (Ck.mk t b s).cells 37)).alloc (.cells Ck.none.cells 37)).heap.size = w.heap.size + 2 := by simp
      rw [hz0] at hr0
      simp only [Ck.cells, Ck.none] at hs0 hr0 hz1 hc0
      replace hr0 := Lib.hid hr0
      replace hs0 := Lib.hid hs0
      replace hc0 := Lib.hid hc0
      go_enter Try.func16, Try.ntmps16
      go_wp2_with fail
      refine (hv.out _).mono ?_
      rintro e w1 ⟨rfl, hb1⟩
      have hs1 := Lib.hid (hs0.out.trans (hb1.mono (by omega)))
      have hR := CBox.below hr0.out hb1 (by omega)
      have hC := CBox.below hc0.out hb1 (by omega)
      have c0 : w1.cell? ⟨w.heap.size, 0, none⟩ = some (.int .i64 t) := hC.c0
      have c1 : w1.cell? ⟨w.heap.size, 1, none⟩ = some (.int .i64 b) := hC.c1
      have c2 : w1.cell? ⟨w.heap.size, 2, none⟩ = some (.bool s) := hC.c2
      clear hb1
      have hlt := hC.lt
      have hltR := hR.lt
      replace hC := Lib.hid hC
      replace hR := Lib.hid hR
      go_upto_region 6 with fail
      have hz1 : w.heap.size + 2 ≤ w1.heap.size := by omega
      have HV : RS w (w1.alloc (.cells #[.int .i64 t, .int .i64 B, .bool true] 37)) w1.heap.size ⟨t, b, s⟩ ⟨t, B, true⟩ :=
        ⟨hC.out.alloc _, CBox.new w1 ⟨t, B, true⟩, hs1.out.alloc hs1.out.size _, by omega⟩
      have HR : CBox (w1.alloc (.cells #[.int .i64 t, .int .i64 B, .bool true] 37)) (w.heap.size + 1) Ck.none := hR.out.alloc _
      rw [hB.out]
      clear hs1 hC hR c0 c1 c2 ht10
      generalize w1.alloc (.cells #[.int .i64 t, .int .i64 B, .bool true] 37) = w2 at *
      obtain ⟨F, hF⟩ : ∃ F, w1.heap.size = F := ⟨_, rfl⟩
      rw [hF] at HV ⊢
      clear hF
      have KEEP : Hid (∀ V, RS w V F ⟨t, b, s⟩ ⟨t, B, true⟩ → V.cell? ⟨w.heap.size, 0, none⟩ = some (.int .i64 t) ∧ V.cell? ⟨w.heap.size, 1, none⟩ = some (.int .i64 b) ∧ V.cell? ⟨w.heap.size, 2, none⟩ = some (.bool s) ∧ V.cell? ⟨F, 0, none⟩ = some (.int .i64 t) ∧ V.cell? ⟨F, 1, none⟩ = some (.int .i64 B) ∧ V.cell? ⟨F, 2, none⟩ = some (.bool true)) := Lib.hid fun V hV => ⟨hV.c.c0, hV.c.c1, hV.c.c2, hV.o.c0, hV.o.c1, hV.o.c2⟩
      have HV := HV.drew
      have HR := HR.below (Below.refl _ _).drew HR.lt
      go_region_held3 (fun V => V.cell? ⟨w.heap.size, 0, none⟩ = some (.int .i64 t) ∧ V.cell? ⟨w.heap.size, 1, none⟩ = some (.int .i64 b) ∧ V.cell? ⟨w.heap.size, 2, none⟩ = some (.bool s) ∧ V.cell? ⟨F, 0, none⟩ = some (.int .i64 t) ∧ V.cell? ⟨F, 1, none⟩ = some (.int .i64 B) ∧ V.cell? ⟨F, 2, none⟩ = some (.bool true)) (first | exact KEEP.out _ HV | exact KEEP.out _ (HV.alloc _) | exact KEEP.out _ (HV.set ⟨t, B, true⟩) | exact KEEP.out _ ((HV.set ⟨t, B, true⟩).alloc _) | exact KEEP.out _ ((HV.alloc _).set ⟨t, B, true⟩))
        (first
          | (go_at_call 44; refine (htm.out _).mono ?_; rintro e w3 ⟨rfl, hb3⟩; have HV := HV.below hb3; have HR := HR.below hb3 HR.lt)
          | (go_at_call 43; refine (hch0.out _).mono ?_; rintro e w3 ⟨rfl, hb3⟩; have HV := HV.below hb3; have HR := HR.below hb3 HR.lt)
          | (go_at_call 43; refine (hch1.out _).mono ?_; rintro e w3 ⟨rfl, hb3⟩; have HV := HV.below hb3; have HR := HR.below hb3 HR.lt
             have r0 := HR.c0; have r1 := HR.c1; have r2 := HR.c2; have f0 := HR.fz 0; have f1 := HR.fz 1; have f2 := HR.fz 2
             have HA := HR.alloc (.cells #[.int .u16 0, .int .u32 (m : Int), .int .u16 32, .int .u8 18, .int .u8 0, .int .u8 111, .bool false, .int .u8 5, .int .u8 0, .int .u8 255, .int .u16 0, .int .u32 (n : Int), .int .u16 32, .int .u8 18, .int .u8 0, .int .u8 111, .bool false, .int .u8 5, .int .u8 128, .int .u8 255] 33)
             have r0' := HA.c0; have r1' := HA.c1; have r2' := HA.c2; have f0' := HA.fz 0; have f1' := HA.fz 1; have f2' := HA.fz 2))
      · have hown0 : EOwn w.heap.size (w3.alloc (.cells #[.int .u16 0, .int .u32 (m : Int), .int .u16 32, .int .u8 18, .int .u8 0, .int .u8 111, .bool false, .int .u8 5, .int .u8 0, .int .u8 255, .int .u16 0, .int .u32 (n : Int), .int .u16 32, .int .u8 18, .int .u8 0, .int .u8 111, .bool false, .int .u8 5, .int .u8 128, .int .u8 255] 33)) (.slice (some ⟨w3.heap.size, 0, none⟩) 2 2) [chg 0 m, chg 128 n] :=
          World.ownsRow_lit w3 #[.int .u16 0, .int .u32 (m : Int), .int .u16 32, .int .u8 18, .int .u8 0, .int .u8 111, .bool false, .int .u8 5, .int .u8 0, .int .u8 255, .int .u16 0, .int .u32 (n : Int), .int .u16 32, .int .u8 18, .int .u8 0, .int .u8 111, .bool false, .int .u8 5, .int .u8 128, .int .u8 255] 2 HV.b.size (by unfold maxLen; omega) rfl
        have hown := eown_far' hown0 (set3_grown (w3.alloc (.cells #[.int .u16 0, .int .u32 (m : Int), .int .u16 32, .int .u8 18, .int .u8 0, .int .u8 111, .bool false, .int .u8 5, .int .u8 0, .int .u8 255, .int .u16 0, .int .u32 (n : Int), .int .u16 32, .int .u8 18, .int .u8 0, .int .u8 111, .bool false, .int .u8 5, .int .u8 128, .int .u8 255] 33)) (w.heap.size + 1) ⟨t, B, true⟩) (fun e => by injection e; have := HV.c.lt; have := HR.lt; omega)
        clear hown0
        have hbox := set3_box HA ⟨t, B, true⟩
        have hbel := ((HV.alloc (.cells #[.int .u16 0, .int .u32 (m : Int), .int .u16 32, .int .u8 18, .int .u8 0, .int .u8 111, .bool false, .int .u8 5, .int .u8 0, .int .u8 255, .int .u16 0, .int .u32 (n : Int), .int .u16 32, .int .u8 18, .int .u8 0, .int .u8 111, .bool false, .int .u8 5, .int .u8 128, .int .u8 255] 33)).set ⟨t, B, true⟩).b
        clear r0 r1 r2 f0 f1 f2 r0' r1' r2' f0' f1' f2'
        unfold set3 at hown hbox hbel
        go_wp2_with fail
        exact out_ck3 (r := w.heap.size + 1) Try.results16 rfl rfl rfl rfl hbox ⟨_, rfl, hown, hbel⟩
      · have hbox := (set3_box HR ⟨t, B, true⟩).alloc (.cells #[.int .u16 0, .int .u32 (m : Int), .int .u16 32, .int .u8 18, .int .u8 0, .int .u8 111, .bool false, .int .u8 5, .int .u8 0, .int .u8 255, .int .u16 0, .int .u32 (n : Int), .int .u16 32, .int .u8 18, .int .u8 0, .int .u8 111, .bool false, .int .u8 5, .int .u8 128, .int .u8 255] 33)
        have hbel := ((HV.set ⟨t, B, true⟩).alloc (.cells #[.int .u16 0, .int .u32 (m : Int), .int .u16 32, .int .u8 18, .int .u8 0, .int .u8 111, .bool false, .int .u8 5, .int .u8 0, .int .u8 255, .int .u16 0, .int .u32 (n : Int), .int .u16 32, .int .u8 18, .int .u8 0, .int .u8 111, .bool false, .int .u8 5, .int .u8 128, .int .u8 255] 33)).b
        have hown : EOwn w.heap.size ((set3 w3 (w.heap.size + 1) ⟨t, B, true⟩).alloc (.cells #[.int .u16 0, .int .u32 (m : Int), .int .u16 32, .int .u8 18, .int .u8 0, .int .u8 111, .bool false, .int .u8 5, .int .u8 0, .int .u8 255, .int .u16 0, .int .u32 (n : Int), .int .u16 32, .int .u8 18, .int .u8 0, .int .u8 111, .bool false, .int .u8 5, .int .u8 128, .int .u8 255] 33)) (.slice (some ⟨(set3 w3 (w.heap.size + 1) ⟨t, B, true⟩).heap.size, 0, none⟩) 2 2) [chg 0 m, chg 128 n] :=
          World.ownsRow_lit _ #[.int .u16 0, .int .u32 (m : Int), .int .u16 32, .int .u8 18, .int .u8 0, .int .u8 111, .bool false, .int .u8 5, .int .u8 0, .int .u8 255, .int .u16 0, .int .u32 (n : Int), .int .u16 32, .int .u8 18, .int .u8 0, .int .u8 111, .bool false, .int .u8 5, .int .u8 128, .int .u8 255] 2 (HV.set ⟨t, B, true⟩).b.size (by unfold maxLen; omega) rfl
        clear r0 r1 r2 f0 f1 f2 r0' r1' r2' f0' f1' f2'
        unfold set3 at hown hbox hbel
        simp only [World.size_setCell] at hown
        go_wp2_with fail
        exact out_ck3 (r := w.heap.size + 1) Try.results16 rfl rfl rfl rfl hbox ⟨_, rfl, hown, hbel⟩
end Go.Proofs.Ytncpbgmbneobiaa.V9
