/- The statement EventBytes: which events are valid, their bytes, and what any bytes are decoded to, is what the chapter's reference says, for every event, all bytes and every list of numbers. The tables that the row lists start as the program's text lays them. -/
import Derived.Test.YtgbnigbjnbcfeaaDoorLaidV
import Derived.Test.YtgbnigbjnbcfeaaDoorV7f
import Derived.Test.YtgbnigbjnbcfeaaDoorV7l
import Derived.Test.YtgbnigbjnbcfeaaDoorDe
import Derived.Test.YtgbnigbjnbcfeaaDoorSame
import Derived.Deep.RegionHeld3
namespace Go.Proofs.YtgbnigbjnbcfeaaDoor.eventBytes
open Go.RowKit Go.ChangeShapes Go.WideShapes Go.ChangeAt Go.Proofs.YtgbnigbjnbcfeaaDoor.Mem Go.Proofs.YtgbnigbjnbcfeaaDoor.Law Go.Proofs.YtgbnigbjnbcfeaaDoor.F2p Go.Proofs.YtgbnigbjnbcfeaaDoor.V7 Go.Proofs.YtgbnigbjnbcfeaaDoor.Laid Go.Proofs.YtgbnigbjnbcfeaaDoor.Made Go.Proofs.YtgbnigbjnbcfeaaDoor.De Go.Proofs.YtgbnigbjnbcfeaaDoor.Same
set_option maxRecDepth 100000
set_option maxHeartbeats 4000000

/-- Both sides' bytes of an event. -/
theorem enc_both (y : Ev) (hf : y.Fit) : ∃ (L : List UInt8) (ec : Int),
    (∀ u, Calls Tryd.prog 15 #[y.v] u fun x w' => ∃ A n c, x = .returned (.tuple #[.slice A n c, .int .i64 ec]) ∧ Sl w' A n c L ∧ Below u.heap.size u w') ∧
    (∀ u, Calls Tryd.prog 16 #[y.v] u fun x w' => ∃ A n c, x = .returned (.tuple #[.slice A n c, .int .i64 ec]) ∧ Sl w' A n c L ∧ Below u.heap.size u w') := by
  have hnil : ∀ w : World, Sl w none 0 0 [] := fun w => ⟨rfl, Rd.nil, Nat.le_refl _, by unfold maxLen; omega, fun _ => rfl⟩
  cases hv : vld y
  · exact ⟨[], 1, fun u => (enc_no y hv u).mono (by rintro e w ⟨rfl, hb⟩; exact ⟨none, 0, 0, rfl, hnil w, hb⟩), fun u => (enc_rno y hv u).mono (by rintro e w ⟨rfl, hb⟩; exact ⟨none, 0, 0, rfl, hnil w, hb⟩)⟩
  · exact ⟨encE y, 0, fun u => (enc_p y hf hv u).mono (by rintro e w ⟨v, rfl, ho, hb⟩; obtain ⟨A, n, c, rfl, hs⟩ := Sl.of_own ho; exact ⟨A, n, c, rfl, hs, hb⟩), fun u => (enc_r y hf hv u).mono (by rintro e w ⟨v, rfl, ho, hb⟩; obtain ⟨A, n, c, rfl, hs⟩ := Sl.of_own ho; exact ⟨A, n, c, rfl, hs, hb⟩)⟩
theorem walk (e : Ev) (hf : e.Fit) (A : Option Addr) (n c : Nat) (l : List UInt8) (hn : n = l.length) (hc : n ≤ c) (hm : c ≤ maxLen) (hA : A = none → c = 0)
    (A2 : Option Addr) (n2 c2 : Nat) (l2 : List Int) (hn2 : n2 = l2.length) (hl2 : ∀ x ∈ l2, -9223372036854775808 ≤ x ∧ x ≤ 9223372036854775807) (hc2 : n2 ≤ c2) (hm2 : c2 ≤ maxLen) (_hA2 : A2 = none → c2 = 0) (W : World)
    (hr : Row W.heap.size W A l) (hr2 : IRow W.heap.size W A2 l2) (htab : Tabs W) :
    Calls Tryd.prog 3 #[e.v, .slice A n c, .slice A2 n2 c2] W fun e W' => e = .returned (.bool true) ∧ Below W.heap.size W W' := by
  have hs : Sl W A n c l := ⟨hn, hr, hc, hm, hA⟩
  replace hn2 := Lib.hid hn2
  clear hn
  have haw := Lib.hid (fun u hu => awake_any u hu)
  have hB0 := Box.new W e
  have hs0 : Below W.heap.size W (W.alloc (.cells e.cells 26)) := (Below.refl _ _).alloc (Nat.le_refl _) _
  have hS0 := hs.step hs0
  have hR0 : IRow (W.alloc (.cells e.cells 26)).heap.size (W.alloc (.cells e.cells 26)) A2 l2 := (Rd.below hr2 hs0).more hs0.size
  have hT0 := htab.below hs0
  have hz0 : W.heap.size < (W.alloc (.cells e.cells 26)).heap.size := by simp
  clear htab hr2 hr hs
  obtain ⟨w0, hw0⟩ : ∃ w0, w0 = W.alloc (.cells e.cells 26) := ⟨_, rfl⟩
  rw [← hw0] at hB0 hs0 hS0 hR0 hT0 hz0
  have hev : e.v = e.v := rfl
  by_cases h60 : n ≤ 60 ∧ n2 ≤ 600
  · obtain ⟨h60, h600⟩ := h60
    have g1 : decide (60 < (n : Int)) = false := by simp; omega
    have hL1 := Lib.hid (fun u => by have := lightmade_any A2 n2 c2 u (by unfold maxLen; omega); rw [decide_eq_true h600] at this; exact this)
    have hd1 := Lib.hid (Dz.start A2 n2 c2 l2 w0 hR0 hn2.out hl2 (by omega))
    have hE := Lib.hid (enc_both e hf)
    have hVp := Lib.hid (fun u => valid_p e u)
    have hVr := Lib.hid (fun u => valid_r e u)
    replace hB0 := Lib.hid hB0
    replace hs0 := Lib.hid hs0
    replace hS0 := Lib.hid hS0
    replace hT0 := Lib.hid hT0
    clear hR0
    have hwe : W.alloc (.cells e.cells 26) = w0 := hw0.symm
    clear hw0
    obtain ⟨id, time, gen, st, sn, ty, de, d0, d1, d2⟩ := e
    dsimp only [Ev.v, Ev.cells] at hwe ⊢
    go_enter Tryd.func3, Tryd.ntmps3
    go_wp2_with (go_at_call 10; refine (hL1.out _).mono ?_; rintro e w' ⟨rfl, rfl⟩)
    refine (roll_any A2 n2 c2 _).mono ?_
    rintro e w1 ⟨rfl, hw1⟩
    have D1 : Dz w1 w0.heap.size A2 n2 c2 l2 := by rw [hw1]; exact hd1.out
    have hb1 : Below w0.heap.size w0 w1 := by rw [hw1]; exact (Below.refl _ _).alloc (Nat.le_refl _) _
    clear hw1 hd1 hwe
    obtain ⟨g, hg⟩ : ∃ g, g = w0.heap.size := ⟨_, rfl⟩
    rw [← hg] at D1 hb1 ⊢
    replace hg := Lib.hid hg
    go_wp2_with fail
    refine (event_any D1).mono ?_
    rintro e w2 ⟨x, rfl, okx, D2, hg2⟩
    have hb2 : Below g w0 w2 := hb1.trans (grown_lo hg2 (Nat.le_refl _) D1.lt)
    have hgl := D2.lt
    clear hg2 D1 hb1
    go_wp2_with (refine wpList_store_box rfl (.tmp 8) (.tmp 35) rfl w2.heap.size x Ev.none rfl rfl (Box.new w2 Ev.none) ?_; intro w3 hX3 hg3)
    have D3 : Dz w3 g A2 n2 c2 l2 := (D2.below ((Below.refl _ _).alloc (Nat.le_refl _) (.cells Ev.none.cells 26)) hgl).grown hg3 (fun e => by injection e; omega) (fun k hk => by injection hk; omega)
    have hb3 := (hb2.alloc (Nat.le_trans (Nat.le_of_eq hg.out) hb2.size) (.cells Ev.none.cells 26)).grown hg3 (by simp; omega) (fun k hk => by injection hk; omega)
    obtain ⟨q, hq⟩ : ∃ q, q = w2.heap.size := ⟨_, rfl⟩
    rw [← hq] at hX3 hgl ⊢
    clear D2 hb2 hg3 hq
    refine ((D3.next 65536 (by omega) (by omega))).mono ?_
    rintro e w4 ⟨r, hr, rfl, D4, hg4⟩
    have X4 := hX3.grown hg4 (fun e => by injection e; omega)
    have hb4 : Below g w0 w4 := hb3.trans (grown_lo hg4 (Nat.le_refl _) D3.lt)
    have hql := X4.lt
    clear hX3 D3 hb3 hg4
    have m1 : IntKind.u16.wrap (r : Int) = (r : Int) := IntWalk.u16_in _ ⟨by omega, by omega⟩
    have z4 := X4.fz 0
    have c4 := X4.c0
    have hq5 := set_grown w4 q 0 (.int .u16 (r : Int))
    have hgq : g < q := hgl
    have hWg : W.heap.size < g := by rw [hg.out]; exact hz0
    have B5 := Lib.hid ((hB0.out.below hb4 hWg).grown hq5 (fun e => by injection e; omega))
    have fx := okx.fit
    have vx := okx.vld
    clear okx
    obtain ⟨xid, xtime, xgen, xst, xsn, xty, xde, xd0, xd1, xd2⟩ := x
    have X5 := Lib.hid (X4.set 0 (.int .u16 (r : Int)) ⟨r, xtime, xgen, xst, xsn, xty, xde, xd0, xd1, xd2⟩ rfl)
    have fy : (⟨r, xtime, xgen, xst, xsn, xty, xde, xd0, xd1, xd2⟩ : Ev).Fit := ⟨hr, fx.time, fx.gen, fx.st, fx.sn, fx.ty, fx.d0, fx.d1, fx.d2⟩
    have D5 := D4.grown hq5 (fun e => by injection e; omega) (fun k hk => by injection hk; omega)
    have hb5 := hb4.grown hq5 (Nat.le_trans (Nat.le_of_eq hg.out) hb4.size) (fun k hk => by injection hk; omega)
    have hql5 : q < (w4.setCell ⟨q, 0, none⟩ (.int .u16 (r : Int))).heap.size := by simp; exact hql
    clear X4 hql D4 hb4 hq5
    replace fx := Lib.hid fx
    replace fy := Lib.hid fy
    replace vx := Lib.hid vx
    replace D5 := Lib.hid D5
    replace hb5 := Lib.hid hb5
    go_wp2_with (refine wpList_load_box rfl (.tmp 3) rfl W.heap.size _ rfl B5.out ?_; refine Hid.out ?_)
    generalize w4.setCell ⟨q, 0, none⟩ (.int .u16 (r : Int)) = w5 at *
    refine Lib.hid ?_
    go_wp2_with (refine wpList_load_box rfl (.tmp 8) rfl q _ rfl X5.out ?_; refine Hid.out ?_)
    dsimp only [Ev.v, Ev.cells]
    refine Lib.hid ?_
    go_wp2_with fail
    have hbo : Below w5.heap.size w5 (w5.alloc (.cells #[.int .u16 (id : Int), .int .u32 (time : Int), .int .u16 (gen : Int), .int .u8 (st : Int), .int .u8 (sn : Int), .int .u8 (ty : Int), .bool de, .int .u8 (d0 : Int), .int .u8 (d1 : Int), .int .u8 (d2 : Int), .int .u16 (r : Int), .int .u32 (xtime : Int), .int .u16 (xgen : Int), .int .u8 (xst : Int), .int .u8 (xsn : Int), .int .u8 (xty : Int), .bool xde, .int .u8 (xd0 : Int), .int .u8 (xd1 : Int), .int .u8 (xd2 : Int)] 26)) := (Below.refl _ _).alloc (Nat.le_refl _) _
    have hrow5 := Lib.hid (heap_alloc_new w5 (.cells #[.int .u16 (id : Int), .int .u32 (time : Int), .int .u16 (gen : Int), .int .u8 (st : Int), .int .u8 (sn : Int), .int .u8 (ty : Int), .bool de, .int .u8 (d0 : Int), .int .u8 (d1 : Int), .int .u8 (d2 : Int), .int .u16 (r : Int), .int .u32 (xtime : Int), .int .u16 (xgen : Int), .int .u8 (xst : Int), .int .u8 (xsn : Int), .int .u8 (xty : Int), .bool xde, .int .u8 (xd0 : Int), .int .u8 (xd1 : Int), .int .u8 (xd2 : Int)] 26))
    have B6 := Lib.hid (B5.out.alloc (.cells #[.int .u16 (id : Int), .int .u32 (time : Int), .int .u16 (gen : Int), .int .u8 (st : Int), .int .u8 (sn : Int), .int .u8 (ty : Int), .bool de, .int .u8 (d0 : Int), .int .u8 (d1 : Int), .int .u8 (d2 : Int), .int .u16 (r : Int), .int .u32 (xtime : Int), .int .u16 (xgen : Int), .int .u8 (xst : Int), .int .u8 (xsn : Int), .int .u8 (xty : Int), .bool xde, .int .u8 (xd0 : Int), .int .u8 (xd1 : Int), .int .u8 (xd2 : Int)] 26))
    have X6 := Lib.hid (X5.out.alloc (.cells #[.int .u16 (id : Int), .int .u32 (time : Int), .int .u16 (gen : Int), .int .u8 (st : Int), .int .u8 (sn : Int), .int .u8 (ty : Int), .bool de, .int .u8 (d0 : Int), .int .u8 (d1 : Int), .int .u8 (d2 : Int), .int .u16 (r : Int), .int .u32 (xtime : Int), .int .u16 (xgen : Int), .int .u8 (xst : Int), .int .u8 (xsn : Int), .int .u8 (xty : Int), .bool xde, .int .u8 (xd0 : Int), .int .u8 (xd1 : Int), .int .u8 (xd2 : Int)] 26))
    have D6 := Lib.hid (D5.out.below hbo (by omega))
    have hb6 := Lib.hid (hb5.out.alloc (Nat.le_trans (Nat.le_of_eq hg.out) hb5.out.size) (.cells #[.int .u16 (id : Int), .int .u32 (time : Int), .int .u16 (gen : Int), .int .u8 (st : Int), .int .u8 (sn : Int), .int .u8 (ty : Int), .bool de, .int .u8 (d0 : Int), .int .u8 (d1 : Int), .int .u8 (d2 : Int), .int .u16 (r : Int), .int .u32 (xtime : Int), .int .u16 (xgen : Int), .int .u8 (xst : Int), .int .u8 (xsn : Int), .int .u8 (xty : Int), .bool xde, .int .u8 (xd0 : Int), .int .u8 (xd1 : Int), .int .u8 (xd2 : Int)] 26))
    have hF6 : w5.heap.size < (w5.alloc (.cells #[.int .u16 (id : Int), .int .u32 (time : Int), .int .u16 (gen : Int), .int .u8 (st : Int), .int .u8 (sn : Int), .int .u8 (ty : Int), .bool de, .int .u8 (d0 : Int), .int .u8 (d1 : Int), .int .u8 (d2 : Int), .int .u16 (r : Int), .int .u32 (xtime : Int), .int .u16 (xgen : Int), .int .u8 (xst : Int), .int .u8 (xsn : Int), .int .u8 (xty : Int), .bool xde, .int .u8 (xd0 : Int), .int .u8 (xd1 : Int), .int .u8 (xd2 : Int)] 26)).heap.size := by simp
    clear B5 X5 D5 hbo
    generalize w5.alloc (.cells #[.int .u16 (id : Int), .int .u32 (time : Int), .int .u16 (gen : Int), .int .u8 (st : Int), .int .u8 (sn : Int), .int .u8 (ty : Int), .bool de, .int .u8 (d0 : Int), .int .u8 (d1 : Int), .int .u8 (d2 : Int), .int .u16 (r : Int), .int .u32 (xtime : Int), .int .u16 (xgen : Int), .int .u8 (xst : Int), .int .u8 (xsn : Int), .int .u8 (xty : Int), .bool xde, .int .u8 (xd0 : Int), .int .u8 (xd1 : Int), .int .u8 (xd2 : Int)] 26) = w6 at *
    generalize w5.heap.size = F at *
    clear hb5
    obtain ⟨L1, ec1, he1, hr1⟩ := hE.out
    obtain ⟨L2, ec2, he2, hr2⟩ := enc_both ⟨r, xtime, xgen, xst, xsn, xty, xde, xd0, xd1, xd2⟩ fy.out
    replace he1 := Lib.hid he1
    replace hr1 := Lib.hid hr1
    replace he2 := Lib.hid he2
    replace hr2 := Lib.hid hr2
    have hVp2 := Lib.hid (fun u => valid_p ⟨r, xtime, xgen, xst, xsn, xty, xde, xd0, xd1, xd2⟩ u)
    have hVr2 := Lib.hid (fun u => valid_r ⟨r, xtime, xgen, xst, xsn, xty, xde, xd0, xd1, xd2⟩ u)
    obtain ⟨vb1, hvb1⟩ : ∃ vb1, vb1 = vld ⟨id, time, gen, st, sn, ty, de, d0, d1, d2⟩ := ⟨_, rfl⟩
    obtain ⟨vb2, hvb2⟩ : ∃ vb2, vb2 = vld ⟨r, xtime, xgen, xst, xsn, xty, xde, xd0, xd1, xd2⟩ := ⟨_, rfl⟩
    rw [← hvb1] at hVp hVr
    rw [← hvb2] at hVp2 hVr2
    clear hvb1 hvb2 hE
    go_loopw [44] (fun i wr => ∃ j : Nat, j ≤ 2 ∧ i = .int .i64 (j : Int) ∧ Below w6.heap.size w6 wr) (fun i _ => 2 - (intOf i).toNat)
    case atStart => exact ⟨0, Nat.zero_le _, rfl, Below.refl _ _⟩
    case round =>
      obtain ⟨j, hj, rfl, hbel⟩ := hrel
      match j, hj with
      | 0, _ =>
        as_aux_lemma =>
        have hrow := (hbel.block F hF6).trans hrow5.out
        have kc0 := (cell_of_row wr F 0 _ _ _ hrow).trans (rfl : _ = some _)
        have kc1 := (cell_of_row wr F 1 _ _ _ hrow).trans (rfl : _ = some _)
        have kc2 := (cell_of_row wr F 2 _ _ _ hrow).trans (rfl : _ = some _)
        have kc3 := (cell_of_row wr F 3 _ _ _ hrow).trans (rfl : _ = some _)
        have kc4 := (cell_of_row wr F 4 _ _ _ hrow).trans (rfl : _ = some _)
        have kc5 := (cell_of_row wr F 5 _ _ _ hrow).trans (rfl : _ = some _)
        have kc6 := (cell_of_row wr F 6 _ _ _ hrow).trans (rfl : _ = some _)
        have kc7 := (cell_of_row wr F 7 _ _ _ hrow).trans (rfl : _ = some _)
        have kc8 := (cell_of_row wr F 8 _ _ _ hrow).trans (rfl : _ = some _)
        have kc9 := (cell_of_row wr F 9 _ _ _ hrow).trans (rfl : _ = some _)
        clear hrow
        replace hbel := Lib.hid hbel
        go_wp2_with fail
        have hY := Lib.hid (Box.new wr ⟨id, time, gen, st, sn, ty, de, d0, d1, d2⟩)
        refine (he1.out _).mono ?_
        rintro e u1 ⟨A3, n3, cp3, rfl, s3, hk1⟩
        have Y1 := hY.out.below hk1 (by simp)
        have hq1 := Y1.lt
        have hk1 := ((Below.refl wr.heap.size wr).alloc (Nat.le_refl _) (.cells (Ev.cells ⟨id, time, gen, st, sn, ty, de, d0, d1, d2⟩) 26)).trans (hk1.mono (by simp))
        replace Y1 := Lib.hid Y1
        clear hY kc0 kc1 kc2 kc3 kc4 kc5 kc6 kc7 kc8 kc9
        go_wp2_with (refine wpList_load_box rfl (.tmp 10) rfl wr.heap.size _ rfl Y1.out ?_)
        refine (hr1.out _).mono ?_
        rintro e u2 ⟨A4, n4, cp4, rfl, s4, hk2⟩
        have Y2 := Lib.hid (Y1.out.below hk2 hq1)
        have hq2 := Y2.out.lt
        have s3' := Lib.hid (s3.step hk2)
        have s4' := Lib.hid s4
        have hk2' := Lib.hid (hk1.trans (hk2.mono hk1.size))
        clear Y1 hq1 hk1 s3 s4 hk2
        obtain ⟨q1, hq1e⟩ : ∃ q1, q1 = wr.heap.size := ⟨_, rfl⟩
        rw [← hq1e] at Y2 hq2 ⊢
        clear hq1e
        have KEEP : Hid (∀ V, Below u2.heap.size u2 V → V.cell? ⟨q1, 0, none⟩ = some (.int .u16 (id : Int)) ∧ V.cell? ⟨q1, 1, none⟩ = some (.int .u32 (time : Int)) ∧ V.cell? ⟨q1, 2, none⟩ = some (.int .u16 (gen : Int)) ∧ V.cell? ⟨q1, 3, none⟩ = some (.int .u8 (st : Int)) ∧ V.cell? ⟨q1, 4, none⟩ = some (.int .u8 (sn : Int)) ∧ V.cell? ⟨q1, 5, none⟩ = some (.int .u8 (ty : Int)) ∧ V.cell? ⟨q1, 6, none⟩ = some (.bool de) ∧ V.cell? ⟨q1, 7, none⟩ = some (.int .u8 (d0 : Int)) ∧ V.cell? ⟨q1, 8, none⟩ = some (.int .u8 (d1 : Int)) ∧ V.cell? ⟨q1, 9, none⟩ = some (.int .u8 (d2 : Int)) ∧ Below u2.heap.size u2 V) := Lib.hid fun V hV => ⟨(Y2.out.below hV hq2).c0, (Y2.out.below hV hq2).c1, (Y2.out.below hV hq2).c2, (Y2.out.below hV hq2).c3, (Y2.out.below hV hq2).c4, (Y2.out.below hV hq2).c5, (Y2.out.below hV hq2).c6, (Y2.out.below hV hq2).c7, (Y2.out.below hV hq2).c8, (Y2.out.below hV hq2).c9, hV⟩
        have HV : Below u2.heap.size u2 u2.drew := (Below.refl _ _).drew
        clear Y2
        go_wp2_with fail
        go_region_held3 (fun V => V.cell? ⟨q1, 0, none⟩ = some (.int .u16 (id : Int)) ∧ V.cell? ⟨q1, 1, none⟩ = some (.int .u32 (time : Int)) ∧ V.cell? ⟨q1, 2, none⟩ = some (.int .u16 (gen : Int)) ∧ V.cell? ⟨q1, 3, none⟩ = some (.int .u8 (st : Int)) ∧ V.cell? ⟨q1, 4, none⟩ = some (.int .u8 (sn : Int)) ∧ V.cell? ⟨q1, 5, none⟩ = some (.int .u8 (ty : Int)) ∧ V.cell? ⟨q1, 6, none⟩ = some (.bool de) ∧ V.cell? ⟨q1, 7, none⟩ = some (.int .u8 (d0 : Int)) ∧ V.cell? ⟨q1, 8, none⟩ = some (.int .u8 (d1 : Int)) ∧ V.cell? ⟨q1, 9, none⟩ = some (.int .u8 (d2 : Int)) ∧ Below u2.heap.size u2 V) (exact KEEP.out _ HV)
          (first
            | (go_at_call 17; go_loud (refine (hVp.out _).mono ?_); rintro e v2 ⟨rfl, hk3⟩; have HV := HV.trans (hk3.mono HV.size))
            | (go_at_call 18; go_loud (refine (hVr.out _).mono ?_); rintro e v2 ⟨rfl, hk3⟩; have HV := HV.trans (hk3.mono HV.size))
            | (go_at_call 19; go_loud (refine (same_yes (s3'.out.step HV) (s4'.out.step HV)).mono ?_); rintro e v2 ⟨rfl, hk3⟩; have HV := HV.trans (hk3.mono HV.size)))
        all_goals
          go_wp2_with fail
          refine ⟨⟨1, by omega, rfl, hbel.out.trans ((hk2'.out.trans (HV.mono hk2'.out.size)).mono hbel.out.size)⟩, by simp [intOf]⟩
      | 1, _ =>
        as_aux_lemma =>
        have hrow := (hbel.block F hF6).trans hrow5.out
        have kc0 := (cell_of_row wr F 10 _ _ _ hrow).trans (rfl : _ = some _)
        have kc1 := (cell_of_row wr F 11 _ _ _ hrow).trans (rfl : _ = some _)
        have kc2 := (cell_of_row wr F 12 _ _ _ hrow).trans (rfl : _ = some _)
        have kc3 := (cell_of_row wr F 13 _ _ _ hrow).trans (rfl : _ = some _)
        have kc4 := (cell_of_row wr F 14 _ _ _ hrow).trans (rfl : _ = some _)
        have kc5 := (cell_of_row wr F 15 _ _ _ hrow).trans (rfl : _ = some _)
        have kc6 := (cell_of_row wr F 16 _ _ _ hrow).trans (rfl : _ = some _)
        have kc7 := (cell_of_row wr F 17 _ _ _ hrow).trans (rfl : _ = some _)
        have kc8 := (cell_of_row wr F 18 _ _ _ hrow).trans (rfl : _ = some _)
        have kc9 := (cell_of_row wr F 19 _ _ _ hrow).trans (rfl : _ = some _)
        clear hrow
        replace hbel := Lib.hid hbel
        go_wp2_with fail
        have hY := Lib.hid (Box.new wr ⟨r, xtime, xgen, xst, xsn, xty, xde, xd0, xd1, xd2⟩)
        refine (he2.out _).mono ?_
        rintro e u1 ⟨A3, n3, cp3, rfl, s3, hk1⟩
        have Y1 := hY.out.below hk1 (by simp)
        have hq1 := Y1.lt
        have hk1 := ((Below.refl wr.heap.size wr).alloc (Nat.le_refl _) (.cells (Ev.cells ⟨r, xtime, xgen, xst, xsn, xty, xde, xd0, xd1, xd2⟩) 26)).trans (hk1.mono (by simp))
        replace Y1 := Lib.hid Y1
        clear hY kc0 kc1 kc2 kc3 kc4 kc5 kc6 kc7 kc8 kc9
        go_wp2_with (refine wpList_load_box rfl (.tmp 10) rfl wr.heap.size _ rfl Y1.out ?_)
        refine (hr2.out _).mono ?_
        rintro e u2 ⟨A4, n4, cp4, rfl, s4, hk2⟩
        have Y2 := Lib.hid (Y1.out.below hk2 hq1)
        have hq2 := Y2.out.lt
        have s3' := Lib.hid (s3.step hk2)
        have s4' := Lib.hid s4
        have hk2' := Lib.hid (hk1.trans (hk2.mono hk1.size))
        clear Y1 hq1 hk1 s3 s4 hk2
        obtain ⟨q1, hq1e⟩ : ∃ q1, q1 = wr.heap.size := ⟨_, rfl⟩
        rw [← hq1e] at Y2 hq2 ⊢
        clear hq1e
        have KEEP : Hid (∀ V, Below u2.heap.size u2 V → V.cell? ⟨q1, 0, none⟩ = some (.int .u16 (r : Int)) ∧ V.cell? ⟨q1, 1, none⟩ = some (.int .u32 (xtime : Int)) ∧ V.cell? ⟨q1, 2, none⟩ = some (.int .u16 (xgen : Int)) ∧ V.cell? ⟨q1, 3, none⟩ = some (.int .u8 (xst : Int)) ∧ V.cell? ⟨q1, 4, none⟩ = some (.int .u8 (xsn : Int)) ∧ V.cell? ⟨q1, 5, none⟩ = some (.int .u8 (xty : Int)) ∧ V.cell? ⟨q1, 6, none⟩ = some (.bool xde) ∧ V.cell? ⟨q1, 7, none⟩ = some (.int .u8 (xd0 : Int)) ∧ V.cell? ⟨q1, 8, none⟩ = some (.int .u8 (xd1 : Int)) ∧ V.cell? ⟨q1, 9, none⟩ = some (.int .u8 (xd2 : Int)) ∧ Below u2.heap.size u2 V) := Lib.hid fun V hV => ⟨(Y2.out.below hV hq2).c0, (Y2.out.below hV hq2).c1, (Y2.out.below hV hq2).c2, (Y2.out.below hV hq2).c3, (Y2.out.below hV hq2).c4, (Y2.out.below hV hq2).c5, (Y2.out.below hV hq2).c6, (Y2.out.below hV hq2).c7, (Y2.out.below hV hq2).c8, (Y2.out.below hV hq2).c9, hV⟩
        have HV : Below u2.heap.size u2 u2.drew := (Below.refl _ _).drew
        clear Y2
        go_wp2_with fail
        go_region_held3 (fun V => V.cell? ⟨q1, 0, none⟩ = some (.int .u16 (r : Int)) ∧ V.cell? ⟨q1, 1, none⟩ = some (.int .u32 (xtime : Int)) ∧ V.cell? ⟨q1, 2, none⟩ = some (.int .u16 (xgen : Int)) ∧ V.cell? ⟨q1, 3, none⟩ = some (.int .u8 (xst : Int)) ∧ V.cell? ⟨q1, 4, none⟩ = some (.int .u8 (xsn : Int)) ∧ V.cell? ⟨q1, 5, none⟩ = some (.int .u8 (xty : Int)) ∧ V.cell? ⟨q1, 6, none⟩ = some (.bool xde) ∧ V.cell? ⟨q1, 7, none⟩ = some (.int .u8 (xd0 : Int)) ∧ V.cell? ⟨q1, 8, none⟩ = some (.int .u8 (xd1 : Int)) ∧ V.cell? ⟨q1, 9, none⟩ = some (.int .u8 (xd2 : Int)) ∧ Below u2.heap.size u2 V) (exact KEEP.out _ HV)
          (first
            | (go_at_call 17; go_loud (refine (hVp2.out _).mono ?_); rintro e v2 ⟨rfl, hk3⟩; have HV := HV.trans (hk3.mono HV.size))
            | (go_at_call 18; go_loud (refine (hVr2.out _).mono ?_); rintro e v2 ⟨rfl, hk3⟩; have HV := HV.trans (hk3.mono HV.size))
            | (go_at_call 19; go_loud (refine (same_yes (s3'.out.step HV) (s4'.out.step HV)).mono ?_); rintro e v2 ⟨rfl, hk3⟩; have HV := HV.trans (hk3.mono HV.size)))
        all_goals
          go_wp2_with fail
          refine ⟨⟨2, by omega, rfl, hbel.out.trans ((hk2'.out.trans (HV.mono hk2'.out.size)).mono hbel.out.size)⟩, by simp [intOf]⟩
      | 2, _ =>
        as_aux_lemma =>
        have hg6 : g ≤ w6.heap.size := by have := D6.out.lt; omega
        have hq6 : q < w6.heap.size := X6.out.lt
        have XR := X6.out.below hbel hq6
        have DR := D6.out.below hbel (by have := D6.out.lt; omega)
        have hbR := hb6.out.trans (hbel.mono hg6)
        have hkc := XR.c0
        have hkf := XR.fz 0
        have hst := set_grown wr q 0 (.int .u16 1)
        have Z7 := Lib.hid (XR.set 0 (.int .u16 1) ⟨1, xtime, xgen, xst, xsn, xty, xde, xd0, xd1, xd2⟩ rfl)
        have D7 := Lib.hid (DR.grown hst (fun e => by injection e; omega) (fun k hk => by injection hk; omega))
        have hb7 := Lib.hid (hbR.grown hst (Nat.le_trans (Nat.le_of_eq hg.out) hbR.size) (fun k hk => by injection hk; omega))
        have fz : (⟨1, xtime, xgen, xst, xsn, xty, xde, xd0, xd1, xd2⟩ : Ev).Fit := ⟨by show 1 < 65536; omega, fx.out.time, fx.out.gen, fx.out.st, fx.out.sn, fx.out.ty, fx.out.d0, fx.out.d1, fx.out.d2⟩
        have vz : V7.vld ⟨1, xtime, xgen, xst, xsn, xty, xde, xd0, xd1, xd2⟩ = true := by
          have := vx.out
          simp only [V7.vld, Bool.and_eq_true, decide_eq_true_eq] at this ⊢
          exact ⟨⟨by omega, this.1.2⟩, this.2⟩
        have hez := Lib.hid (fun u => enc_r ⟨1, xtime, xgen, xst, xsn, xty, xde, xd0, xd1, xd2⟩ fz vz u)
        have hzl : (encE ⟨1, xtime, xgen, xst, xsn, xty, xde, xd0, xd1, xd2⟩).length = 16 := rfl
        obtain ⟨L, hL⟩ : ∃ L, L = encE ⟨1, xtime, xgen, xst, xsn, xty, xde, xd0, xd1, xd2⟩ := ⟨_, rfl⟩
        rw [← hL] at hez hzl
        have hzl' := Lib.hid hzl
        clear XR DR hbR hst fz vz hL hzl hbel he1 he2 hr1 hr2 hVp hVr hVp2 hVr2 B6 X6 D6 hrow5
        have hq7 : q < (wr.setCell ⟨q, 0, none⟩ (.int .u16 1)).heap.size := Z7.out.lt
        go_wp2_with (refine wpList_load_box rfl (.tmp 8) rfl q _ rfl Z7.out ?_)
        refine (hez.out _).mono ?_
        rintro e w8 ⟨v, rfl, oz, hk8⟩
        obtain ⟨Az, nz, cz, rfl, sz⟩ := Sl.of_own oz
        have hbb := own_some oz (by rw [hzl'.out]; omega)
        obtain ⟨bb, rfl, hbb1, hbb2⟩ := hbb
        obtain rfl : nz = 16 := by have := sz.len; rw [hzl'.out] at this; exact this
        have hgq7 : g < (wr.setCell ⟨q, 0, none⟩ (.int .u16 1)).heap.size := D7.out.lt
        have D8 := D7.out.below hk8 hgq7
        have hb8 := hb7.out.trans (hk8.mono (Nat.le_of_lt hgq7))
        have hgb : g < bb := Nat.lt_of_lt_of_le hgq7 hbb1
        have hcz : 16 ≤ cz := sz.cap
        have hcm : cz ≤ maxLen := sz.max
        unfold maxLen at hcm
        obtain ⟨K, hK⟩ : ∃ K, K = (wr.setCell ⟨q, 0, none⟩ (.int .u16 1)).heap.size := ⟨_, rfl⟩
        rw [← hK] at oz hbb1 hgq7 hq7
        clear hK hk8 sz Z7 D7 hb7 hez hkc hkf
        have oz := Lib.hid oz
        replace hb8 := Lib.hid hb8
        go_wp2_with fail
        refine (D8.next 16 (by omega) (by omega)).mono ?_
        rintro e w9 ⟨r2, hr2, rfl, D9, hg9⟩
        have oz9 := Lib.hid (own_kept oz.out hg9 hgq7)
        have hb9 := Lib.hid (hb8.out.trans (grown_lo hg9 (Nat.le_refl _) D8.lt))
        have hbb9 : bb < w9.heap.size := Nat.lt_of_lt_of_le hbb2 hg9.size
        clear D8 oz hb8 hg9 hbb2
        go_wp2_with fail
        refine D9.byte.mono ?_
        rintro e wa ⟨xb, rfl, D10, hg10⟩
        have oz10 := own_kept oz9.out hg10 hgq7
        have hb10 := hb9.out.trans (grown_lo hg10 (Nat.le_refl _) D9.lt)
        have hbb10 : bb < wa.heap.size := Nat.lt_of_lt_of_le hbb9 hg10.size
        clear D9 oz9 hb9 hg10 hbb9
        have hr2l : r2 < L.length := by rw [hzl'.out]; exact hr2
        have t0 : (0 : Int) ≤ (r2 : Int) := by omega
        have t1 : (r2 : Int) < 16 := by omega
        have oz10' : Own K wa (.slice (some ⟨bb, 0, none⟩) L.length cz) L := by rw [hzl'.out]; exact oz10
        obtain ⟨xo, tc⟩ : ∃ xo, wa.cell? ⟨bb, r2, none⟩ = some (.int .u8 xo) := ⟨_, own_cell oz10' rfl hr2l⟩
        have tf := own_frozen oz10' rfl r2
        obtain ⟨oz11, hst⟩ := own_store oz10' rfl r2 xb
        rw [show bv xb = .int .u8 (xb.toNat : Int) from rfl] at oz11 hst
        have D11 := D10.grown hst (fun e => by injection e; omega) (fun k hk => by injection hk; omega)
        have hb11 := hb10.grown hst (Nat.le_trans (Nat.le_of_eq hg.out) hb10.size) (fun k hk => by injection hk; omega)
        have hbb11 : bb < (wa.setCell ⟨bb, r2, none⟩ (.int .u8 (xb.toNat : Int))).heap.size := by simp; exact hbb10
        clear oz10 oz10' hst D10 hb10 hbb10
        obtain ⟨M, hM⟩ : ∃ M, M = L.set r2 xb := ⟨_, rfl⟩
        have hMl : M.length = 16 := by rw [hM, List.length_set]; exact hzl'.out
        rw [← hM, hzl'.out] at oz11
        clear hM hr2l
        replace hMl := Lib.hid hMl
        replace oz11 := Lib.hid oz11
        replace D11 := Lib.hid D11
        replace hb11 := Lib.hid hb11
        clear hzl'
        go_wp2_with fail
        generalize wa.setCell ⟨bb, r2, none⟩ (.int .u8 (xb.toNat : Int)) = wb at *
        clear tc tf
        obtain ⟨i0, hi, hz0', hz1, hz2⟩ := info_parts info5
        have D := (⟨D11.out.len, D11.out.bnd, D11.out.few, D11.out.row, D11.out.at_⟩ : Dz wb.drew g A2 n2 c2 l2)
        have OB : Own K wb.drew (.slice (some ⟨bb, 0, none⟩) 16 cz) M := World.ownsRow.drew oz11.out
        have HV : Below g w0 wb.drew := hb11.out.drew
        have hsz : bb < wb.drew.heap.size := hbb11
        have hSb := Lib.hid (fun u (hu : Below g w0 u) => (⟨hS0.out.len, Rd.more (Rd.below (Rd.more hS0.out.row (Nat.le_of_eq hg.out.symm)) hu) (Nat.le_trans (Nat.le_of_eq hg.out) hu.size), hS0.out.cap, hS0.out.max, hS0.out.nil⟩ : Sl u A n c l))
        have hn60 : n ≤ 60 := h60
        clear D11 oz11 hb11 hbb11 hF6 hr2
        have HN17 : Hid (∀ u, Dz u g A2 n2 c2 l2 → Calls Tryd.prog 14 #[.pointer (some ⟨g, 0, none⟩), .int .i64 17] u fun e w' => ∃ r : Nat, r < 17 ∧ e = .returned (.int .i64 (r : Int)) ∧ Dz w' g A2 n2 c2 l2 ∧ u.grownBy w' (some g)) := Lib.hid fun u h => h.next 17 (by omega) (by omega)
        go_region_law (first
          | (go_simp; go_at_call 14; go_loud (with_reducible refine (HN17.out _ D).mono ?_); go_loud (rintro e w12 ⟨r3, hr3, rfl, DN, hgN⟩); go_loud (have D := DN); go_loud (have OB := own_kept OB hgN hgq7); go_loud (have HV := HV.trans (grown_lo hgN (Nat.le_refl _) (by omega))); go_loud (have hsz : bb < w12.heap.size := (Nat.lt_of_lt_of_le hsz hgN.size)); go_loud (have u1 : (0 : Int) ≤ (r3 : Int) := by omega); go_loud (have u2 : (r3 : Int) ≤ (cz : Int) := by omega))
          | (go_loud (refine step_append_rd _ rfl (.const (.slice none 0 0)) (.tmp 93) 27 rfl (bb + 1) 5 i0 _ 1 Tryd.underlying27 hi hz0' hz1 hz2 rfl (.slice none 0 0) 0 [] rfl ⟨by simp, .inl ⟨rfl, rfl⟩⟩ _ (some ⟨bb, 0, none⟩) 16 cz (bvs M) rfl (by rw [len_bvs]; exact hMl.out) (sl_own OB (by rw [hMl.out])).row (fun h => by cases h) (bvs_one _) (by unfold maxLen; omega) (by omega) hsz ?_); intro v1 w13 ho1 hg1; have O1 : Own (bb + 1) w13 v1 M := own_of ho1 (by rw [hMl.out]) rfl; have hbz := below_grown (base := _) (Below.refl _ _) (⟨by simp, .inl ⟨rfl, rfl⟩⟩ : World.ownsRow _ _ 5 1 (.slice none 0 0) 0 []) hg1 (Nat.le_refl _); have OB := OB.below hbz (Nat.le_refl _); have D := D.below hbz D.lt; have HV := HV.trans (hbz.mono (by omega)); have hsz := Nat.lt_of_lt_of_le hsz hbz.size; obtain ⟨A1, n1, cp1, rfl, s1⟩ := Sl.of_own O1; obtain ⟨g1, rfl, hg1a, hg1b⟩ := own_some O1 (by rw [hMl.out]; omega); clear s1 ho1 hg1 hbz)
          | (go_loud (refine step_append_rd _ rfl (.tmp 94) (.tmp 95) 27 rfl (bb + 1) 5 i0 _ 1 Tryd.underlying27 hi hz0' hz1 hz2 rfl _ M.length (bvs M) rfl O1 _ A n c (bvs l) rfl (by rw [len_bvs]; exact (hSb.out _ HV).len.symm) (hSb.out _ HV).row (hSb.out _ HV).nil (bvs_one _) (by unfold maxLen; rw [hMl.out]; omega) (by rw [hMl.out]; omega) hsz ?_); intro v2 w14 ho2 hg2; have O2 : Own (bb + 1) w14 v2 (M ++ l) := own_of ho2 (by rw [List.length_append, (hSb.out _ HV).len]) (bvs_app _ _).symm; have hgn2 : World.grownBy _ w14 (some g1) := hg2; have OB := own_far OB hgn2 (by omega); have D := D.grown hgn2 (fun e => by injection e; omega) (fun k hk => by injection hk; omega); have HV := HV.grown hgn2 (by omega) (fun k hk => by injection hk; omega); have hsz := Nat.lt_of_lt_of_le hsz hgn2.size; obtain ⟨A5, n5, cp5, rfl, s5⟩ := Sl.of_own O2; clear ho2 hg2 hgn2 O1))
        have S1 := hSb.out _ HV
        have S2 : Sl w14 (some ⟨bb, 0, none⟩) 16 cz M := sl_own OB (by rw [hMl.out])
        have S3 : Sl w14 (some ⟨bb, 0, none⟩) r3 cz (M.take r3) := ⟨by rw [List.length_take, hMl.out]; omega, row_take S2.row r3, by omega, S2.max, S2.nil⟩
        have hgw : g ≤ w14.heap.size := by omega
        have hst4 : Below w14.heap.size w14 (w14.alloc (.cells #[.slice A n c, .slice (some ⟨bb, 0, none⟩) 16 cz, .slice (some ⟨bb, 0, none⟩) r3 cz, .slice A5 n5 cp5] 27)) := (Below.refl _ _).alloc (Nat.le_refl _) _
        have HT : Hid (∀ j, j < 4 → ∃ A3 n3 c3 l3, (#[.slice A n c, .slice (some ⟨bb, 0, none⟩) 16 cz, .slice (some ⟨bb, 0, none⟩) r3 cz, .slice A5 n5 cp5] : Array Value)[j]? = some (.slice A3 n3 c3) ∧ Sl (w14.alloc (.cells #[.slice A n c, .slice (some ⟨bb, 0, none⟩) 16 cz, .slice (some ⟨bb, 0, none⟩) r3 cz, .slice A5 n5 cp5] 27)) A3 n3 c3 l3) := Lib.hid (by
          intro j hj
          match j, hj with
          | 0, _ => exact ⟨A, n, c, l, rfl, S1.step hst4⟩
          | 1, _ => exact ⟨some ⟨bb, 0, none⟩, 16, cz, M, rfl, S2.step hst4⟩
          | 2, _ => exact ⟨some ⟨bb, 0, none⟩, r3, cz, M.take r3, rfl, S3.step hst4⟩
          | 3, _ => exact ⟨A5, n5, cp5, M ++ l, rfl, s5.step hst4⟩)
        have HF := Lib.hid (heap_alloc_new w14 (.cells #[.slice A n c, .slice (some ⟨bb, 0, none⟩) 16 cz, .slice (some ⟨bb, 0, none⟩) r3 cz, .slice A5 n5 cp5] 27))
        have hlF : w14.heap.size < (w14.alloc (.cells #[.slice A n c, .slice (some ⟨bb, 0, none⟩) 16 cz, .slice (some ⟨bb, 0, none⟩) r3 cz, .slice A5 n5 cp5] 27)).heap.size := by simp
        have HE := Lib.hid (HV.alloc hgw (.cells #[.slice A n c, .slice (some ⟨bb, 0, none⟩) 16 cz, .slice (some ⟨bb, 0, none⟩) r3 cz, .slice A5 n5 cp5] 27))
        clear S1 S2 S3 hst4 s5 HV OB O2 D hsz hSb hi hz0' hz1 hz2
        go_wp2_with fail
        go_simp
        generalize w14.alloc (.cells #[.slice A n c, .slice (some ⟨bb, 0, none⟩) 16 cz, .slice (some ⟨bb, 0, none⟩) r3 cz, .slice A5 n5 cp5] 27) = wl at *
        generalize w14.heap.size = F2 at *
        go_loopw [99] (fun u wr => ∃ j : Nat, j ≤ 4 ∧ u = .int .i64 (j : Int) ∧ Below wl.heap.size wl wr) (fun u _ => 4 - (intOf u).toNat)
        case atStart => exact ⟨0, by omega, rfl, Below.refl _ _⟩
        case round =>
          obtain ⟨j, hj, rfl, hbl⟩ := hrel
          by_cases hlt : j < 4
          · as_aux_lemma =>
            obtain ⟨A3, n3, c3, l3, hget, hsl3⟩ := HT.out j hlt
            have hcell : wr.cell? ⟨F2, j, none⟩ = some (.slice A3 n3 c3) := (cell_of_row wr F2 j _ _ _ ((hbl.block F2 hlF).trans HF.out)).trans hget
            have hs3 := Lib.hid (hsl3.step hbl)
            have HBL := Lib.hid hbl
            obtain ⟨R, hR⟩ : ∃ R, R = V7.dec l3 := ⟨_, rfl⟩
            have fR : R.1.Fit := by rw [hR]; exact V7.dec_fit l3
            have hdp := Lib.hid (fun u (hu : Sl u A3 n3 c3 l3) => by have := dec_p u A3 n3 c3 l3 hu; rw [← hR] at this; exact this)
            have hdr := Lib.hid (fun u (hu : Sl u A3 n3 c3 l3) => by have := dec_r u A3 n3 c3 l3 hu; rw [← hR] at this; exact this)
            clear hR
            obtain ⟨E, ec⟩ := R
            dsimp only [decV] at hdp hdr fR
            have b1 : (0 : Int) ≤ (j : Int) := by omega
            have b2 : (j : Int) < 4 := by omega
            clear hget hsl3 hbl
            go_wp2_with fail
            refine (hdp.out _ hs3.out).mono ?_
            rintro e u2 ⟨rfl, hk2⟩
            have s4 := hs3.out.step hk2
            replace hk2 := HBL.out.trans (hk2.mono HBL.out.size)
            have hzu := hk2.size
            go_wp2_with (refine wpList_store_box rfl (.tmp 19) (.tmp 106) rfl u2.heap.size E Ev.none rfl rfl (Box.new u2 Ev.none) ?_; intro u3 hX3 hg3)
            have hk3 : Below u2.heap.size u2 u3 := ((Below.refl _ _).alloc (Nat.le_refl _) (.cells Ev.none.cells 26)).grown hg3 (by simp) (fun k hk => by injection hk; omega)
            have s5 := s4.step hk3
            replace hk3 := hk2.trans (hk3.mono hzu)
            clear hg3 s4 hk2
            refine (hdr.out _ s5).mono ?_
            rintro e u4 ⟨rfl, hk4⟩
            have X4 := hX3.below hk4 hX3.lt
            replace hk4 := hk3.trans (hk4.mono hk3.size)
            clear hX3 s5 hk3
            go_wp2_with (refine wpList_store_box rfl (.tmp 21) (.tmp 111) rfl u4.heap.size E Ev.none rfl rfl (Box.new u4 Ev.none) ?_; intro u5 hY5 hg5; refine Hid.out ?_)
            refine Lib.hid ?_
            have X5 := Lib.hid ((X4.alloc (.cells Ev.none.cells 26)).grown hg5 (fun e => by injection e; have := X4.lt; omega))
            have hk5 := Lib.hid ((hk4.alloc hk4.size (.cells Ev.none.cells 26)).grown hg5 (by have := hk4.size; simp; omega) (fun k hk => by injection hk; have := hk4.size; omega))
            replace hY5 := Lib.hid hY5
            clear hg5 hk4 X4
            go_wp2_with (first
              | (refine wpList_load_box_w (by go_simp) (.tmp 19) rfl u2.heap.size E rfl X5.out ?_)
              | (refine wpList_load_box_w (by go_simp) (.tmp 21) rfl u4.heap.size E rfl hY5.out ?_)
              | (refine wpList_neq_w (by go_simp) (.tmp 117) (.tmp 118) rfl E E fR fR rfl rfl ?_))
            refine ⟨⟨j + 1, by omega, by go_num, hk5.out⟩, by simp [intOf]; omega⟩
          · obtain rfl : j = 4 := by omega
            have hend := HE.out.trans (hbl.mono (by have := HE.out.size; omega))
            have HT9 := Lib.hid (hT0.out.below (hend.mono (Nat.le_of_eq hg.out.symm)))
            have HS9 := Lib.hid (hs0.out.trans (hend.mono (Nat.le_of_lt hWg)))
            clear hbl hend
            go_wp2_with fail
            refine (haw.out _ HT9.out).mono ?_
            rintro e u6 ⟨rfl, hk6⟩
            go_wp2_with fail
            go_ret
            exact ⟨rfl, HS9.out.trans (hk6.mono HS9.out.size)⟩
  · rcases (show 60 < n ∨ (n ≤ 60 ∧ 600 < n2) by omega) with h6 | ⟨h5, h6⟩
    · have g1 : decide (60 < (n : Int)) = true := by simp; omega
      replace hs0 := Lib.hid hs0
      replace hT0 := Lib.hid hT0
      have hwe : W.alloc (.cells e.cells 26) = w0 := hw0.symm
      clear hw0 hB0 hS0 hR0
      obtain ⟨id, time, gen, st, sn, ty, de, d0, d1, d2⟩ := e
      dsimp only [Ev.v, Ev.cells] at hwe ⊢
      go_enter Tryd.func3, Tryd.ntmps3
      go_wp2_with fail
      refine (haw.out _ hT0.out).mono ?_
      rintro e w1 ⟨rfl, hb1⟩
      go_wp2_with fail
      go_ret
      exact ⟨rfl, hs0.out.trans (hb1.mono hs0.out.size)⟩
    · have g1 : decide (60 < (n : Int)) = false := by simp; omega
      have hL1 := Lib.hid (fun u => by have := lightmade_any A2 n2 c2 u (by omega); rw [show decide (n2 ≤ 600) = false by simpa using h6] at this; exact this)
      replace hs0 := Lib.hid hs0
      replace hT0 := Lib.hid hT0
      have hwe : W.alloc (.cells e.cells 26) = w0 := hw0.symm
      clear hw0 hB0 hS0 hR0
      obtain ⟨id, time, gen, st, sn, ty, de, d0, d1, d2⟩ := e
      dsimp only [Ev.v, Ev.cells] at hwe ⊢
      go_enter Tryd.func3, Tryd.ntmps3
      go_wp2_with (go_at_call 10; refine (hL1.out _).mono ?_; rintro e w' ⟨rfl, rfl⟩)
      refine (haw.out _ hT0.out).mono ?_
      rintro e w1 ⟨rfl, hb1⟩
      go_wp2_with fail
      go_ret
      exact ⟨rfl, hs0.out.trans (hb1.mono hs0.out.size)⟩

theorem cells_u8 : Tryd.prog.cellsOf 5 = 1 := by kernel_rfl
theorem cells_int : Tryd.prog.cellsOf 3 = 1 := by kernel_rfl
theorem own : ownKnob Tryd.prog.godebug = none := by kernel_rfl
theorem laidOut : laidOutB Tryd.prog = true := by kernel_rfl
theorem contract (H : Type) (enc : TypeId × Value → H) (W : World) (base : Nat) (args : Array Value) (ds gs : List (DataW H)) (before : List MemPlace)
    (hval : ∀ (j : Nat) t v, Tryd.f3.params[j]? = some t → args[j]? = some v → Value.okWide Tryd.prog W .any base t v)
    (hW : DataW.Whole enc Tryd.prog Tryd.f3.params.toList Rows.eventBytesSpec.vars false W args.toList ds gs before) (htab : V7.Tabs W) :
    Calls Tryd.prog 3 args W fun e W' => ∃ v, e = .returned v ∧ Rows.eventBytesSpec.post enc Tryd.prog Tryd.f3 false true false false W args v W' := by
  have hW' := hW
  obtain ⟨p, q, hA0, hV, rfl, hfz, hnd⟩ := hW
  have hA : DataW.TrodAll enc Tryd.prog W 0 (fun _ => true) true Tryd.f3.params.toList args.toList ds p := hA0
  rw [Tryd.params3] at hA hval
  obtain ⟨v0, vs0, d0, ds0, p0, q0, hargs, rfl, rfl, h0, r0⟩ := trodAll_cons hA
  obtain ⟨v1, vs1, d1, ds1, p1, q1, rfl, rfl, rfl, h1, r1⟩ := trodAll_cons r0
  obtain ⟨v2, vs2, d2, ds2, p2, q2, rfl, rfl, rfl, h2, r2⟩ := trodAll_cons r1
  obtain ⟨rfl, rfl, rfl⟩ := trodAll_nil r2
  obtain rfl : args = #[v0, v1, v2] := by cases args; simp_all
  obtain ⟨e0, rfl, hf0⟩ := open_event Tryd.underlying26 (by kernel_rfl) ⟨rfl, rfl, rfl, rfl, rfl, rfl, rfl, rfl⟩ ⟨by kernel_rfl, by kernel_rfl, by kernel_rfl, by kernel_rfl, by kernel_rfl, by kernel_rfl, by kernel_rfl, by kernel_rfl⟩ Tryd.underlying22 Tryd.underlying23 Tryd.underlying22 Tryd.underlying5 Tryd.underlying5 Tryd.underlying5 Tryd.underlying4 Tryd.underlying24 (by kernel_rfl) Tryd.underlying5 (hval 0 26 v0 rfl rfl) h0
  obtain ⟨A1, n1, c1, l1, rfl, hn1, hr1, hc1, hm1, hk1⟩ := open_bytes Tryd.underlying27 Tryd.underlying5 cells_u8 (hval 1 27 v1 rfl rfl) h1
  obtain ⟨A2, n2, c2, l2, rfl, hn2, hr2, hw2, hc2, hm2, hk2⟩ := open_int_list Tryd.underlying28 Tryd.underlying3 cells_int (hval 2 28 v2 rfl rfl) h2
  clear hA0
  refine (walk e0 hf0 A1 n1 c1 l1 hn1 hc1 hm1 hk1 A2 n2 c2 l2 hn2 hw2 hc2 hm2 hk2 W hr1 hr2 htab).mono fun e W' ⟨he, hb⟩ => ?_
  subst he
  exact ⟨_, rfl, law_post laidOut (types_fit (by kernel_rfl)) (by kernel_rfl) Tryd.underlying4 rfl (fun xs hx => by
    match xs, hx with
    | [_, _, _], _ => rfl) hW' hb⟩

theorem lifted (os : Os) (started : os.Started) (H : Type) (enc : TypeId × Value → H) :
    ReturnsInHanded {} Tryd.checked os 3 .any (fun w args => (Rows.eventBytesSpec.pre enc Tryd.prog Tryd.f3 Rows.eventBytesRow.domain false w args ∧ laidMetH Tryd.prog Laid.laid4 w) ∧ sizedMet enc Tryd.prog Tryd.f3 (OpenSpec.ofChange Rows.eventBytesSpec) false w args) (Rows.eventBytesSpec.post enc Tryd.prog Tryd.f3 false true false false) := by
  refine returnsInHanded_of_change_and (C := Tryd.checked) (X := fun w _ => laidMetH Tryd.prog Laid.laid4 w) (fun _ _ _ hh h => h.of_heap hh) own started (by kernel_rfl) Tryd.func3
    (ChangeSpec.witness_shaped (enc := enc) (C := Tryd.checked) (os := os) (X := fun w _ => laidMetH Tryd.prog Laid.laid4 w) false (World.doorLaid Tryd.prog 400 os) #[V7.Ev.none.v, .slice none 0 0, .slice none 0 0] 8 rfl (World.shaped_of_RefB (by kernel_rfl) (by kernel_rfl)) (by kernel_rfl) (by kernel_rfl) (by kernel_rfl) (Laid.door_met os _)) ?_
  intro W base args ds gs before hval hW _ _ hL _
  exact contract H enc W base args ds gs before hval hW (Laid.tab_of hL)

theorem bare : Rows.EventBytesSaid :=
  OpenClaim.holds_of_wide 3 Tryd.f3 rfl rfl rfl rfl rfl rfl rfl ⟨rfl, rfl, rfl, rfl, rfl⟩ rfl rfl rfl rfl rfl (by kernel_rfl) Tryd.func3 (by kernel_rfl)
    (of_decide_eq_true (by kernel_rfl)) (by unfold Func.isWrapper; first | (rw [if_pos (by decide +kernel)]; kernel_rfl) | (rw [if_neg (by decide +kernel)]; exact ⟨rfl, rfl⟩))
    (fun os started H enc _ => lifted os started H enc)
theorem proved : Rows.EventBytesCardSaid :=
  Claim7.holds_tied_plain_at .later [] [.data, .data, .data, .data] true (true, Rows.eventBytesCard.stood.harness.2) false
    bare (fun _ h => by cases h) (by kernel_rfl) (fun _ h => by cases h) eventBytes_row_tie rfl ⟨rfl, rfl⟩ (by kernel_rfl) rfl
    (fun f fn hf hfn => by
      obtain rfl : f = 3 := Option.some.inj ((show Tryd.prog.funcNamed "baseboard/baseboardlaw07.EventBytes" = some 3 by kernel_rfl).symm.trans hf) |>.symm
      obtain rfl : fn = Tryd.f3 := (Option.some.inj (Tryd.func3.symm.trans hfn)).symm
      exact ⟨by kernel_rfl, fun j t ht => by
        rw [Tryd.params3] at ht
        have hm : t ∈ [26, 27, 28] := by simpa using Array.mem_of_getElem? ht
        have hall : ([26, 27, 28].all fun u => !Tryd.prog.wantsStandIn u) = true := by kernel_rfl
        exact (show Tryd.prog.wantsStandIn t = false by simpa using List.all_eq_true.1 hall t hm)⟩)
    (by kernel_rfl)
end Go.Proofs.YtgbnigbjnbcfeaaDoor.eventBytes
