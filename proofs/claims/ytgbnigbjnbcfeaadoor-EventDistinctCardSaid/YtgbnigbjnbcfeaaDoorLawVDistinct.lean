/- The statement EventDistinct: two valid events that the dice make have the same bytes, and the same text, exactly if they are the same event. For every two lists of numbers. The tables that the row lists start as the program's text lays them. -/
import Derived.Test.YtgbnigbjnbcfeaaDoorLaidV
import Derived.Test.YtgbnigbjnbcfeaaDoorV7f
import Derived.Test.YtgbnigbjnbcfeaaDoorV7k
import Derived.Test.YtgbnigbjnbcfeaaDoorV8b
import Derived.Test.YtgbnigbjnbcfeaaDoorDe
import Derived.Test.YtgbnigbjnbcfeaaDoorSame
import Derived.Deep.RegionHeld3
namespace Go.Proofs.YtgbnigbjnbcfeaaDoor.eventDistinct
open Go.RowKit Go.ChangeShapes Go.WideShapes Go.ChangeAt Go.Proofs.YtgbnigbjnbcfeaaDoor.Mem Go.Proofs.YtgbnigbjnbcfeaaDoor.Law Go.Proofs.YtgbnigbjnbcfeaaDoor.F2p Go.Proofs.YtgbnigbjnbcfeaaDoor.V7 Go.Proofs.YtgbnigbjnbcfeaaDoor.Laid Go.Proofs.YtgbnigbjnbcfeaaDoor.Made Go.Proofs.YtgbnigbjnbcfeaaDoor.De Go.Proofs.YtgbnigbjnbcfeaaDoor.Same
set_option maxRecDepth 100000
set_option maxHeartbeats 4000000

theorem walk (A : Option Addr) (n c : Nat) (l : List Int) (hn : n = l.length) (hl : ∀ x ∈ l, -9223372036854775808 ≤ x ∧ x ≤ 9223372036854775807) (hc : n ≤ c) (hm : c ≤ maxLen) (_hk : A = none → c = 0)
    (A2 : Option Addr) (n2 c2 : Nat) (l2 : List Int) (hn2 : n2 = l2.length) (hl2 : ∀ x ∈ l2, -9223372036854775808 ≤ x ∧ x ≤ 9223372036854775807) (hc2 : n2 ≤ c2) (hm2 : c2 ≤ maxLen) (_hk2 : A2 = none → c2 = 0) (W : World)
    (hr : IRow W.heap.size W A l) (hr2 : IRow W.heap.size W A2 l2) (htab : Tabs W) :
    Calls Tryd.prog 9 #[.slice A n c, .slice A2 n2 c2] W fun e W' => e = .returned (.bool true) ∧ Below W.heap.size W W' := by
  replace hn := Lib.hid hn
  replace hn2 := Lib.hid hn2
  have haw := Lib.hid (fun u hu => awake_any u hu)
  by_cases hlight : n ≤ 600 ∧ n2 ≤ 600
  · obtain ⟨g1, g2⟩ := hlight
    have hL1 := Lib.hid (fun u => by have := lightmade_any A n c u (by unfold maxLen; omega); rw [decide_eq_true g1] at this; exact this)
    have hL2 := Lib.hid (fun u => by have := lightmade_any A2 n2 c2 u (by unfold maxLen; omega); rw [decide_eq_true g2] at this; exact this)
    have hd1 := Lib.hid (Dz.start A n c l W hr hn.out hl (by omega))
    go_enter Tryd.func9, Tryd.ntmps9
    go_wp2_with fail
    refine (hL1.out _).mono ?_
    rintro e w' ⟨rfl, rfl⟩
    go_wp2_with fail
    refine (hL2.out _).mono ?_
    rintro e w' ⟨rfl, rfl⟩
    go_wp2_with fail
    refine (roll_any A n c _).mono ?_
    rintro e w1 ⟨rfl, hw1⟩
    have D1 : Dz w1 W.heap.size A n c l := by rw [hw1]; exact hd1.out
    have hb1 : Below W.heap.size W w1 := by rw [hw1]; exact (Below.refl _ _).alloc (Nat.le_refl _) _
    clear hw1 hd1
    go_wp2_with fail
    refine (event_any D1).mono ?_
    rintro e w2 ⟨x, rfl, okx, D2, hg2⟩
    have hb2 : Below W.heap.size W w2 := hb1.trans (grown_lo hg2 (Nat.le_refl _) D1.lt)
    clear hg2 D1 hb1
    go_wp2_with fail
    refine (roll_any A2 n2 c2 _).mono ?_
    rintro e w3 ⟨rfl, hw3⟩
    have D3 : Dz w3 w2.heap.size A2 n2 c2 l2 := by
      rw [hw3]
      exact Dz.start A2 n2 c2 l2 w2 ((Rd.below hr2 hb2).more hb2.size) hn2.out hl2 (by omega)
    have hb3 : Below W.heap.size W w3 := by rw [hw3]; exact hb2.alloc hb2.size _
    have hz3 := hb2.size
    clear hw3
    go_wp2_with fail
    refine (event_any D3).mono ?_
    rintro e w4 ⟨y, rfl, oky, D4, hg4⟩
    have hb4 : Below W.heap.size W w4 := hb3.trans (grown_lo hg4 hz3 D3.lt)
    clear hg4 D3 hb3 D2 D4 hb2 hz3
    obtain ⟨q, hq⟩ : ∃ q, q = w4.heap.size := ⟨_, rfl⟩
    have hX4 := Lib.hid ((Box.new w4 Ev.none).alloc (.cells Ev.none.cells 26))
    have hY4 := Box.new (w4.alloc (.cells Ev.none.cells 26)) Ev.none
    rw [World.size_alloc] at hY4
    have hb4' := Lib.hid ((hb4.alloc hb4.size (.cells Ev.none.cells 26)).alloc (by have := hb4.size; simp; omega) (.cells Ev.none.cells 26))
    replace hY4 := Lib.hid hY4
    have hWq : W.heap.size ≤ w4.heap.size := hb4.size
    go_wp2_with (first
      | (refine wpList_store_box rfl (.tmp 5) (.tmp 26) rfl w4.heap.size x Ev.none rfl rfl hX4.out ?_; intro w5 hX5 hg5)
      | (refine wpList_store_box rfl (.tmp 6) (.tmp 29) rfl (w4.heap.size + 1) y Ev.none rfl rfl (hY4.out.grown hg5 (fun e => by injection e; omega)) ?_; intro w6 hY6 hg6; refine Hid.out ?_))
    refine Lib.hid ?_
    have X6 := hX5.grown hg6 (fun e => by injection e; omega)
    have hb5 := hb4'.out.grown hg5 hb4'.out.size (fun k hk => by injection hk; omega)
    have hb6 := hb5.grown hg6 hb5.size (fun k hk => by injection hk; omega)
    clear hX5 hg5 hg6 hb5 hb4 hb4' hX4 hY4
    have hqx := X6.lt
    have hqy := hY6.lt
    have Y6 := Lib.hid hY6
    clear hY6
    replace X6 := Lib.hid X6
    replace hb6 := Lib.hid hb6
    have he1 := Lib.hid (fun u => enc_p x okx.fit okx.vld u)
    have he2 := Lib.hid (fun u => enc_p y oky.fit oky.vld u)
    have hf1 := Lib.hid (fun u hu => format_p x okx.fit okx.vld u hu)
    have hf2 := Lib.hid (fun u hu => format_p y oky.fit oky.vld u hu)
    have hE := enc_inj okx.fit oky.fit okx.vld oky.vld
    have hF := fmt_inj okx.fit oky.fit okx.vld oky.vld
    have fx := okx.fit
    have fy := oky.fit
    clear okx oky
    obtain ⟨ex, hex⟩ : ∃ ex, ex = encE x := ⟨_, rfl⟩
    obtain ⟨ey, hey⟩ : ∃ ey, ey = encE y := ⟨_, rfl⟩
    obtain ⟨tx, htx⟩ : ∃ tx, tx = fmtE x := ⟨_, rfl⟩
    obtain ⟨ty', hty⟩ : ∃ ty', ty' = fmtE y := ⟨_, rfl⟩
    rw [← hex] at he1 hE
    rw [← hey] at he2 hE
    rw [← htx] at hf1 hF
    rw [← hty] at hf2 hF
    clear hex hey htx hty
    have T6 := Lib.hid (htab.below hb6.out)
    rw [← hq] at X6 Y6 hqx hqy
    rw [← hq]
    clear htab hq hWq
    go_wp2_with (refine wpList_load_box rfl (.tmp 5) rfl q x rfl X6.out ?_)
    refine (he1.out _).mono ?_
    rintro e u1 ⟨v1, rfl, o1, hc1⟩
    obtain ⟨A1, n1, c1, rfl, s1⟩ := Sl.of_own o1
    have Y7 := Lib.hid (Y6.out.below hc1 hqy)
    clear o1
    go_wp2_with (refine wpList_load_box rfl (.tmp 6) rfl (q + 1) y rfl Y7.out ?_)
    refine (he2.out _).mono ?_
    rintro e u2 ⟨v2, rfl, o2, hc2⟩
    obtain ⟨A2', n2', c2', rfl, s2⟩ := Sl.of_own o2
    have s1' := s1.step hc2
    replace hc2 := hc1.trans (hc2.mono hc1.size)
    clear o2 hc1 s1 Y7
    have X8 := Lib.hid (X6.out.below hc2 hqx)
    go_wp2_with (refine wpList_load_box rfl (.tmp 5) rfl q x rfl X8.out ?_)
    refine (hf1.out _ (T6.out.below hc2).pow).mono ?_
    rintro e u3 ⟨rfl, hc3⟩
    have s1 := s1'.step hc3
    have s2' := s2.step hc3
    replace hc3 := hc2.trans (hc3.mono hc2.size)
    clear hc2 s1' s2 X8
    have Y9 := Lib.hid (Y6.out.below hc3 hqy)
    go_wp2_with (refine wpList_load_box rfl (.tmp 6) rfl (q + 1) y rfl Y9.out ?_)
    refine (hf2.out _ (T6.out.below hc3).pow).mono ?_
    rintro e u4 ⟨rfl, hc4⟩
    have s1' := s1.step hc4
    have s2 := s2'.step hc4
    replace hc4 := hc3.trans (hc4.mono hc3.size)
    clear hc3 s1 s2' Y9 he1 he2 hf1 hf2
    have HS1 := Lib.hid s1'
    have HS2 := Lib.hid s2
    clear s1' s2
    have hqx4 : q < u4.heap.size := by have := hc4.size; omega
    have hqy4 : q + 1 < u4.heap.size := by have := hc4.size; omega
    have X10 := Lib.hid (X6.out.below hc4 hqx)
    have Y10 := Lib.hid (Y6.out.below hc4 hqy)
    have T10 := Lib.hid (T6.out.below hc4)
    have HB := Lib.hid (hb6.out.trans (hc4.mono hb6.out.size))
    obtain ⟨zx, hzx⟩ : ∃ zx : ByteArray, zx = ⟨tx.toArray⟩ := ⟨_, rfl⟩
    obtain ⟨zy, hzy⟩ : ∃ zy : ByteArray, zy = ⟨ty'.toArray⟩ := ⟨_, rfl⟩
    rw [← hzx, ← hzy]
    have hz : zx = zy ↔ x = y := by
      rw [hzx, hzy, ByteArray.mk.injEq]
      exact ⟨fun h => hF.1 (by simpa using congrArg Array.toList h), fun h => by rw [hF.2 h]⟩
    obtain ⟨R, hR⟩ : ∃ R, decide (x = y) = R := ⟨_, rfl⟩
    have hsame := Lib.hid (fun u (k1 : Sl u A1 n1 c1 ex) (k2 : Sl u A2' n2' c2' ey) => by have := same_s k1 k2; rw [show decide (ex = ey) = R by rw [← hR]; exact decide_eq_decide.2 hE] at this; exact this)
    have hstr : decide (zx = zy) = R := by rw [← hR]; exact decide_eq_decide.2 hz
    replace hR := Lib.hid hR
    clear hE hF hz hc4 hzx hzy X6 Y6 T6 hb6 hqx hqy
    replace fx := Lib.hid fx
    replace fy := Lib.hid fy
    have HV : Below u4.heap.size u4 u4.drew := (Below.refl _ _).drew
    obtain ⟨xid, xtime, xgen, xst, xsn, xty, xde, xd0, xd1, xd2⟩ := x
    obtain ⟨yid, ytime, ygen, yst, ysn, yty, yde, yd0, yd1, yd2⟩ := y
    have KEEP : Hid (∀ V, Below u4.heap.size u4 V → V.cell? ⟨q, 0, none⟩ = some (.int .u16 (xid : Int)) ∧ V.cell? ⟨q, 1, none⟩ = some (.int .u32 (xtime : Int)) ∧ V.cell? ⟨q, 2, none⟩ = some (.int .u16 (xgen : Int)) ∧ V.cell? ⟨q, 3, none⟩ = some (.int .u8 (xst : Int)) ∧ V.cell? ⟨q, 4, none⟩ = some (.int .u8 (xsn : Int)) ∧ V.cell? ⟨q, 5, none⟩ = some (.int .u8 (xty : Int)) ∧ V.cell? ⟨q, 6, none⟩ = some (.bool xde) ∧ V.cell? ⟨q, 7, none⟩ = some (.int .u8 (xd0 : Int)) ∧ V.cell? ⟨q, 8, none⟩ = some (.int .u8 (xd1 : Int)) ∧ V.cell? ⟨q, 9, none⟩ = some (.int .u8 (xd2 : Int)) ∧ V.cell? ⟨q + 1, 0, none⟩ = some (.int .u16 (yid : Int)) ∧ V.cell? ⟨q + 1, 1, none⟩ = some (.int .u32 (ytime : Int)) ∧ V.cell? ⟨q + 1, 2, none⟩ = some (.int .u16 (ygen : Int)) ∧ V.cell? ⟨q + 1, 3, none⟩ = some (.int .u8 (yst : Int)) ∧ V.cell? ⟨q + 1, 4, none⟩ = some (.int .u8 (ysn : Int)) ∧ V.cell? ⟨q + 1, 5, none⟩ = some (.int .u8 (yty : Int)) ∧ V.cell? ⟨q + 1, 6, none⟩ = some (.bool yde) ∧ V.cell? ⟨q + 1, 7, none⟩ = some (.int .u8 (yd0 : Int)) ∧ V.cell? ⟨q + 1, 8, none⟩ = some (.int .u8 (yd1 : Int)) ∧ V.cell? ⟨q + 1, 9, none⟩ = some (.int .u8 (yd2 : Int)) ∧ Below u4.heap.size u4 V) := Lib.hid fun V hV => ⟨(X10.out.below hV hqx4).c0, (X10.out.below hV hqx4).c1, (X10.out.below hV hqx4).c2, (X10.out.below hV hqx4).c3, (X10.out.below hV hqx4).c4, (X10.out.below hV hqx4).c5, (X10.out.below hV hqx4).c6, (X10.out.below hV hqx4).c7, (X10.out.below hV hqx4).c8, (X10.out.below hV hqx4).c9, (Y10.out.below hV hqy4).c0, (Y10.out.below hV hqy4).c1, (Y10.out.below hV hqy4).c2, (Y10.out.below hV hqy4).c3, (Y10.out.below hV hqy4).c4, (Y10.out.below hV hqy4).c5, (Y10.out.below hV hqy4).c6, (Y10.out.below hV hqy4).c7, (Y10.out.below hV hqy4).c8, (Y10.out.below hV hqy4).c9, hV⟩
    clear X10 Y10 hqx4 hqy4
    have q1 : ∀ V : World, (binOp .eql 26 (.agg #[.int .u16 (xid : Int), .int .u32 (xtime : Int), .int .u16 (xgen : Int), .int .u8 (xst : Int), .int .u8 (xsn : Int), .int .u8 (xty : Int), .bool xde, .int .u8 (xd0 : Int), .int .u8 (xd1 : Int), .int .u8 (xd2 : Int)]) (.agg #[.int .u16 (yid : Int), .int .u32 (ytime : Int), .int .u16 (ygen : Int), .int .u8 (yst : Int), .int .u8 (ysn : Int), .int .u8 (yty : Int), .bool yde, .int .u8 (yd0 : Int), .int .u8 (yd1 : Int), .int .u8 (yd2 : Int)])).run Tryd.prog V = .ok (.bool R) V := fun V => by have := run_eql V _ _ fx.out fy.out; rw [hR.out] at this; exact this
    have q2 : ∀ (V : World) (a b : Operand), (eqGuard .eql 26 a b (.agg #[.int .u16 (xid : Int), .int .u32 (xtime : Int), .int .u16 (xgen : Int), .int .u8 (xst : Int), .int .u8 (xsn : Int), .int .u8 (xty : Int), .bool xde, .int .u8 (xd0 : Int), .int .u8 (xd1 : Int), .int .u8 (xd2 : Int)]) (.agg #[.int .u16 (yid : Int), .int .u32 (ytime : Int), .int .u16 (ygen : Int), .int .u8 (yst : Int), .int .u8 (ysn : Int), .int .u8 (yty : Int), .bool yde, .int .u8 (yd0 : Int), .int .u8 (yd1 : Int), .int .u8 (yd2 : Int)])).run Tryd.prog V = .ok () V := fun V a b => run_eqGuard_agg V .eql 26 a b _ _ Tryd.eqGuardType26
    go_wp2_with fail
    cases R
    · have hne : ¬ zx = zy := of_decide_eq_false hstr
      have hne3 : ¬ zx.toList = zy.toList := fun h => hne (by rw [ByteArray.toList_eq, ByteArray.toList_eq] at h; cases zx; cases zy; congr 1; exact Array.toList_inj.1 h)
      have hne4 : (zx.toList == zy.toList) = false := by simpa using hne3
      go_region_held3 (fun V => V.cell? ⟨q, 0, none⟩ = some (.int .u16 (xid : Int)) ∧ V.cell? ⟨q, 1, none⟩ = some (.int .u32 (xtime : Int)) ∧ V.cell? ⟨q, 2, none⟩ = some (.int .u16 (xgen : Int)) ∧ V.cell? ⟨q, 3, none⟩ = some (.int .u8 (xst : Int)) ∧ V.cell? ⟨q, 4, none⟩ = some (.int .u8 (xsn : Int)) ∧ V.cell? ⟨q, 5, none⟩ = some (.int .u8 (xty : Int)) ∧ V.cell? ⟨q, 6, none⟩ = some (.bool xde) ∧ V.cell? ⟨q, 7, none⟩ = some (.int .u8 (xd0 : Int)) ∧ V.cell? ⟨q, 8, none⟩ = some (.int .u8 (xd1 : Int)) ∧ V.cell? ⟨q, 9, none⟩ = some (.int .u8 (xd2 : Int)) ∧ V.cell? ⟨q + 1, 0, none⟩ = some (.int .u16 (yid : Int)) ∧ V.cell? ⟨q + 1, 1, none⟩ = some (.int .u32 (ytime : Int)) ∧ V.cell? ⟨q + 1, 2, none⟩ = some (.int .u16 (ygen : Int)) ∧ V.cell? ⟨q + 1, 3, none⟩ = some (.int .u8 (yst : Int)) ∧ V.cell? ⟨q + 1, 4, none⟩ = some (.int .u8 (ysn : Int)) ∧ V.cell? ⟨q + 1, 5, none⟩ = some (.int .u8 (yty : Int)) ∧ V.cell? ⟨q + 1, 6, none⟩ = some (.bool yde) ∧ V.cell? ⟨q + 1, 7, none⟩ = some (.int .u8 (yd0 : Int)) ∧ V.cell? ⟨q + 1, 8, none⟩ = some (.int .u8 (yd1 : Int)) ∧ V.cell? ⟨q + 1, 9, none⟩ = some (.int .u8 (yd2 : Int)) ∧ Below u4.heap.size u4 V) (exact KEEP.out _ HV)
        (first
          | (go_at_call 19; go_loud (refine (hsame.out _ (HS1.out.step HV) (HS2.out.step HV)).mono ?_); rintro e w2 ⟨rfl, hb2⟩; have HV := HV.trans (hb2.mono HV.size))
          | (go_at_call 11; go_loud (refine (haw.out _ (T10.out.below HV)).mono ?_); rintro e w2 ⟨rfl, hb2⟩; have HV := HV.trans (hb2.mono HV.size)))
      all_goals
        go_wp2_with fail
        go_ret
        exact ⟨rfl, HB.out.trans (HV.mono HB.out.size)⟩
    · obtain rfl : zx = zy := of_decide_eq_true hstr
      go_region_held3 (fun V => V.cell? ⟨q, 0, none⟩ = some (.int .u16 (xid : Int)) ∧ V.cell? ⟨q, 1, none⟩ = some (.int .u32 (xtime : Int)) ∧ V.cell? ⟨q, 2, none⟩ = some (.int .u16 (xgen : Int)) ∧ V.cell? ⟨q, 3, none⟩ = some (.int .u8 (xst : Int)) ∧ V.cell? ⟨q, 4, none⟩ = some (.int .u8 (xsn : Int)) ∧ V.cell? ⟨q, 5, none⟩ = some (.int .u8 (xty : Int)) ∧ V.cell? ⟨q, 6, none⟩ = some (.bool xde) ∧ V.cell? ⟨q, 7, none⟩ = some (.int .u8 (xd0 : Int)) ∧ V.cell? ⟨q, 8, none⟩ = some (.int .u8 (xd1 : Int)) ∧ V.cell? ⟨q, 9, none⟩ = some (.int .u8 (xd2 : Int)) ∧ V.cell? ⟨q + 1, 0, none⟩ = some (.int .u16 (yid : Int)) ∧ V.cell? ⟨q + 1, 1, none⟩ = some (.int .u32 (ytime : Int)) ∧ V.cell? ⟨q + 1, 2, none⟩ = some (.int .u16 (ygen : Int)) ∧ V.cell? ⟨q + 1, 3, none⟩ = some (.int .u8 (yst : Int)) ∧ V.cell? ⟨q + 1, 4, none⟩ = some (.int .u8 (ysn : Int)) ∧ V.cell? ⟨q + 1, 5, none⟩ = some (.int .u8 (yty : Int)) ∧ V.cell? ⟨q + 1, 6, none⟩ = some (.bool yde) ∧ V.cell? ⟨q + 1, 7, none⟩ = some (.int .u8 (yd0 : Int)) ∧ V.cell? ⟨q + 1, 8, none⟩ = some (.int .u8 (yd1 : Int)) ∧ V.cell? ⟨q + 1, 9, none⟩ = some (.int .u8 (yd2 : Int)) ∧ Below u4.heap.size u4 V) (exact KEEP.out _ HV)
        (first
          | (go_at_call 19; go_loud (refine (hsame.out _ (HS1.out.step HV) (HS2.out.step HV)).mono ?_); rintro e w2 ⟨rfl, hb2⟩; have HV := HV.trans (hb2.mono HV.size))
          | (go_at_call 11; go_loud (refine (haw.out _ (T10.out.below HV)).mono ?_); rintro e w2 ⟨rfl, hb2⟩; have HV := HV.trans (hb2.mono HV.size)))
      all_goals
        go_wp2_with fail
        go_ret
        exact ⟨rfl, HB.out.trans (HV.mono HB.out.size)⟩
  · rcases (show 600 < n ∨ (n ≤ 600 ∧ 600 < n2) by omega) with h6 | ⟨h5, h6⟩
    · have hL1 := Lib.hid (fun u => by have := lightmade_any A n c u (by omega); rw [show decide (n ≤ 600) = false by simpa using h6] at this; exact this)
      go_enter Tryd.func9, Tryd.ntmps9
      go_wp2_with fail
      refine (hL1.out _).mono ?_
      rintro e w' ⟨rfl, rfl⟩
      go_wp2_with fail
      refine (haw.out _ htab).mono ?_
      rintro e w1 ⟨rfl, hb1⟩
      go_wp2_with fail
      go_ret
      exact ⟨rfl, hb1⟩
    · have hL1 := Lib.hid (fun u => by have := lightmade_any A n c u (by omega); rw [decide_eq_true h5] at this; exact this)
      have hL2 := Lib.hid (fun u => by have := lightmade_any A2 n2 c2 u (by omega); rw [show decide (n2 ≤ 600) = false by simpa using h6] at this; exact this)
      go_enter Tryd.func9, Tryd.ntmps9
      go_wp2_with fail
      refine (hL1.out _).mono ?_
      rintro e w' ⟨rfl, rfl⟩
      go_wp2_with fail
      refine (hL2.out _).mono ?_
      rintro e w' ⟨rfl, rfl⟩
      go_wp2_with fail
      refine (haw.out _ htab).mono ?_
      rintro e w1 ⟨rfl, hb1⟩
      go_wp2_with fail
      go_ret
      exact ⟨rfl, hb1⟩

theorem cells_u8 : Tryd.prog.cellsOf 5 = 1 := by kernel_rfl
theorem cells_int : Tryd.prog.cellsOf 3 = 1 := by kernel_rfl
theorem own : ownKnob Tryd.prog.godebug = none := by kernel_rfl
theorem laidOut : laidOutB Tryd.prog = true := by kernel_rfl
theorem contract (H : Type) (enc : TypeId × Value → H) (W : World) (base : Nat) (args : Array Value) (ds gs : List (DataW H)) (before : List MemPlace)
    (hval : ∀ (j : Nat) t v, Tryd.f9.params[j]? = some t → args[j]? = some v → Value.okWide Tryd.prog W .any base t v)
    (hW : DataW.Whole enc Tryd.prog Tryd.f9.params.toList Rows.eventDistinctSpec.vars false W args.toList ds gs before) (htab : V7.Tabs W) :
    Calls Tryd.prog 9 args W fun e W' => ∃ v, e = .returned v ∧ Rows.eventDistinctSpec.post enc Tryd.prog Tryd.f9 false true false false W args v W' := by
  have hW' := hW
  obtain ⟨p, q, hA0, hV, rfl, hfz, hnd⟩ := hW
  have hA : DataW.TrodAll enc Tryd.prog W 0 (fun _ => true) true Tryd.f9.params.toList args.toList ds p := hA0
  rw [Tryd.params9] at hA hval
  obtain ⟨v0, vs0, d0, ds0, p0, q0, hargs, rfl, rfl, h0, r0⟩ := trodAll_cons hA
  obtain ⟨v1, vs1, d1, ds1, p1, q1, rfl, rfl, rfl, h1, r1⟩ := trodAll_cons r0
  obtain ⟨rfl, rfl, rfl⟩ := trodAll_nil r1
  obtain rfl : args = #[v0, v1] := by cases args; simp_all
  obtain ⟨A0, n0, c0, l0, rfl, hn0, hr0, hw0, hc0, hm0, hk0⟩ := open_int_list Tryd.underlying28 Tryd.underlying3 cells_int (hval 0 28 v0 rfl rfl) h0
  obtain ⟨A1, n1, c1, l1, rfl, hn1, hr1, hw1, hc1, hm1, hk1⟩ := open_int_list Tryd.underlying28 Tryd.underlying3 cells_int (hval 1 28 v1 rfl rfl) h1
  clear hA0
  refine (walk A0 n0 c0 l0 hn0 hw0 hc0 hm0 hk0 A1 n1 c1 l1 hn1 hw1 hc1 hm1 hk1 W hr0 hr1 htab).mono fun e W' ⟨he, hb⟩ => ?_
  subst he
  exact ⟨_, rfl, law_post laidOut (types_fit (by kernel_rfl)) (by kernel_rfl) Tryd.underlying4 rfl (fun xs hx => by
    match xs, hx with
    | [_, _], _ => rfl) hW' hb⟩

theorem lifted (os : Os) (started : os.Started) (H : Type) (enc : TypeId × Value → H) :
    ReturnsInHanded {} Tryd.checked os 9 .any (fun w args => (Rows.eventDistinctSpec.pre enc Tryd.prog Tryd.f9 Rows.eventDistinctRow.domain false w args ∧ laidMetH Tryd.prog Laid.laid4 w) ∧ sizedMet enc Tryd.prog Tryd.f9 (OpenSpec.ofChange Rows.eventDistinctSpec) false w args) (Rows.eventDistinctSpec.post enc Tryd.prog Tryd.f9 false true false false) := by
  refine returnsInHanded_of_change_and (C := Tryd.checked) (X := fun w _ => laidMetH Tryd.prog Laid.laid4 w) (fun _ _ _ hh h => h.of_heap hh) own started (by kernel_rfl) Tryd.func9
    (ChangeSpec.witness_shaped (enc := enc) (C := Tryd.checked) (os := os) (X := fun w _ => laidMetH Tryd.prog Laid.laid4 w) false (World.doorLaid Tryd.prog 400 os) #[.slice none 0 0, .slice none 0 0] 8 rfl (World.shaped_of_RefB (by kernel_rfl) (by kernel_rfl)) (by kernel_rfl) (by kernel_rfl) (by kernel_rfl) (Laid.door_met os _)) ?_
  intro W base args ds gs before hval hW _ _ hL _
  exact contract H enc W base args ds gs before hval hW (Laid.tab_of hL)

theorem bare : Rows.EventDistinctSaid :=
  OpenClaim.holds_of_wide 9 Tryd.f9 rfl rfl rfl rfl rfl rfl rfl ⟨rfl, rfl, rfl, rfl, rfl⟩ rfl rfl rfl rfl rfl (by kernel_rfl) Tryd.func9 (by kernel_rfl)
    (of_decide_eq_true (by kernel_rfl)) (by unfold Func.isWrapper; first | (rw [if_pos (by decide +kernel)]; kernel_rfl) | (rw [if_neg (by decide +kernel)]; exact ⟨rfl, rfl⟩))
    (fun os started H enc _ => lifted os started H enc)
theorem proved : Rows.EventDistinctCardSaid :=
  Claim7.holds_tied_plain_at .later [] [.data, .data, .data, .data] true (true, Rows.eventDistinctCard.stood.harness.2) false
    bare (fun _ h => by cases h) (by kernel_rfl) (fun _ h => by cases h) eventDistinct_row_tie rfl ⟨rfl, rfl⟩ (by kernel_rfl) rfl
    (fun f fn hf hfn => by
      obtain rfl : f = 9 := Option.some.inj ((show Tryd.prog.funcNamed "baseboard/baseboardlaw07.EventDistinct" = some 9 by kernel_rfl).symm.trans hf) |>.symm
      obtain rfl : fn = Tryd.f9 := (Option.some.inj (Tryd.func9.symm.trans hfn)).symm
      exact ⟨by kernel_rfl, fun j t ht => by
        rw [Tryd.params9] at ht
        have hm : t ∈ [28, 28] := by simpa using Array.mem_of_getElem? ht
        have hall : ([28, 28].all fun u => !Tryd.prog.wantsStandIn u) = true := by kernel_rfl
        exact (show Tryd.prog.wantsStandIn t = false by simpa using List.all_eq_true.1 hall t hm)⟩)
    (by kernel_rfl)
end Go.Proofs.YtgbnigbjnbcfeaaDoor.eventDistinct
