/- SensorReturns holds for every input: a record is decoded from its bytes; a changed byte and a cut string are detected. No condition. -/
import Derived.Test.YtigooekimkkhaaaG5
import Derived.Test.YtigooekimkkhaaaTp
import Derived.Test.YtigooekimkkhaaaG6
namespace Go.Proofs.Ytigooekimkkhaaa.sensorReturns
open Go.RowKit Go.ChangeShapes Go.WideShapes Go.ChangeAt Go.Proofs.Ytigooekimkkhaaa.Mem Go.Proofs.Ytigooekimkkhaaa.F2p Go.Proofs.Ytigooekimkkhaaa.C4l Go.Proofs.Ytigooekimkkhaaa.Ta Go.Proofs.Ytigooekimkkhaaa.Tb Go.Proofs.Ytigooekimkkhaaa.Ua Go.Proofs.Ytigooekimkkhaaa.Um Go.Proofs.Ytigooekimkkhaaa.Law Go.Proofs.Ytigooekimkkhaaa.Made Go.Proofs.Ytigooekimkkhaaa.Tl
set_option maxRecDepth 100000
set_option maxHeartbeats 1000000

theorem dcut (U : Option Addr) (n c : Nat) (x : List UInt8) (k : Nat) (w : World) (hs : Sl w U n c (x.take k)) (hk : k < 9) :
    Calls Try.prog 25 #[.slice U n c] w fun e w' => ∃ A n c, e = .returned (.tuple #[.agg (cells noSn (.slice A n c)), .int .i64 4]) ∧ Below w.heap.size w w' := by
  have hl := hs.len
  rw [List.length_take] at hl
  have h := dec_p U n c _ w hs (by omega)
  rw [dec_cut x k hk] at h
  exact h.mono fun e w' ⟨A, n, c, h1, _, h3⟩ => ⟨A, n, c, h1, h3⟩
theorem dbad (U : Option Addr) (n c : Nat) (x : List UInt8) (w : World) (hs : Sl w U n c x) (hn : n ≤ 100000) (hd : decS x = (noSn, 5)) :
    Calls Try.prog 25 #[.slice U n c] w fun e w' => ∃ A n c, e = .returned (.tuple #[.agg (cells noSn (.slice A n c)), .int .i64 5]) ∧ Below w.heap.size w w' := by
  have h := dec_p U n c _ w hs hn
  rw [hd] at h
  exact h.mono fun e w' ⟨A, n, c, h1, _, h3⟩ => ⟨A, n, c, h1, h3⟩
theorem dgood (U : Option Addr) (n c : Nat) (x : List UInt8) (s : Sn) (w : World) (hs : Sl w U n c x) (hn : n ≤ 100000) (hd : decS x = (s, 0)) :
    Calls Try.prog 25 #[.slice U n c] w fun e w' => ∃ A n c, e = .returned (.tuple #[.agg (cells s (.slice A n c)), .int .i64 0]) ∧ PSl w' A n c s.c.p ∧ Below w.heap.size w w' := by
  have h := dec_p U n c _ w hs hn
  rw [hd] at h
  exact h
theorem xor_ne (x : UInt8) (m : Nat) (h : m ≠ 0) (hm : m < 256) : x ^^^ UInt8.ofNat m ≠ x := by
  intro e
  have h1 : UInt8.ofNat m = 0 := by
    have := congrArg (fun y => x ^^^ y) e
    simp only [← UInt8.xor_assoc, UInt8.xor_self, UInt8.zero_xor] at this
    exact this
  have h2 := congrArg UInt8.toNat h1
  rw [UInt8.toNat_ofNat', Nat.mod_eq_of_lt hm] at h2
  exact h h2
theorem walk (A : Option Addr) (n c : Nat) (l : List Int) (hn : n = l.length) (hw : ∀ x ∈ l, -9223372036854775808 ≤ x ∧ x ≤ 9223372036854775807) (hc : n ≤ c) (hm : c ≤ maxLen) (_hA : A = none → c = 0)
    (at_ : Int) (hat : -9223372036854775808 ≤ at_ ∧ at_ ≤ 9223372036854775807) (m : Int) (hmm : 0 ≤ m ∧ m ≤ 255) (ct : Int) (hct : -9223372036854775808 ≤ ct ∧ ct ≤ 9223372036854775807)
    (w : World) (hr : IRow w.heap.size w A l) :
    Calls Try.prog 5 #[.slice A n c, .int .i64 at_, .int .u8 m, .int .i64 ct] w fun e w' => e = .returned (.bool true) ∧ Below w.heap.size w w' := by
  have hnm : n ≤ maxLen := by omega
  obtain ⟨m, rfl⟩ := Int.eq_ofNat_of_zero_le hmm.1
  have hm256 : m < 256 := by omega
  have HN := Lib.hid hn
  have HW := Lib.hid hw
  clear hn hw hc hm _hA
  have haw := Lib.hid (fun u => awake_any u)
  by_cases h6 : n ≤ 600
  case neg =>
    have d6 : decide (n ≤ 600) = false := decide_eq_false h6
    go_enter Try.func5, Try.ntmps5
    go_wp2_with fail
    refine (Made.lightmade_any A n c _ hnm).mono ?_
    rintro e w' ⟨rfl, rfl⟩
    rw [d6]
    go_wp2_with fail
    refine (haw.out _).mono ?_
    rintro e w3 ⟨rfl, hb3⟩
    go_wp2_with fail
    go_ret
    exact ⟨rfl, hb3⟩
  have d6 : decide (n ≤ 600) = true := decide_eq_true h6
  go_enter Try.func5, Try.ntmps5
  go_wp2_with fail
  refine (Made.lightmade_any A n c _ hnm).mono ?_
  rintro e w' ⟨rfl, rfl⟩
  rw [d6]
  go_wp2_with fail
  refine (Made.roll_any A n c w).mono ?_
  rintro e w1 ⟨rfl, rfl⟩
  have hdz := Dz.start A n c l w hr HN.out HW.out (by omega)
  have hb1 : Below w.heap.size w (w.alloc (.cells #[.slice A n c, .int .i64 0] 66)) := (Below.refl _ _).alloc (Nat.le_refl _) _
  generalize w.alloc (.cells #[.slice A n c, .int .i64 0] 66) = w1 at *
  go_wp2_with fail
  refine hdz.byte.mono ?_
  rintro e w2 ⟨nu, rfl, hd2, hg2⟩
  have hb2 := hb1.grown hg2 hb1.size (fun k hk => by injection hk; omega)
  clear hdz hb1 hg2
  go_wp2_with fail
  refine (sensor_any nu hd2).mono ?_
  rintro e w3 ⟨s, V, rfl, hv, hfit, -, hown, -, hg3⟩
  have hb3 := hb2.grown hg3 hb2.size (fun k hk => by injection hk; omega)
  obtain ⟨PA, pn, pc, rfl, hsl3⟩ := hown.sl
  clear hd2 hg3 hb2 hown d6 h6 hnm HN HW hr
  have HDE := Lib.hid (dec_encS hv hfit)
  have HEL := Lib.hid (enc_len hv)
  have HCH := Lib.hid (fun i (h : i < (encS s).length) y (hne : y ≠ (encS s)[i]) => dec_changed hv h y hne)
  clear hfit
  have hq4 := Bx.zero w3
  have ha4 : Below w3.heap.size w3 (w3.alloc (.cells #[.int .u8 0, .int .u8 0, .int .u8 0, .string ⟨#[]⟩, .int .u8 0, .int .u8 0, .bool false, .int .i64 0, .bool false, .int .i64 0, .int .i64 0, .int .i64 0, .int .i64 0, .slice none 0 0, .int .u8 0, .int .u8 0, .int .u8 0, .int .u8 0, .int .u8 0, .int .u8 0, .int .u8 0, .int .u8 0, .int .u8 0, .int .u16 0, .int .u16 0, .int .u16 0, .bool false, .int .i64 0] 32)) := (Below.refl _ _).alloc (Nat.le_refl _) _
  go_wp2_with (refine wpList_store_bx rfl (.tmp 10) (.tmp 28) rfl w3.heap.size s noSn (.slice PA pn pc) (.slice none 0 0) rfl rfl rfl hq4 ?_; intro w4 hx4 hg4; refine Hid.out ?_)
  refine Lib.hid ?_
  have hb4 := ha4.grown hg4 ha4.size (fun k hk => by injection hk; omega)
  clear hq4 ha4 hg4
  have hsl4 := hsl3.step hb4
  have hbb4 := hb3.trans (hb4.mono hb3.size)
  have HENC := Lib.hid (encp_p s PA pn pc w4 hsl4 hv)
  clear hsl3 hb3 hb4 hv
  go_wp2_with (refine wpList_load_bx rfl (.tmp 10) rfl _ _ _ rfl hx4 ?_)
  refine HENC.out.mono ?_
  rintro e w5 ⟨u, rfl, hou, hb5⟩
  generalize encS s = E at *
  obtain ⟨U, un, uc, rfl, hus⟩ := Sl.of_own hou
  have hel := HEL.out
  have hun := hus.len
  obtain ⟨g, rfl, p1, q1⟩ := own_some hou (by omega)
  have hx5 := hx4.below hb5
  have hsl5 := hsl4.step hb5
  have hbb5 := hbb4.trans (hb5.mono hbb4.size)
  have hu1 : decide ((un : Int) < 10) = false := by simp; omega
  have hu2 : decide (160 < (un : Int)) = false := by simp; omega
  have HD := Lib.hid (dgood (some ⟨g, 0, none⟩) un uc E s w5 hus (by omega) HDE.out)
  have hgp : w.heap.size ≤ g := Nat.le_trans hbb4.size p1
  have HUN := Lib.hid (And.intro hun hel)
  have hur : 10 ≤ un ∧ un ≤ 160 := by omega
  clear hx4 hsl4 hb5 hbb4 HENC HDE HEL hun hel hus p1 q1
  go_wp2_with fail
  refine HD.out.mono ?_
  rintro e w6 ⟨XA, xn, xc, rfl, hxs6, hb6⟩
  have hx6 := hx5.below hb6
  have hsl6 := hsl5.step hb6
  have hou6 := hou.below hb6 (Nat.le_refl _)
  have hbb6 := hbb5.trans (hb6.mono hbb5.size)
  clear hx5 hsl5 hou hb6 hbb5 HD hu1 hu2
  have hq7 := Bx.zero w6
  have ha7 : Below w6.heap.size w6 (w6.alloc (.cells #[.int .u8 0, .int .u8 0, .int .u8 0, .string ⟨#[]⟩, .int .u8 0, .int .u8 0, .bool false, .int .i64 0, .bool false, .int .i64 0, .int .i64 0, .int .i64 0, .int .i64 0, .slice none 0 0, .int .u8 0, .int .u8 0, .int .u8 0, .int .u8 0, .int .u8 0, .int .u8 0, .int .u8 0, .int .u8 0, .int .u8 0, .int .u16 0, .int .u16 0, .int .u16 0, .bool false, .int .i64 0] 32)) := (Below.refl _ _).alloc (Nat.le_refl _) _
  go_wp2_with (refine wpList_store_bx rfl (.tmp 13) (.tmp 49) rfl w6.heap.size s noSn (.slice XA xn xc) (.slice none 0 0) rfl rfl rfl hq7 ?_; intro w7 hy7 hg7; refine Hid.out ?_)
  refine Lib.hid ?_
  have hb7 := ha7.grown hg7 ha7.size (fun k hk => by injection hk; omega)
  clear hq7 ha7 hg7
  have hx7 := hx6.below hb7
  have hsl7 := hsl6.step hb7
  have hxs7 := hxs6.step hb7
  have hou7 := hou6.below hb7 (Nat.le_refl _)
  have hbb7 := hbb6.trans (hb7.mono hbb6.size)
  have HSM := Lib.hid (same_p s PA XA pn xn pc xc w7 hsl7 hxs7)
  clear hx6 hsl6 hxs6 hou6 hbb6 hb7 hsl7 hxs7
  go_wp2_with (first | refine wpList_load_bx_w rfl (.tmp 10) rfl _ _ _ rfl hx7 ?_ | refine wpList_load_bx_w rfl (.tmp 13) rfl _ _ _ rfl hy7 ?_)
  refine HSM.out.mono ?_
  rintro e w8 ⟨rfl, hb8⟩
  have hou8 := hou7.below hb8 (Nat.le_refl _)
  have hbb8 := hbb7.trans (hb8.mono hbb7.size)
  have hus8 := sl_own hou8 HUN.out.1
  clear hx7 hy7 hou7 hbb7 hb8 HSM
  generalize hU : (some ⟨g, 0, none⟩ : Option Addr) = U at hus8
  by_cases hm0 : m = 0
  · subst hm0
    have HUS := Lib.hid hus8
    subst hU
    clear hus8
    go_wp2_with fail
    have hus8 := HUS.out
    clear HUS hou8
    refine (Made.mod_any ct 9 w8 hct.1 hct.2 (by omega) (by omega)).mono ?_
    rintro e w' ⟨⟨r, hr9, rfl, -⟩, rfl⟩
    have hsr : Sl w8 (some ⟨g, 0, none⟩) r uc ((E).take r) := ⟨by have := hus8.len; simp; omega, row_take hus8.row r, by have := hus8.cap; omega, hus8.max, hus8.nil⟩
    have HD2 := Lib.hid (dcut (some ⟨g, 0, none⟩) r uc (E) r w8 hsr hr9)
    have g1 : (0 : Int) ≤ (r : Int) := by omega
    have g2 : (r : Int) ≤ (uc : Int) := by have := hus8.cap; omega
    have g3 : (r : Int) ≤ (un : Int) := by omega
    clear hsr hus8
    go_wp2_with fail
    refine HD2.out.mono ?_
    rintro e v1 ⟨YA, yn, yc, rfl, hv1⟩
    have hbv1 := hbb8.trans (hv1.mono hbb8.size)
    clear hv1 HD2 g1 g2 g3 hbb8
    have hqv2 := Bx.zero v1
    have hav2 : Below v1.heap.size v1 (v1.alloc (.cells #[.int .u8 0, .int .u8 0, .int .u8 0, .string ⟨#[]⟩, .int .u8 0, .int .u8 0, .bool false, .int .i64 0, .bool false, .int .i64 0, .int .i64 0, .int .i64 0, .int .i64 0, .slice none 0 0, .int .u8 0, .int .u8 0, .int .u8 0, .int .u8 0, .int .u8 0, .int .u8 0, .int .u8 0, .int .u8 0, .int .u8 0, .int .u16 0, .int .u16 0, .int .u16 0, .bool false, .int .i64 0] 32)) := (Below.refl _ _).alloc (Nat.le_refl _) _
    go_wp2_with (refine wpList_store_bx rfl (.tmp 17) (.tmp 84) rfl v1.heap.size noSn noSn (.slice YA yn yc) (.slice none 0 0) rfl rfl rfl hqv2 ?_; intro v2 hxv2 hgv2; refine Hid.out ?_)
    refine Lib.hid ?_
    have hbv2 := hav2.grown hgv2 hav2.size (fun k hk => by injection hk; omega)
    clear hqv2 hav2 hgv2
    have hbz2 := hbv1.trans (hbv2.mono hbv1.size)
    clear hbv1 hbv2 hxv2
    go_wp2_with fail
    refine (haw.out _).mono ?_
    rintro e v3 ⟨rfl, hv3⟩
    go_wp2_with fail
    go_ret
    exact ⟨rfl, hbz2.trans (hv3.mono hbz2.size)⟩
  · have hmz : ((m : Int) == 0) = false := by rw [beq_eq_false_iff_ne]; omega
    have hmz2 : ((m : Int) != 0) = true := by rw [bne_iff_ne]; omega
    subst hU
    clear hus8
    go_wp2_with fail
    refine (Made.mod_any at_ un w8 hat.1 hat.2 (by omega) (by omega)).mono ?_
    rintro e w' ⟨⟨i, hi, rfl, -⟩, rfl⟩
    have hi2 : i < E.length := by rw [← HUN.out.1]; exact hi
    have hcl := own_cell hou8 HUN.out.1 hi2
    have hfz := own_frozen hou8 HUN.out.1 i
    obtain ⟨ho9, t9⟩ := own_store hou8 HUN.out.1 i (E[i] ^^^ UInt8.ofNat m)
    have HB := Lib.hid (HCH.out i hi2 _ (xor_ne E[i] m hm0 hm256))
    have HL : Hid (un = (E.set i (E[i] ^^^ UInt8.ofNat m)).length) := Lib.hid (by rw [List.length_set]; exact HUN.out.1)
    have HO9 := Lib.hid ho9
    have HT9 := Lib.hid t9
    clear ho9 t9
    generalize hxb : E[i] = xb at *
    clear hxb
    go_wp2_with fail
    rw [bv_xor _ _ hm256]
    have ho9 := HO9.out
    have hbb9 := hbb8.grown HT9.out hbb8.size (fun q hq => by injection hq; omega)
    generalize E.set i (xb ^^^ UInt8.ofNat m) = F at *
    generalize w8.setCell ⟨g, i, none⟩ (bv (xb ^^^ UInt8.ofNat m)) = w9 at *
    clear hcl hfz hou8 HO9 HT9 HCH hbb8 hmz hmz2
    have hus9 := sl_own ho9 HL.out
    have HBD := Lib.hid (dbad (some ⟨g, 0, none⟩) un uc F w9 hus9 (by omega) HB.out)
    have HS9 := Lib.hid hus9
    clear hus9 ho9
    go_wp2_with fail
    refine HBD.out.mono ?_
    rintro e w10 ⟨ZA, zn, zc, rfl, hb10⟩
    have HS10 := Lib.hid (HS9.out.step hb10)
    have hbb10 := hbb9.trans (hb10.mono hbb9.size)
    clear hb10 hbb9 HS9 HBD
    have hq11 := Bx.zero w10
    have ha11 : Below w10.heap.size w10 (w10.alloc (.cells #[.int .u8 0, .int .u8 0, .int .u8 0, .string ⟨#[]⟩, .int .u8 0, .int .u8 0, .bool false, .int .i64 0, .bool false, .int .i64 0, .int .i64 0, .int .i64 0, .int .i64 0, .slice none 0 0, .int .u8 0, .int .u8 0, .int .u8 0, .int .u8 0, .int .u8 0, .int .u8 0, .int .u8 0, .int .u8 0, .int .u8 0, .int .u16 0, .int .u16 0, .int .u16 0, .bool false, .int .i64 0] 32)) := (Below.refl _ _).alloc (Nat.le_refl _) _
    go_wp2_with (refine wpList_store_bx rfl (.tmp 15) (.tmp 74) rfl w10.heap.size noSn noSn (.slice ZA zn zc) (.slice none 0 0) rfl rfl rfl hq11 ?_; intro w11 hx11 hg11; refine Hid.out ?_)
    refine Lib.hid ?_
    have hb11 := ha11.grown hg11 ha11.size (fun k hk => by injection hk; omega)
    clear hq11 ha11 hg11
    have HS11 := Lib.hid (HS10.out.step hb11)
    have hbb11 := hbb10.trans (hb11.mono hbb10.size)
    clear hb11 hbb10 HS10 hx11
    go_wp2_with fail
    have hus11 := HS11.out
    clear HS11
    refine (Made.mod_any ct 9 w11 hct.1 hct.2 (by omega) (by omega)).mono ?_
    rintro e w' ⟨⟨r, hr9, rfl, -⟩, rfl⟩
    have hsr : Sl w11 (some ⟨g, 0, none⟩) r uc ((F).take r) := ⟨by have := hus11.len; simp; omega, row_take hus11.row r, by have := hus11.cap; omega, hus11.max, hus11.nil⟩
    have HD2 := Lib.hid (dcut (some ⟨g, 0, none⟩) r uc (F) r w11 hsr hr9)
    have g1 : (0 : Int) ≤ (r : Int) := by omega
    have g2 : (r : Int) ≤ (uc : Int) := by have := hus11.cap; omega
    have g3 : (r : Int) ≤ (un : Int) := by omega
    clear hsr hus11
    go_wp2_with fail
    refine HD2.out.mono ?_
    rintro e v1 ⟨YA, yn, yc, rfl, hv1⟩
    have hbv1 := hbb11.trans (hv1.mono hbb11.size)
    clear hv1 HD2 g1 g2 g3 hbb11
    have hqv2 := Bx.zero v1
    have hav2 : Below v1.heap.size v1 (v1.alloc (.cells #[.int .u8 0, .int .u8 0, .int .u8 0, .string ⟨#[]⟩, .int .u8 0, .int .u8 0, .bool false, .int .i64 0, .bool false, .int .i64 0, .int .i64 0, .int .i64 0, .int .i64 0, .slice none 0 0, .int .u8 0, .int .u8 0, .int .u8 0, .int .u8 0, .int .u8 0, .int .u8 0, .int .u8 0, .int .u8 0, .int .u8 0, .int .u16 0, .int .u16 0, .int .u16 0, .bool false, .int .i64 0] 32)) := (Below.refl _ _).alloc (Nat.le_refl _) _
    go_wp2_with (refine wpList_store_bx rfl (.tmp 17) (.tmp 84) rfl v1.heap.size noSn noSn (.slice YA yn yc) (.slice none 0 0) rfl rfl rfl hqv2 ?_; intro v2 hxv2 hgv2; refine Hid.out ?_)
    refine Lib.hid ?_
    have hbv2 := hav2.grown hgv2 hav2.size (fun k hk => by injection hk; omega)
    clear hqv2 hav2 hgv2
    have hbz2 := hbv1.trans (hbv2.mono hbv1.size)
    clear hbv1 hbv2 hxv2
    go_wp2_with fail
    refine (haw.out _).mono ?_
    rintro e v3 ⟨rfl, hv3⟩
    go_wp2_with fail
    go_ret
    exact ⟨rfl, hbz2.trans (hv3.mono hbz2.size)⟩

theorem cells_u8 : Try.prog.cellsOf 5 = 1 := by kernel_rfl
theorem cells_int : Try.prog.cellsOf 3 = 1 := by kernel_rfl
theorem own : ownKnob Try.prog.godebug = none := by kernel_rfl
theorem laidOut : laidOutB Try.prog = true := by kernel_rfl
theorem contract (H : Type) (enc : TypeId × Value → H) (W : World) (base : Nat) (args : Array Value) (ds gs : List (DataW H)) (before : List MemPlace)
    (hval : ∀ (j : Nat) t v, Try.f5.params[j]? = some t → args[j]? = some v → Value.okWide Try.prog W .any base t v)
    (hW : DataW.Whole enc Try.prog Try.f5.params.toList Rows.sensorReturnsSpec.vars false W args.toList ds gs before) :
    Calls Try.prog 5 args W fun e W' => ∃ v, e = .returned v ∧ Rows.sensorReturnsSpec.post enc Try.prog Try.f5 false true false false W args v W' := by
  have hW' := hW
  obtain ⟨p, q, hA0, hV, rfl, hfz, hnd⟩ := hW
  have hA : DataW.TrodAll enc Try.prog W 0 (fun _ => true) true Try.f5.params.toList args.toList ds p := hA0
  rw [Try.params5] at hA hval
  obtain ⟨v0, vs0, d0, ds0, p0, q0, hargs, rfl, rfl, h0, r0⟩ := trodAll_cons hA
  obtain ⟨v1, vs1, d1, ds1, p1, q1, rfl, rfl, rfl, h1, r1⟩ := trodAll_cons r0
  obtain ⟨v2, vs2, d2, ds2, p2, q2, rfl, rfl, rfl, h2, r2⟩ := trodAll_cons r1
  obtain ⟨v3, vs3, d3, ds3, p3, q3, rfl, rfl, rfl, h3, r3⟩ := trodAll_cons r2
  obtain ⟨rfl, rfl, rfl⟩ := trodAll_nil r3
  obtain rfl : args = #[v0, v1, v2, v3] := by cases args; simp_all
  obtain ⟨A0, n0, c0, l0, rfl, hn0, hr0, hw0, hc0, hm0, hk0⟩ := open_int_list Try.underlying33 Try.underlying3 cells_int (hval 0 33 v0 rfl rfl) h0
  obtain ⟨a1, rfl, -, -, w1⟩ := open_int Try.underlying3 (hval 1 3 v1 rfl rfl) h1
  obtain ⟨a2, rfl, -, -, w2⟩ := open_int Try.underlying5 (hval 2 5 v2 rfl rfl) h2
  obtain ⟨a3, rfl, -, -, w3⟩ := open_int Try.underlying3 (hval 3 3 v3 rfl rfl) h3
  clear hA0
  refine (walk A0 n0 c0 l0 hn0 hw0 hc0 hm0 hk0 a1 (bounds_i64 w1) a2 (bounds_u8 w2) a3 (bounds_i64 w3) W hr0).mono fun e W' ⟨he, hb⟩ => ?_
  subst he
  exact ⟨_, rfl, law_post laidOut (types_fit (by kernel_rfl)) (by kernel_rfl) Try.underlying4 rfl (fun xs hx => by
    match xs, hx with
    | [_, _, _, _], _ => rfl) hW' hb⟩

theorem lifted (os : Os) (started : os.Started) (H : Type) (enc : TypeId × Value → H) :
    ReturnsInHanded {} Try.checked os 5 .any (Rows.sensorReturnsSpec.pre6 enc Try.prog Try.f5 Rows.sensorReturnsRow.domain false) (Rows.sensorReturnsSpec.post enc Try.prog Try.f5 false true false false) := by
  refine returnsInHanded_of_change (C := Try.checked) own started (by kernel_rfl) Try.func5
    (ChangeSpec.witness6 (enc := enc) (C := Try.checked) false ⟨#[], #[.slice none 0 0, .int .i64 0, .int .u8 0, .int .i64 0], []⟩ 8 (by kernel_rfl) (by kernel_rfl) (by kernel_rfl) (by kernel_rfl)) ?_
  intro W base args ds gs before hval hW _ _
  exact contract H enc W base args ds gs before hval hW

theorem proved : Rows.SensorReturnsSaid :=
  OpenClaim.holds_of_wide 5 Try.f5 rfl rfl rfl rfl rfl rfl rfl ⟨rfl, rfl, rfl, rfl, rfl⟩ rfl rfl rfl rfl rfl (by kernel_rfl) Try.func5 (by kernel_rfl)
    (of_decide_eq_true (by kernel_rfl)) (by unfold Func.isWrapper; first | (rw [if_pos (by decide +kernel)]; kernel_rfl) | (rw [if_neg (by decide +kernel)]; exact ⟨rfl, rfl⟩))
    (fun os started H enc _ => lifted os started H enc)
end Go.Proofs.Ytigooekimkkhaaa.sensorReturns
