/- SensorKinds holds for every input: an analog record is not valid as a discrete one, nor the reverse, and masks have no other bits. No condition. -/
import Derived.Test.YtafoaonkjcfbaaaK50
import Derived.Test.YtafoaonkjcfbaaaK41
import Derived.Test.YtafoaonkjcfbaaaK51
import Derived.Test.YtafoaonkjcfbaaaK39
import Derived.Deep.Cut
namespace Go.Proofs.Ytafoaonkjcfbaaa.sensorKinds
open Go.RowKit Go.ChangeShapes Go.WideShapes Go.ChangeAt Go.Proofs.Ytafoaonkjcfbaaa.Mem Go.Proofs.Ytafoaonkjcfbaaa.F2p Go.Proofs.Ytafoaonkjcfbaaa.C4l Go.Proofs.Ytafoaonkjcfbaaa.Ta Go.Proofs.Ytafoaonkjcfbaaa.Tb Go.Proofs.Ytafoaonkjcfbaaa.Law Go.Proofs.Ytafoaonkjcfbaaa.Made Go.Proofs.Ytafoaonkjcfbaaa.D5 Go.Proofs.Ytafoaonkjcfbaaa.Tl Go.Proofs.Ytafoaonkjcfbaaa.Ya Go.Proofs.Ytafoaonkjcfbaaa.Yv
set_option maxRecDepth 100000
set_option maxHeartbeats 0

theorem step_store_bx {ops : Array Oper} {o : Oper} {a : Act} {w : World} {K : Act → World → Prop} {Q : Exit → Act → World → Prop} {E : Prop} (hgd : o.guard = none) (x y : Operand) (ho : o.op = .store 59 x y)
    (r : Nat) (s s0 : Sn) (V V0 : Value) (hx : a.eval x = .pointer (some ⟨r, 0, none⟩)) (hy : a.eval y = .agg (cells s V)) (hV : V.oneCell' = true) (hb : Bx w r s0 V0)
    (h : ∀ w', Bx w' r s V → w.grownBy w' (some r) → K (a.put o.dst undef) w') : if Region.wanted o (yielded ops a.tmps) = true then Oper.wp Try.prog o a w K Q else E := by
  have hw : Region.wanted o (yielded ops a.tmps) = true := by simp [Region.wanted, hgd]
  rw [if_pos hw]
  exact wp_store_row _ x y ho r (cells s V) hx hy _ _ hb (by kernel_rfl) rfl (one_cells s V hV)
    (h _ (setRow_heap w r _ _ _ _ hb) ⟨rfl, rfl, rfl, by simp, fun k _ hk => setRow_other w r k _ (fun he => hk (by rw [he]))⟩)
theorem or_u16 (a b : Nat) (ha : a < 65536) (hb : b < 65536) : bits .or .u16 (a : Int) (b : Int) = ((a ||| b : Nat) : Int) := by
  show IntKind.u16.wrap ((BitVec.ofInt 16 (a : Int) ||| BitVec.ofInt 16 (b : Int)).toNat : Int) = _
  rw [BitVec.ofInt_natCast, BitVec.ofInt_natCast, BitVec.toNat_or, BitVec.toNat_ofNat, BitVec.toNat_ofNat, Nat.mod_eq_of_lt (show a < 2 ^ 16 by omega), Nat.mod_eq_of_lt (show b < 2 ^ 16 by omega)]
  exact IntWalk.u16_in _ ⟨by omega, by have : a ||| b < 2 ^ 16 := Nat.or_lt_two_pow (n := 16) (by omega) (by omega); omega⟩
structure Reg (v W : World) (F1 F2 F3 F4 F5 F6 F9 : Nat) (s1 b1 s2 b2 b3 s3 b : Sn) (P Q : List Pt) (PA : Option Addr) (pn pc : Nat) (DA : Option Addr) (dn dc : Nat) : Prop where
  x1 : Bx W F1 s1 (.slice PA pn pc)
  x2 : Bx W F2 b1 (.slice DA dn dc)
  x3 : Bx W F3 s2 (.slice PA pn pc)
  x4 : Bx W F4 b2 (.slice DA dn dc)
  x5 : Bx W F5 b3 (.slice DA dn dc)
  x6 : Bx W F6 s3 (.slice PA pn pc)
  x9 : Bx W F9 b (.slice DA dn dc)
  p : PSl W PA pn pc P
  q : PSl W DA dn dc Q
  hb : Below v.heap.size v W
theorem Reg.below {v W W' : World} {F1 F2 F3 F4 F5 F6 F9 : Nat} {s1 b1 s2 b2 b3 s3 b : Sn} {P Q : List Pt} {PA : Option Addr} {pn pc : Nat} {DA : Option Addr} {dn dc : Nat}
    (h : Reg v W F1 F2 F3 F4 F5 F6 F9 s1 b1 s2 b2 b3 s3 b P Q PA pn pc DA dn dc) (k : Below W.heap.size W W') : Reg v W' F1 F2 F3 F4 F5 F6 F9 s1 b1 s2 b2 b3 s3 b P Q PA pn pc DA dn dc :=
  ⟨h.x1.below k, h.x2.below k, h.x3.below k, h.x4.below k, h.x5.below k, h.x6.below k, h.x9.below k, h.p.step k, h.q.step k, h.hb.trans (k.mono h.hb.size)⟩
theorem Reg.drew {v W : World} {F1 F2 F3 F4 F5 F6 F9 : Nat} {s1 b1 s2 b2 b3 s3 b : Sn} {P Q : List Pt} {PA : Option Addr} {pn pc : Nat} {DA : Option Addr} {dn dc : Nat}
    (h : Reg v W F1 F2 F3 F4 F5 F6 F9 s1 b1 s2 b2 b3 s3 b P Q PA pn pc DA dn dc) : Reg v W.drew F1 F2 F3 F4 F5 F6 F9 s1 b1 s2 b2 b3 s3 b P Q PA pn pc DA dn dc :=
  ⟨h.x1, h.x2, h.x3, h.x4, h.x5, h.x6, h.x9, ⟨h.p.len, h.p.row, h.p.cap, h.p.max, h.p.nil⟩, ⟨h.q.len, h.q.row, h.q.cap, h.q.max, h.q.nil⟩, below_drew h.hb⟩
theorem and_u16 (a b : Nat) (ha : a < 65536) (hb : b < 65536) : bits .and .u16 (a : Int) (b : Int) = ((a &&& b : Nat) : Int) := by
  show IntKind.u16.wrap ((BitVec.ofInt 16 (a : Int) &&& BitVec.ofInt 16 (b : Int)).toNat : Int) = _
  rw [BitVec.ofInt_natCast, BitVec.ofInt_natCast, BitVec.toNat_and, BitVec.toNat_ofNat, BitVec.toNat_ofNat, Nat.mod_eq_of_lt (show a < 2 ^ 16 by omega), Nat.mod_eq_of_lt (show b < 2 ^ 16 by omega)]
  exact IntWalk.u16_in _ ⟨by omega, by have : a &&& b ≤ a := Nat.and_le_left; omega⟩
theorem okn_take (l : List UInt8) (j : Nat) (h : j < l.length) : (l.take (j + 1)).all chr = ((l.take j).all chr && chr l[j]) := by
  rw [List.take_succ_eq_append_getElem h, List.all_append]
  simp
theorem walk (A : Option Addr) (n c : Nat) (l : List Int) (hn : n = l.length) (hw : ∀ x ∈ l, -9223372036854775808 ≤ x ∧ x ≤ 9223372036854775807) (hc : n ≤ c) (hm : c ≤ maxLen) (_hA : A = none → c = 0)
    (bt : Int) (hbt : -9223372036854775808 ≤ bt ∧ bt ≤ 9223372036854775807) (nm : ByteArray) (hnmx : nm.size ≤ maxLen) (w : World) (hr : IRow w.heap.size w A l) :
    Calls Try.prog 7 #[.slice A n c, .int .i64 bt, .string nm] w fun e w' => e = .returned (.bool true) ∧ Below w.heap.size w w' := by
  have hnm : n ≤ maxLen := by omega
  obtain ⟨hbt1, hbt2⟩ := hbt
  have hmn : nm.size ≤ 2 ^ 63 - 1 := by unfold maxLen at hnmx; omega
  have HN := Lib.hid hn
  have HW := Lib.hid hw
  clear hn hw hc hm _hA
  have haw := Lib.hid (fun u => Tb.awake_any u)
  go_enter Try.func7, Try.ntmps7
  by_cases h6 : n ≤ 600
  case neg =>
    have d6 : decide (n ≤ 600) = false := decide_eq_false h6
    go_wp2_with fail
    refine (Made.lightmade_any A n c _ hnm).mono ?_
    rintro e w' ⟨rfl, rfl⟩
    rw [d6]
    go_wp2_with fail
    refine (haw.out _).mono ?_
    rintro e w3 ⟨rfl, hb3⟩
    go_wp2_with fail
    go_ret
    exact ⟨rfl, hb3⟩
  have d6 : decide (n ≤ 600) = true := decide_eq_true h6
  go_wp2_with fail
  refine (Made.lightmade_any A n c _ hnm).mono ?_
  rintro e w' ⟨rfl, rfl⟩
  rw [d6]
  by_cases h40 : nm.size ≤ 40
  case neg =>
    have d40 : decide (40 < (nm.size : Int)) = true := decide_eq_true (by omega)
    go_wp2_with fail
    refine (haw.out _).mono ?_
    rintro e w3 ⟨rfl, hb3⟩
    go_wp2_with fail
    go_ret
    exact ⟨rfl, hb3⟩
  have d40 : decide (40 < (nm.size : Int)) = false := decide_eq_false (by omega)
  go_wp2_with fail
  refine (Made.roll_any A n c w).mono ?_
  rintro e w1 ⟨rfl, rfl⟩
  have hdz := Dz.start A n c l w hr HN.out HW.out (by omega)
  have hb1 : Below w.heap.size w (w.alloc (.cells #[.slice A n c, .int .i64 0] 105)) := (Below.refl _ _).alloc (Nat.le_refl _) _
  have hs1 : w.heap.size < (w.alloc (.cells #[.slice A n c, .int .i64 0] 105)).heap.size := by rw [World.size_alloc]; omega
  generalize w.alloc (.cells #[.slice A n c, .int .i64 0] 105) = w1 at *
  go_wp2_with fail
  refine (analog_any 1 hdz).mono ?_
  rintro e w2 ⟨s, V, rfl, hv, hfs, -, hd, hown, hdz2, hg2⟩
  obtain ⟨PA, pn, pc, rfl, -⟩ := hown.sl
  have hb2 : Below w.heap.size w w2 := hb1.grown hg2 hb1.size (fun k hk => by injection hk; omega)
  have hs2 : w.heap.size < w2.heap.size := Nat.lt_of_lt_of_le hs1 hg2.size
  clear hdz hb1 hg2
  go_wp2_with fail
  refine (digital_any 2 hdz2).mono ?_
  rintro e w3 ⟨b, V, rfl, hvb, hfb, -, hdb, hownb, -, hg3⟩
  obtain ⟨DA, dn, dc, rfl, -⟩ := hownb.sl
  have hown3 := D5.pown_kept hown hg3 hs1
  have hb3 := hb2.grown hg3 hb2.size (fun k hk => by injection hk; omega)
  clear hdz2 hb2 hg3 hown hs1 hs2
  have z8 := (Bx.zero w3).alloc (.cells #[.int .u8 0, .int .u8 0, .int .u8 0, .string ⟨#[]⟩, .int .u8 0, .int .u8 0, .bool false, .int .i64 0, .bool false, .int .i64 0, .int .i64 0, .int .i64 0, .int .i64 0, .slice none 0 0, .int .u8 0, .int .u8 0, .int .u8 0, .int .u8 0, .int .u8 0, .int .u8 0, .int .u8 0, .int .u8 0, .int .u8 0, .int .u16 0, .int .u16 0, .int .u16 0, .bool false, .int .i64 0] 59)
  have z9 := Bx.zero (w3.alloc (.cells #[.int .u8 0, .int .u8 0, .int .u8 0, .string ⟨#[]⟩, .int .u8 0, .int .u8 0, .bool false, .int .i64 0, .bool false, .int .i64 0, .int .i64 0, .int .i64 0, .int .i64 0, .slice none 0 0, .int .u8 0, .int .u8 0, .int .u8 0, .int .u8 0, .int .u8 0, .int .u8 0, .int .u8 0, .int .u8 0, .int .u8 0, .int .u16 0, .int .u16 0, .int .u16 0, .bool false, .int .i64 0] 59))
  rw [World.size_alloc] at z9
  have hb5 := (hb3.alloc hb3.size (.cells #[.int .u8 0, .int .u8 0, .int .u8 0, .string ⟨#[]⟩, .int .u8 0, .int .u8 0, .bool false, .int .i64 0, .bool false, .int .i64 0, .int .i64 0, .int .i64 0, .int .i64 0, .slice none 0 0, .int .u8 0, .int .u8 0, .int .u8 0, .int .u8 0, .int .u8 0, .int .u8 0, .int .u8 0, .int .u8 0, .int .u8 0, .int .u16 0, .int .u16 0, .int .u16 0, .bool false, .int .i64 0] 59)).alloc (by have := hb3.size; simp; omega) (.cells #[.int .u8 0, .int .u8 0, .int .u8 0, .string ⟨#[]⟩, .int .u8 0, .int .u8 0, .bool false, .int .i64 0, .bool false, .int .i64 0, .int .i64 0, .int .i64 0, .int .i64 0, .slice none 0 0, .int .u8 0, .int .u8 0, .int .u8 0, .int .u8 0, .int .u8 0, .int .u8 0, .int .u8 0, .int .u8 0, .int .u8 0, .int .u16 0, .int .u16 0, .int .u16 0, .bool false, .int .i64 0] 59)
  have o5 : POwn w1.heap.size ((w3.alloc (.cells #[.int .u8 0, .int .u8 0, .int .u8 0, .string ⟨#[]⟩, .int .u8 0, .int .u8 0, .bool false, .int .i64 0, .bool false, .int .i64 0, .int .i64 0, .int .i64 0, .int .i64 0, .slice none 0 0, .int .u8 0, .int .u8 0, .int .u8 0, .int .u8 0, .int .u8 0, .int .u8 0, .int .u8 0, .int .u8 0, .int .u8 0, .int .u16 0, .int .u16 0, .int .u16 0, .bool false, .int .i64 0] 59)).alloc (.cells #[.int .u8 0, .int .u8 0, .int .u8 0, .string ⟨#[]⟩, .int .u8 0, .int .u8 0, .bool false, .int .i64 0, .bool false, .int .i64 0, .int .i64 0, .int .i64 0, .int .i64 0, .slice none 0 0, .int .u8 0, .int .u8 0, .int .u8 0, .int .u8 0, .int .u8 0, .int .u8 0, .int .u8 0, .int .u8 0, .int .u8 0, .int .u16 0, .int .u16 0, .int .u16 0, .bool false, .int .i64 0] 59)) (.slice PA pn pc) s.c.p := World.ownsRow.alloc (World.ownsRow.alloc hown3 _) _
  have ob5 : POwn w2.heap.size ((w3.alloc (.cells #[.int .u8 0, .int .u8 0, .int .u8 0, .string ⟨#[]⟩, .int .u8 0, .int .u8 0, .bool false, .int .i64 0, .bool false, .int .i64 0, .int .i64 0, .int .i64 0, .int .i64 0, .slice none 0 0, .int .u8 0, .int .u8 0, .int .u8 0, .int .u8 0, .int .u8 0, .int .u8 0, .int .u8 0, .int .u8 0, .int .u8 0, .int .u16 0, .int .u16 0, .int .u16 0, .bool false, .int .i64 0] 59)).alloc (.cells #[.int .u8 0, .int .u8 0, .int .u8 0, .string ⟨#[]⟩, .int .u8 0, .int .u8 0, .bool false, .int .i64 0, .bool false, .int .i64 0, .int .i64 0, .int .i64 0, .int .i64 0, .slice none 0 0, .int .u8 0, .int .u8 0, .int .u8 0, .int .u8 0, .int .u8 0, .int .u8 0, .int .u8 0, .int .u8 0, .int .u8 0, .int .u16 0, .int .u16 0, .int .u16 0, .bool false, .int .i64 0] 59)) (.slice DA dn dc) b.c.p := World.ownsRow.alloc (World.ownsRow.alloc hownb _) _
  have hsz3 := hb3.size
  clear hown3 hownb hb3
  go_wp2_with (refine wpList_store_bx rfl (.tmp 8) (.tmp 31) rfl w3.heap.size s noSn (.slice PA pn pc) (.slice none 0 0) rfl rfl rfl z8 ?_; intro w6 hx6 hg6; refine Hid.out ?_)
  refine Lib.hid ?_
  have z9 := z9.kept hg6 (fun e => by injection e; omega)
  have o6 := Tl.pown_far o5 z8 hg6
  have ob6 := Tl.pown_far ob5 z8 hg6
  have hb6 := hb5.grown hg6 hb5.size (fun k hk => by injection hk; omega)
  clear z8 o5 ob5 hb5 hg6
  go_wp2_with (refine wpList_store_bx rfl (.tmp 9) (.tmp 33) rfl (w3.heap.size + 1) b noSn (.slice DA dn dc) (.slice none 0 0) rfl rfl rfl z9 ?_; intro w7 hy hg7; refine Hid.out ?_)
  refine Lib.hid ?_
  have hx := hx6.kept hg7 (fun e => by injection e; omega)
  have o7 := Tl.pown_far o6 z9 hg7
  have ob7 := Tl.pown_far ob6 z9 hg7
  have hb7 := hb6.grown hg7 hb6.size (fun k hk => by injection hk; omega)
  clear z9 o6 ob6 hb6 hg7 hx6
  obtain ⟨F8, hF8⟩ : ∃ F, F = w3.heap.size := ⟨_, rfl⟩
  obtain ⟨F9, hF9⟩ : ∃ F, F = w3.heap.size + 1 := ⟨_, rfl⟩
  rw [← hF9] at hy ⊢
  rw [← hF8] at hx ⊢
  have hlo89 : w.heap.size ≤ F8 ∧ w.heap.size ≤ F9 := by omega
  clear hF8 hF9 hsz3
  have p7 := psl_own o7
  have pb7 := psl_own ob7
  have hnms := name_le hv
  have hnmb := name_le hvb
  have HV := Lib.hid fun (u : World) (hu : PSl u PA pn pc s.c.p) => by have := valid_p s PA pn pc u hu hnms; rw [hv] at this; exact this
  have HVB := Lib.hid fun (u : World) (hu : PSl u DA dn dc b.c.p) => by have := valid_p b DA dn dc u hu hnmb; rw [hvb] at this; exact this
  obtain ⟨s1, es1⟩ : ∃ x, x = ({ s with d := true } : Sn) := ⟨_, rfl⟩
  have HC1 := Lib.hid fun (u : World) (hu : PSl u PA pn pc s.c.p) => by have := valid_p s1 PA pn pc u (by rw [show s1.c.p = s.c.p by rw [es1]]; exact hu) (by rw [show s1.nm = s.nm by rw [es1]]; exact hnms); rw [show vs s1 = false by rw [es1, ana_turned hv hd]] at this; exact this
  have Es1 := Lib.hid es1
  clear es1
  obtain ⟨b1, eb1⟩ : ∃ x, x = ({ b with d := false } : Sn) := ⟨_, rfl⟩
  have HC2 := Lib.hid fun (u : World) (hu : PSl u DA dn dc b.c.p) => by have := valid_p b1 DA dn dc u (by rw [show b1.c.p = b.c.p by rw [eb1]]; exact hu) (by rw [show b1.nm = b.nm by rw [eb1]]; exact hnmb); rw [show vs b1 = false by rw [eb1, dig_turned hvb hdb]] at this; exact this
  have Eb1 := Lib.hid eb1
  clear eb1
  obtain ⟨s2, es2⟩ : ∃ x, x = ({ s with av := s.av ||| 64 } : Sn) := ⟨_, rfl⟩
  have HC3 := Lib.hid fun (u : World) (hu : PSl u PA pn pc s.c.p) => by have := valid_p s2 PA pn pc u (by rw [show s2.c.p = s.c.p by rw [es2]]; exact hu) (by rw [show s2.nm = s.nm by rw [es2]]; exact hnms); rw [show vs s2 = false by rw [es2, ana_assert hv hd]] at this; exact this
  have Es2 := Lib.hid es2
  clear es2
  obtain ⟨b2, eb2⟩ : ∃ x, x = ({ b with dv := b.dv ||| 32768 } : Sn) := ⟨_, rfl⟩
  have HC4 := Lib.hid fun (u : World) (hu : PSl u DA dn dc b.c.p) => by have := valid_p b2 DA dn dc u (by rw [show b2.c.p = b.c.p by rw [eb2]]; exact hu) (by rw [show b2.nm = b.nm by rw [eb2]]; exact hnmb); rw [show vs b2 = false by rw [eb2, dig_deassert hvb hdb]] at this; exact this
  have Eb2 := Lib.hid eb2
  clear eb2
  obtain ⟨s3, es3⟩ : ∃ x, x = ({ s with nm := nm } : Sn) := ⟨_, rfl⟩
  have HC6 := Lib.hid fun (u : World) (hu : PSl u PA pn pc s.c.p) => by have := valid_p s3 PA pn pc u (by rw [show s3.c.p = s.c.p by rw [es3]]; exact hu) (by rw [show s3.nm = nm by rw [es3]]; exact hnmx); rw [show vs s3 = okn (bl nm) by rw [es3, ana_named hv nm]] at this; exact this
  have Es3 := Lib.hid es3
  clear es3
  obtain ⟨gk, hgk⟩ : ∃ g, g = okn (bl nm) := ⟨_, rfl⟩
  rw [← hgk] at HC6
  have HGK := Lib.hid hgk
  clear hgk
  have HC5 := Lib.hid fun (j : Nat) (hj : j < 15) (u : World) (hu : PSl u DA dn dc b.c.p) => by have := valid_p { b with av := b.av ||| 2 ^ j } DA dn dc u hu hnmb; rw [dig_assert hvb hdb j hj] at this; exact this
  go_wp2_with (refine wpList_load_bx rfl (.tmp 8) rfl _ _ _ rfl hx ?_)
  refine (HV.out _ p7).mono ?_
  rintro e w8 ⟨rfl, hb8⟩
  have hx := hx.below hb8
  have hy := hy.below hb8
  have p8 := p7.step hb8
  have pb8 := pb7.step hb8
  have hb := hb7.trans (hb8.mono hb7.size)
  clear p7 pb7 hb7 hb8 o7 ob7
  go_wp2_with (refine wpList_load_bx_w (by rfl) (.tmp 9) rfl _ _ _ rfl hy ?_)
  refine (HVB.out _ pb8).mono ?_
  rintro e w9 ⟨rfl, hb9⟩
  have hx := hx.below hb9
  have hy := hy.below hb9
  have p9 := p8.step hb9
  have pb9 := pb8.step hb9
  have hb := hb.trans (hb9.mono hb.size)
  clear p8 pb8 hb9 HV HVB
  go_wp2_with fail
  have hx : Bx w9.drew F8 s (.slice PA pn pc) := hx
  have hy : Bx w9.drew F9 b (.slice DA dn dc) := hy
  have p9 : PSl w9.drew PA pn pc s.c.p := ⟨p9.len, p9.row, p9.cap, p9.max, p9.nil⟩
  have pb9 : PSl w9.drew DA dn dc b.c.p := ⟨pb9.len, pb9.row, pb9.cap, pb9.max, pb9.nil⟩
  have hb9 := below_drew hb
  have hlt8 := hx.lt
  have hlt9 := hy.lt
  clear hb
  have hb := Below.refl w9.drew.heap.size w9.drew
  have HX := Lib.hid hx
  have HY := Lib.hid hy
  have HP := Lib.hid p9
  have HPB := Lib.hid pb9
  obtain ⟨B0, hB0⟩ : ∃ B, B = w9.drew.heap.size := ⟨_, rfl⟩
  rw [← hB0] at hlt8 hlt9
  have HB0 := Lib.hid hB0
  clear hB0
  clear hx hy p9 pb9
  obtain ⟨v_w10, hvd1⟩ : ∃ u, u = w9.drew := ⟨_, rfl⟩
  rw [← hvd1] at HX HY HP HPB hb HB0 hb9
  go_cut [10, 11] from 26 (fun p q wx => ∃ G1 G2 : Nat, p = .pointer (some ⟨G1, 0, none⟩) ∧ q = .pointer (some ⟨G2, 0, none⟩) ∧ Bx wx G1 s (.slice PA pn pc) ∧ Bx wx G2 b (.slice DA dn dc) ∧ G1 ≠ G2 ∧ B0 ≤ G1 ∧ B0 ≤ G2 ∧ Below v_w10.heap.size v_w10 wx)
  case first =>
    refine wp_region_held_drew (S := (fun W => Bx W F8 s (.slice PA pn pc) ∧ Bx W F9 b (.slice DA dn dc))) (by kernel_rfl) ?_ (fun hHeld => ?_)
    · (try dsimp only); rw [← hvd1]; exact ⟨HX.out.below hb, HY.out.below hb⟩
    generalize w9.drew = vg at *
    subst hvd1
    refine wpAnyH_take (i := 0) (oi := _) (v := ?vz11_0) rfl (by kernel_rfl) (by kernel_rfl) (by kernel_rfl) (fun _ _ _ h => h) (Or.inl ⟨rfl, ?yz11_0⟩) (by assumption) ?_
    case yz11_0 => intro w hSw; (try dsimp only at hSw); ((refine exec_load_bx2 (.tmp 8) ?_ ?_ hSw.1) <;> rfl)
    (try simp only [Act.put, List.getElem_toArray, List.getElem_cons_zero, List.setIfInBounds_toArray, List.set_cons_zero, List.set_cons_succ])
    refine wpAnyH_take (i := 1) (oi := _) (v := ?vz12_1) rfl (by kernel_rfl) (by kernel_rfl) (by kernel_rfl) (fun _ _ _ h => h) (Or.inl ⟨rfl, ?yz12_1⟩) (by assumption) ?_
    case yz12_1 => intro w hSw; (try dsimp only at hSw); ((refine exec_load_bx2 (.tmp 9) ?_ ?_ hSw.2) <;> rfl)
    (try simp only [Act.put, List.getElem_toArray, List.getElem_cons_succ, List.getElem_cons_zero, List.setIfInBounds_toArray, List.set_cons_zero, List.set_cons_succ])
    refine wpAnyH_ready (rs := [2, 3]) (by kernel_rfl) (by simp) ?_
    refine (AllReadyH.cons (o := _) rfl (fun K hK => ?_) (AllReadyH.cons (o := _) rfl (fun K hK => ?_) AllReadyH.nil))
    · skip
      rw [if_pos (by rfl)]
      go_simp
      have a1 := Bx.zero v_w10
      have lo1 : B0 ≤ v_w10.heap.size := by have h1 := hb.size; have h2 := HB0.out; omega
      have hb := hb.alloc hb.size (.cells #[.int .u8 0, .int .u8 0, .int .u8 0, .string ⟨#[]⟩, .int .u8 0, .int .u8 0, .bool false, .int .i64 0, .bool false, .int .i64 0, .int .i64 0, .int .i64 0, .int .i64 0, .slice none 0 0, .int .u8 0, .int .u8 0, .int .u8 0, .int .u8 0, .int .u8 0, .int .u8 0, .int .u8 0, .int .u8 0, .int .u8 0, .int .u16 0, .int .u16 0, .int .u16 0, .bool false, .int .i64 0] 59)
      refine hK.out _ _ ?_ (fun hHeld => ?_)
      · (try dsimp only); exact ⟨HX.out.below hb, HY.out.below hb⟩
      clear hK K
      (try simp only [Act.put, List.getElem_toArray, List.getElem_cons_succ, List.getElem_cons_zero, List.setIfInBounds_toArray, List.set_cons_zero, List.set_cons_succ])
      obtain ⟨F1, hF1⟩ : ∃ F, F = v_w10.heap.size := ⟨_, rfl⟩
      rw [← hF1] at a1 lo1 ⊢
      clear hF1
      obtain ⟨w13_, hww13_⟩ : ∃ u, u = v_w10.alloc (.cells #[.int .u8 0, .int .u8 0, .int .u8 0, .string ⟨#[]⟩, .int .u8 0, .int .u8 0, .bool false, .int .i64 0, .bool false, .int .i64 0, .int .i64 0, .int .i64 0, .int .i64 0, .slice none 0 0, .int .u8 0, .int .u8 0, .int .u8 0, .int .u8 0, .int .u8 0, .int .u8 0, .int .u8 0, .int .u8 0, .int .u8 0, .int .u16 0, .int .u16 0, .int .u16 0, .bool false, .int .i64 0] 59) := ⟨_, rfl⟩
      rw [← hww13_] at a1 hb  hHeld ⊢
      clear hww13_
      refine wpAnyH_ready (rs := [3]) (by kernel_rfl) (by simp) ?_
      refine (AllReadyH.cons (o := _) rfl (fun K hK => ?_) AllReadyH.nil)
      rw [if_pos (by rfl)]
      go_simp
      have a2 := Bx.zero w13_
      have lo2 : B0 ≤ w13_.heap.size := by have h1 := hb.size; have h2 := HB0.out; omega
      have hne : F1 ≠ w13_.heap.size := by have := a1.lt; omega
      have hb := hb.alloc hb.size (.cells #[.int .u8 0, .int .u8 0, .int .u8 0, .string ⟨#[]⟩, .int .u8 0, .int .u8 0, .bool false, .int .i64 0, .bool false, .int .i64 0, .int .i64 0, .int .i64 0, .int .i64 0, .slice none 0 0, .int .u8 0, .int .u8 0, .int .u8 0, .int .u8 0, .int .u8 0, .int .u8 0, .int .u8 0, .int .u8 0, .int .u8 0, .int .u16 0, .int .u16 0, .int .u16 0, .bool false, .int .i64 0] 59)
      have a1 := a1.alloc (.cells #[.int .u8 0, .int .u8 0, .int .u8 0, .string ⟨#[]⟩, .int .u8 0, .int .u8 0, .bool false, .int .i64 0, .bool false, .int .i64 0, .int .i64 0, .int .i64 0, .int .i64 0, .slice none 0 0, .int .u8 0, .int .u8 0, .int .u8 0, .int .u8 0, .int .u8 0, .int .u8 0, .int .u8 0, .int .u8 0, .int .u8 0, .int .u16 0, .int .u16 0, .int .u16 0, .bool false, .int .i64 0] 59)
      refine hK.out _ _ ?_ (fun hHeld => ?_)
      · (try dsimp only); exact ⟨HX.out.below hb, HY.out.below hb⟩
      clear hK K
      (try simp only [Act.put, List.getElem_toArray, List.getElem_cons_succ, List.getElem_cons_zero, List.setIfInBounds_toArray, List.set_cons_zero, List.set_cons_succ])
      obtain ⟨F2, hF2⟩ : ∃ F, F = w13_.heap.size := ⟨_, rfl⟩
      rw [← hF2] at a2 lo2 hne ⊢
      clear hF2
      obtain ⟨w14_, hww14_⟩ : ∃ u, u = w13_.alloc (.cells #[.int .u8 0, .int .u8 0, .int .u8 0, .string ⟨#[]⟩, .int .u8 0, .int .u8 0, .bool false, .int .i64 0, .bool false, .int .i64 0, .int .i64 0, .int .i64 0, .int .i64 0, .slice none 0 0, .int .u8 0, .int .u8 0, .int .u8 0, .int .u8 0, .int .u8 0, .int .u8 0, .int .u8 0, .int .u8 0, .int .u8 0, .int .u16 0, .int .u16 0, .int .u16 0, .bool false, .int .i64 0] 59) := ⟨_, rfl⟩
      rw [← hww14_] at a2 hb a1 hHeld ⊢
      clear hww14_
      refine wpAnyH_ready (rs := [4]) (by kernel_rfl) (by simp) ?_
      refine (AllReadyH.cons (o := _) rfl (fun K hK => ?_) AllReadyH.nil)
      refine step_store_bx rfl (.tmp 10) (.tmp 42) rfl F1 s noSn (.slice PA pn pc) (.slice none 0 0) rfl rfl rfl a1 ?_
      intro w15_ A1 hg
      have hb := hb.grown hg hb.size (fun k hk => by injection hk; have h2 := HB0.out; omega)
      have a2 := a2.kept hg (fun e => by injection e; omega)
      refine hK.out _ _ ?_ (fun hHeld => ?_)
      · (try dsimp only); exact ⟨HX.out.below hb, HY.out.below hb⟩
      clear hK K hg a1
      (try simp only [Act.put, List.getElem_toArray, List.getElem_cons_succ, List.getElem_cons_zero])
      refine wpAnyH_ready (rs := [5]) (by kernel_rfl) (by simp) ?_
      refine (AllReadyH.cons (o := _) rfl (fun K hK => ?_) AllReadyH.nil)
      refine step_store_bx rfl (.tmp 11) (.tmp 43) rfl F2 b noSn (.slice DA dn dc) (.slice none 0 0) rfl rfl rfl a2 ?_
      intro w16_ A2 hg
      have hb := hb.grown hg hb.size (fun k hk => by injection hk; have h2 := HB0.out; omega)
      have A1 := A1.kept hg (fun e => by injection e; omega)
      refine hK.out _ _ ?_ (fun hHeld => ?_)
      · (try dsimp only); exact ⟨HX.out.below hb, HY.out.below hb⟩
      clear hK K hg a2
      (try simp only [Act.put, List.getElem_toArray, List.getElem_cons_succ, List.getElem_cons_zero])
      refine wpAnyH_done (by kernel_rfl) ?_ _
      clear hHeld
      go_wp2_with fail
      go_meet
      exact ⟨F1, F2, rfl, rfl, A1, A2, hne, lo1, lo2, hb⟩
    · skip
      rw [if_pos (by rfl)]
      go_simp
      have a2 := Bx.zero v_w10
      have lo2 : B0 ≤ v_w10.heap.size := by have h1 := hb.size; have h2 := HB0.out; omega
      have hb := hb.alloc hb.size (.cells #[.int .u8 0, .int .u8 0, .int .u8 0, .string ⟨#[]⟩, .int .u8 0, .int .u8 0, .bool false, .int .i64 0, .bool false, .int .i64 0, .int .i64 0, .int .i64 0, .int .i64 0, .slice none 0 0, .int .u8 0, .int .u8 0, .int .u8 0, .int .u8 0, .int .u8 0, .int .u8 0, .int .u8 0, .int .u8 0, .int .u8 0, .int .u16 0, .int .u16 0, .int .u16 0, .bool false, .int .i64 0] 59)
      refine hK.out _ _ ?_ (fun hHeld => ?_)
      · (try dsimp only); exact ⟨HX.out.below hb, HY.out.below hb⟩
      clear hK K
      (try simp only [Act.put, List.getElem_toArray, List.getElem_cons_succ, List.getElem_cons_zero, List.setIfInBounds_toArray, List.set_cons_zero, List.set_cons_succ])
      obtain ⟨F2, hF2⟩ : ∃ F, F = v_w10.heap.size := ⟨_, rfl⟩
      rw [← hF2] at a2 lo2 ⊢
      clear hF2
      obtain ⟨w17_, hww17_⟩ : ∃ u, u = v_w10.alloc (.cells #[.int .u8 0, .int .u8 0, .int .u8 0, .string ⟨#[]⟩, .int .u8 0, .int .u8 0, .bool false, .int .i64 0, .bool false, .int .i64 0, .int .i64 0, .int .i64 0, .int .i64 0, .slice none 0 0, .int .u8 0, .int .u8 0, .int .u8 0, .int .u8 0, .int .u8 0, .int .u8 0, .int .u8 0, .int .u8 0, .int .u8 0, .int .u16 0, .int .u16 0, .int .u16 0, .bool false, .int .i64 0] 59) := ⟨_, rfl⟩
      rw [← hww17_] at a2 hb  hHeld ⊢
      clear hww17_
      refine wpAnyH_ready (rs := [2]) (by kernel_rfl) (by simp) ?_
      refine (AllReadyH.cons (o := _) rfl (fun K hK => ?_) AllReadyH.nil)
      rw [if_pos (by rfl)]
      go_simp
      have a1 := Bx.zero w17_
      have lo1 : B0 ≤ w17_.heap.size := by have h1 := hb.size; have h2 := HB0.out; omega
      have hne : w17_.heap.size ≠ F2 := by have := a2.lt; omega
      have hb := hb.alloc hb.size (.cells #[.int .u8 0, .int .u8 0, .int .u8 0, .string ⟨#[]⟩, .int .u8 0, .int .u8 0, .bool false, .int .i64 0, .bool false, .int .i64 0, .int .i64 0, .int .i64 0, .int .i64 0, .slice none 0 0, .int .u8 0, .int .u8 0, .int .u8 0, .int .u8 0, .int .u8 0, .int .u8 0, .int .u8 0, .int .u8 0, .int .u8 0, .int .u16 0, .int .u16 0, .int .u16 0, .bool false, .int .i64 0] 59)
      have a2 := a2.alloc (.cells #[.int .u8 0, .int .u8 0, .int .u8 0, .string ⟨#[]⟩, .int .u8 0, .int .u8 0, .bool false, .int .i64 0, .bool false, .int .i64 0, .int .i64 0, .int .i64 0, .int .i64 0, .slice none 0 0, .int .u8 0, .int .u8 0, .int .u8 0, .int .u8 0, .int .u8 0, .int .u8 0, .int .u8 0, .int .u8 0, .int .u8 0, .int .u16 0, .int .u16 0, .int .u16 0, .bool false, .int .i64 0] 59)
      refine hK.out _ _ ?_ (fun hHeld => ?_)
      · (try dsimp only); exact ⟨HX.out.below hb, HY.out.below hb⟩
      clear hK K
      (try simp only [Act.put, List.getElem_toArray, List.getElem_cons_succ, List.getElem_cons_zero, List.setIfInBounds_toArray, List.set_cons_zero, List.set_cons_succ])
      obtain ⟨F1, hF1⟩ : ∃ F, F = w17_.heap.size := ⟨_, rfl⟩
      rw [← hF1] at a1 lo1 hne ⊢
      clear hF1
      obtain ⟨w18_, hww18_⟩ : ∃ u, u = w17_.alloc (.cells #[.int .u8 0, .int .u8 0, .int .u8 0, .string ⟨#[]⟩, .int .u8 0, .int .u8 0, .bool false, .int .i64 0, .bool false, .int .i64 0, .int .i64 0, .int .i64 0, .int .i64 0, .slice none 0 0, .int .u8 0, .int .u8 0, .int .u8 0, .int .u8 0, .int .u8 0, .int .u8 0, .int .u8 0, .int .u8 0, .int .u8 0, .int .u16 0, .int .u16 0, .int .u16 0, .bool false, .int .i64 0] 59) := ⟨_, rfl⟩
      rw [← hww18_] at a1 hb a2 hHeld ⊢
      clear hww18_
      refine wpAnyH_ready (rs := [4]) (by kernel_rfl) (by simp) ?_
      refine (AllReadyH.cons (o := _) rfl (fun K hK => ?_) AllReadyH.nil)
      refine step_store_bx rfl (.tmp 10) (.tmp 42) rfl F1 s noSn (.slice PA pn pc) (.slice none 0 0) rfl rfl rfl a1 ?_
      intro w19_ A1 hg
      have hb := hb.grown hg hb.size (fun k hk => by injection hk; have h2 := HB0.out; omega)
      have a2 := a2.kept hg (fun e => by injection e; omega)
      refine hK.out _ _ ?_ (fun hHeld => ?_)
      · (try dsimp only); exact ⟨HX.out.below hb, HY.out.below hb⟩
      clear hK K hg a1
      (try simp only [Act.put, List.getElem_toArray, List.getElem_cons_succ, List.getElem_cons_zero])
      refine wpAnyH_ready (rs := [5]) (by kernel_rfl) (by simp) ?_
      refine (AllReadyH.cons (o := _) rfl (fun K hK => ?_) AllReadyH.nil)
      refine step_store_bx rfl (.tmp 11) (.tmp 43) rfl F2 b noSn (.slice DA dn dc) (.slice none 0 0) rfl rfl rfl a2 ?_
      intro w20_ A2 hg
      have hb := hb.grown hg hb.size (fun k hk => by injection hk; have h2 := HB0.out; omega)
      have A1 := A1.kept hg (fun e => by injection e; omega)
      refine hK.out _ _ ?_ (fun hHeld => ?_)
      · (try dsimp only); exact ⟨HX.out.below hb, HY.out.below hb⟩
      clear hK K hg a2
      (try simp only [Act.put, List.getElem_toArray, List.getElem_cons_succ, List.getElem_cons_zero])
      refine wpAnyH_done (by kernel_rfl) ?_ _
      clear hHeld
      go_wp2_with fail
      go_meet
      exact ⟨F1, F2, rfl, rfl, A1, A2, hne, lo1, lo2, hb⟩
  case rest =>
    obtain ⟨F1, F2, rfl, rfl, A1, A2, hne, lo1, lo2, hb⟩ := hcut
    have XF1 := A1
    have XF2 := A2
    have c6a : wc.cell? ⟨F1, 6, none⟩ = some (.bool s.d) := XF1.c 6
    have f6a := XF1.fz 6
    have c6b : wc.cell? ⟨F2, 6, none⟩ = some (.bool b.d) := XF2.c 6
    have f6b := XF2.fz 6
    have g1 := (XF1.set 6 (.bool true) { s with d := true } (.slice PA pn pc) rfl).kept (set_grown _ F2 6 (.bool false)) (fun e => by injection e; omega)
    have g2 := (XF2.kept (set_grown wc F1 6 (.bool true)) (fun e => by injection e; omega)).set 6 (.bool false) { b with d := false } (.slice DA dn dc) rfl
    rw [← Es1.out] at g1
    rw [← Eb1.out] at g2
    clear Es1 Eb1
    have hbs := (hb.setCell (p := ⟨F1, 6, none⟩) (by show v_w10.heap.size ≤ F1; have h2 := HB0.out; omega) (.bool true)).setCell (p := ⟨F2, 6, none⟩) (by show v_w10.heap.size ≤ F2; have h2 := HB0.out; omega) (.bool false)
    have hx := HX.out.below hbs
    have hy := HY.out.below hbs
    have p := HP.out.step hbs
    have pb := HPB.out.step hbs
    have hbt := hb9.trans (hbs.mono hb9.size)
    have G1 := Lib.hid g1
    have G2 := Lib.hid g2
    clear hb g1 g2 XF1 XF2 A1 A2 HX HY HP HPB hb9
    go_wp2_with fail
    clear c6a f6a c6b f6b hbs
    generalize (wc.setCell ⟨F1, 6, none⟩ (.bool true)).setCell ⟨F2, 6, none⟩ (.bool false) = w11 at *
    have hx : Bx w11.drew F8 s (.slice PA pn pc) := hx
    have hy : Bx w11.drew F9 b (.slice DA dn dc) := hy
    have p : PSl w11.drew PA pn pc s.c.p := ⟨p.len, p.row, p.cap, p.max, p.nil⟩
    have pb : PSl w11.drew DA dn dc b.c.p := ⟨pb.len, pb.row, pb.cap, pb.max, pb.nil⟩
    have hbt := below_drew hbt
    have G1 : Hid (Bx w11.drew F1 s1 (.slice PA pn pc)) := Lib.hid G1.out
    have G2 : Hid (Bx w11.drew F2 b1 (.slice DA dn dc)) := Lib.hid G2.out
    have hl8 := hx.lt
    have hl9 := hy.lt
    have hl1 := G1.out.lt
    have hl2 := G2.out.lt
    have hb := Below.refl w11.drew.heap.size w11.drew
    have HX := Lib.hid hx
    have HY := Lib.hid hy
    have HP := Lib.hid p
    have HPB := Lib.hid pb
    clear HB0 lo1 lo2 hlt8 hlt9 B0
    obtain ⟨B0, hB0⟩ : ∃ B, B = w11.drew.heap.size := ⟨_, rfl⟩
    rw [← hB0] at hl8 hl9 hl1 hl2
    have HB0 := Lib.hid hB0
    have hne12 := hne
    clear hB0 hx hy p pb hne
    obtain ⟨v_w20, hvd2⟩ : ∃ u, u = w11.drew := ⟨_, rfl⟩
    rw [← hvd2] at HX HY HP HPB hb HB0 hbt G1 G2
    go_cut [12, 13] from 26 (fun p q wx => ∃ G1 G2 : Nat, p = .pointer (some ⟨G1, 0, none⟩) ∧ q = .pointer (some ⟨G2, 0, none⟩) ∧ Bx wx G1 s (.slice PA pn pc) ∧ Bx wx G2 b (.slice DA dn dc) ∧ G1 ≠ G2 ∧ B0 ≤ G1 ∧ B0 ≤ G2 ∧ Below v_w20.heap.size v_w20 wx)
    case first =>
      refine wp_region_held_drew (S := (fun W => Bx W F8 s (.slice PA pn pc) ∧ Bx W F9 b (.slice DA dn dc))) (by kernel_rfl) ?_ (fun hHeld => ?_)
      · (try dsimp only); rw [← hvd2]; exact ⟨HX.out.below hb, HY.out.below hb⟩
      generalize w11.drew = vg at *
      subst hvd2
      refine wpAnyH_take (i := 0) (oi := _) (v := ?vz1_0) rfl (by kernel_rfl) (by kernel_rfl) (by kernel_rfl) (fun _ _ _ h => h) (Or.inl ⟨rfl, ?yz1_0⟩) (by assumption) ?_
      case yz1_0 => intro w hSw; (try dsimp only at hSw); ((refine exec_load_bx2 (.tmp 8) ?_ ?_ hSw.1) <;> rfl)
      (try simp only [Act.put, List.getElem_toArray, List.getElem_cons_zero, List.setIfInBounds_toArray, List.set_cons_zero, List.set_cons_succ])
      refine wpAnyH_take (i := 1) (oi := _) (v := ?vz2_1) rfl (by kernel_rfl) (by kernel_rfl) (by kernel_rfl) (fun _ _ _ h => h) (Or.inl ⟨rfl, ?yz2_1⟩) (by assumption) ?_
      case yz2_1 => intro w hSw; (try dsimp only at hSw); ((refine exec_load_bx2 (.tmp 9) ?_ ?_ hSw.2) <;> rfl)
      (try simp only [Act.put, List.getElem_toArray, List.getElem_cons_succ, List.getElem_cons_zero, List.setIfInBounds_toArray, List.set_cons_zero, List.set_cons_succ])
      refine wpAnyH_ready (rs := [2, 3]) (by kernel_rfl) (by simp) ?_
      refine (AllReadyH.cons (o := _) rfl (fun K hK => ?_) (AllReadyH.cons (o := _) rfl (fun K hK => ?_) AllReadyH.nil))
      · skip
        rw [if_pos (by rfl)]
        go_simp
        have a1 := Bx.zero v_w20
        have lo1 : B0 ≤ v_w20.heap.size := by have h1 := hb.size; have h2 := HB0.out; omega
        have hb := hb.alloc hb.size (.cells #[.int .u8 0, .int .u8 0, .int .u8 0, .string ⟨#[]⟩, .int .u8 0, .int .u8 0, .bool false, .int .i64 0, .bool false, .int .i64 0, .int .i64 0, .int .i64 0, .int .i64 0, .slice none 0 0, .int .u8 0, .int .u8 0, .int .u8 0, .int .u8 0, .int .u8 0, .int .u8 0, .int .u8 0, .int .u8 0, .int .u8 0, .int .u16 0, .int .u16 0, .int .u16 0, .bool false, .int .i64 0] 59)
        refine hK.out _ _ ?_ (fun hHeld => ?_)
        · (try dsimp only); exact ⟨HX.out.below hb, HY.out.below hb⟩
        clear hK K
        (try simp only [Act.put, List.getElem_toArray, List.getElem_cons_succ, List.getElem_cons_zero, List.setIfInBounds_toArray, List.set_cons_zero, List.set_cons_succ])
        obtain ⟨F3, hF1⟩ : ∃ F, F = v_w20.heap.size := ⟨_, rfl⟩
        rw [← hF1] at a1 lo1 ⊢
        clear hF1
        obtain ⟨w3_, hww3_⟩ : ∃ u, u = v_w20.alloc (.cells #[.int .u8 0, .int .u8 0, .int .u8 0, .string ⟨#[]⟩, .int .u8 0, .int .u8 0, .bool false, .int .i64 0, .bool false, .int .i64 0, .int .i64 0, .int .i64 0, .int .i64 0, .slice none 0 0, .int .u8 0, .int .u8 0, .int .u8 0, .int .u8 0, .int .u8 0, .int .u8 0, .int .u8 0, .int .u8 0, .int .u8 0, .int .u16 0, .int .u16 0, .int .u16 0, .bool false, .int .i64 0] 59) := ⟨_, rfl⟩
        rw [← hww3_] at a1 hb  hHeld ⊢
        clear hww3_
        refine wpAnyH_ready (rs := [3]) (by kernel_rfl) (by simp) ?_
        refine (AllReadyH.cons (o := _) rfl (fun K hK => ?_) AllReadyH.nil)
        rw [if_pos (by rfl)]
        go_simp
        have a2 := Bx.zero w3_
        have lo2 : B0 ≤ w3_.heap.size := by have h1 := hb.size; have h2 := HB0.out; omega
        have hne : F3 ≠ w3_.heap.size := by have := a1.lt; omega
        have hb := hb.alloc hb.size (.cells #[.int .u8 0, .int .u8 0, .int .u8 0, .string ⟨#[]⟩, .int .u8 0, .int .u8 0, .bool false, .int .i64 0, .bool false, .int .i64 0, .int .i64 0, .int .i64 0, .int .i64 0, .slice none 0 0, .int .u8 0, .int .u8 0, .int .u8 0, .int .u8 0, .int .u8 0, .int .u8 0, .int .u8 0, .int .u8 0, .int .u8 0, .int .u16 0, .int .u16 0, .int .u16 0, .bool false, .int .i64 0] 59)
        have a1 := a1.alloc (.cells #[.int .u8 0, .int .u8 0, .int .u8 0, .string ⟨#[]⟩, .int .u8 0, .int .u8 0, .bool false, .int .i64 0, .bool false, .int .i64 0, .int .i64 0, .int .i64 0, .int .i64 0, .slice none 0 0, .int .u8 0, .int .u8 0, .int .u8 0, .int .u8 0, .int .u8 0, .int .u8 0, .int .u8 0, .int .u8 0, .int .u8 0, .int .u16 0, .int .u16 0, .int .u16 0, .bool false, .int .i64 0] 59)
        refine hK.out _ _ ?_ (fun hHeld => ?_)
        · (try dsimp only); exact ⟨HX.out.below hb, HY.out.below hb⟩
        clear hK K
        (try simp only [Act.put, List.getElem_toArray, List.getElem_cons_succ, List.getElem_cons_zero, List.setIfInBounds_toArray, List.set_cons_zero, List.set_cons_succ])
        obtain ⟨F4, hF2⟩ : ∃ F, F = w3_.heap.size := ⟨_, rfl⟩
        rw [← hF2] at a2 lo2 hne ⊢
        clear hF2
        obtain ⟨w4_, hww4_⟩ : ∃ u, u = w3_.alloc (.cells #[.int .u8 0, .int .u8 0, .int .u8 0, .string ⟨#[]⟩, .int .u8 0, .int .u8 0, .bool false, .int .i64 0, .bool false, .int .i64 0, .int .i64 0, .int .i64 0, .int .i64 0, .slice none 0 0, .int .u8 0, .int .u8 0, .int .u8 0, .int .u8 0, .int .u8 0, .int .u8 0, .int .u8 0, .int .u8 0, .int .u8 0, .int .u16 0, .int .u16 0, .int .u16 0, .bool false, .int .i64 0] 59) := ⟨_, rfl⟩
        rw [← hww4_] at a2 hb a1 hHeld ⊢
        clear hww4_
        refine wpAnyH_ready (rs := [4]) (by kernel_rfl) (by simp) ?_
        refine (AllReadyH.cons (o := _) rfl (fun K hK => ?_) AllReadyH.nil)
        refine step_store_bx rfl (.tmp 12) (.tmp 46) rfl F3 s noSn (.slice PA pn pc) (.slice none 0 0) rfl rfl rfl a1 ?_
        intro w5_ A1 hg
        have hb := hb.grown hg hb.size (fun k hk => by injection hk; have h2 := HB0.out; omega)
        have a2 := a2.kept hg (fun e => by injection e; omega)
        refine hK.out _ _ ?_ (fun hHeld => ?_)
        · (try dsimp only); exact ⟨HX.out.below hb, HY.out.below hb⟩
        clear hK K hg a1
        (try simp only [Act.put, List.getElem_toArray, List.getElem_cons_succ, List.getElem_cons_zero])
        refine wpAnyH_ready (rs := [5]) (by kernel_rfl) (by simp) ?_
        refine (AllReadyH.cons (o := _) rfl (fun K hK => ?_) AllReadyH.nil)
        refine step_store_bx rfl (.tmp 13) (.tmp 47) rfl F4 b noSn (.slice DA dn dc) (.slice none 0 0) rfl rfl rfl a2 ?_
        intro w6_ A2 hg
        have hb := hb.grown hg hb.size (fun k hk => by injection hk; have h2 := HB0.out; omega)
        have A1 := A1.kept hg (fun e => by injection e; omega)
        refine hK.out _ _ ?_ (fun hHeld => ?_)
        · (try dsimp only); exact ⟨HX.out.below hb, HY.out.below hb⟩
        clear hK K hg a2
        (try simp only [Act.put, List.getElem_toArray, List.getElem_cons_succ, List.getElem_cons_zero])
        refine wpAnyH_done (by kernel_rfl) ?_ _
        clear hHeld
        go_wp2_with fail
        go_meet
        exact ⟨F3, F4, rfl, rfl, A1, A2, hne, lo1, lo2, hb⟩
      · skip
        rw [if_pos (by rfl)]
        go_simp
        have a2 := Bx.zero v_w20
        have lo2 : B0 ≤ v_w20.heap.size := by have h1 := hb.size; have h2 := HB0.out; omega
        have hb := hb.alloc hb.size (.cells #[.int .u8 0, .int .u8 0, .int .u8 0, .string ⟨#[]⟩, .int .u8 0, .int .u8 0, .bool false, .int .i64 0, .bool false, .int .i64 0, .int .i64 0, .int .i64 0, .int .i64 0, .slice none 0 0, .int .u8 0, .int .u8 0, .int .u8 0, .int .u8 0, .int .u8 0, .int .u8 0, .int .u8 0, .int .u8 0, .int .u8 0, .int .u16 0, .int .u16 0, .int .u16 0, .bool false, .int .i64 0] 59)
        refine hK.out _ _ ?_ (fun hHeld => ?_)
        · (try dsimp only); exact ⟨HX.out.below hb, HY.out.below hb⟩
        clear hK K
        (try simp only [Act.put, List.getElem_toArray, List.getElem_cons_succ, List.getElem_cons_zero, List.setIfInBounds_toArray, List.set_cons_zero, List.set_cons_succ])
        obtain ⟨F4, hF2⟩ : ∃ F, F = v_w20.heap.size := ⟨_, rfl⟩
        rw [← hF2] at a2 lo2 ⊢
        clear hF2
        obtain ⟨w7_, hww7_⟩ : ∃ u, u = v_w20.alloc (.cells #[.int .u8 0, .int .u8 0, .int .u8 0, .string ⟨#[]⟩, .int .u8 0, .int .u8 0, .bool false, .int .i64 0, .bool false, .int .i64 0, .int .i64 0, .int .i64 0, .int .i64 0, .slice none 0 0, .int .u8 0, .int .u8 0, .int .u8 0, .int .u8 0, .int .u8 0, .int .u8 0, .int .u8 0, .int .u8 0, .int .u8 0, .int .u16 0, .int .u16 0, .int .u16 0, .bool false, .int .i64 0] 59) := ⟨_, rfl⟩
        rw [← hww7_] at a2 hb  hHeld ⊢
        clear hww7_
        refine wpAnyH_ready (rs := [2]) (by kernel_rfl) (by simp) ?_
        refine (AllReadyH.cons (o := _) rfl (fun K hK => ?_) AllReadyH.nil)
        rw [if_pos (by rfl)]
        go_simp
        have a1 := Bx.zero w7_
        have lo1 : B0 ≤ w7_.heap.size := by have h1 := hb.size; have h2 := HB0.out; omega
        have hne : w7_.heap.size ≠ F4 := by have := a2.lt; omega
        have hb := hb.alloc hb.size (.cells #[.int .u8 0, .int .u8 0, .int .u8 0, .string ⟨#[]⟩, .int .u8 0, .int .u8 0, .bool false, .int .i64 0, .bool false, .int .i64 0, .int .i64 0, .int .i64 0, .int .i64 0, .slice none 0 0, .int .u8 0, .int .u8 0, .int .u8 0, .int .u8 0, .int .u8 0, .int .u8 0, .int .u8 0, .int .u8 0, .int .u8 0, .int .u16 0, .int .u16 0, .int .u16 0, .bool false, .int .i64 0] 59)
        have a2 := a2.alloc (.cells #[.int .u8 0, .int .u8 0, .int .u8 0, .string ⟨#[]⟩, .int .u8 0, .int .u8 0, .bool false, .int .i64 0, .bool false, .int .i64 0, .int .i64 0, .int .i64 0, .int .i64 0, .slice none 0 0, .int .u8 0, .int .u8 0, .int .u8 0, .int .u8 0, .int .u8 0, .int .u8 0, .int .u8 0, .int .u8 0, .int .u8 0, .int .u16 0, .int .u16 0, .int .u16 0, .bool false, .int .i64 0] 59)
        refine hK.out _ _ ?_ (fun hHeld => ?_)
        · (try dsimp only); exact ⟨HX.out.below hb, HY.out.below hb⟩
        clear hK K
        (try simp only [Act.put, List.getElem_toArray, List.getElem_cons_succ, List.getElem_cons_zero, List.setIfInBounds_toArray, List.set_cons_zero, List.set_cons_succ])
        obtain ⟨F3, hF1⟩ : ∃ F, F = w7_.heap.size := ⟨_, rfl⟩
        rw [← hF1] at a1 lo1 hne ⊢
        clear hF1
        obtain ⟨w8_, hww8_⟩ : ∃ u, u = w7_.alloc (.cells #[.int .u8 0, .int .u8 0, .int .u8 0, .string ⟨#[]⟩, .int .u8 0, .int .u8 0, .bool false, .int .i64 0, .bool false, .int .i64 0, .int .i64 0, .int .i64 0, .int .i64 0, .slice none 0 0, .int .u8 0, .int .u8 0, .int .u8 0, .int .u8 0, .int .u8 0, .int .u8 0, .int .u8 0, .int .u8 0, .int .u8 0, .int .u16 0, .int .u16 0, .int .u16 0, .bool false, .int .i64 0] 59) := ⟨_, rfl⟩
        rw [← hww8_] at a1 hb a2 hHeld ⊢
        clear hww8_
        refine wpAnyH_ready (rs := [4]) (by kernel_rfl) (by simp) ?_
        refine (AllReadyH.cons (o := _) rfl (fun K hK => ?_) AllReadyH.nil)
        refine step_store_bx rfl (.tmp 12) (.tmp 46) rfl F3 s noSn (.slice PA pn pc) (.slice none 0 0) rfl rfl rfl a1 ?_
        intro w9_ A1 hg
        have hb := hb.grown hg hb.size (fun k hk => by injection hk; have h2 := HB0.out; omega)
        have a2 := a2.kept hg (fun e => by injection e; omega)
        refine hK.out _ _ ?_ (fun hHeld => ?_)
        · (try dsimp only); exact ⟨HX.out.below hb, HY.out.below hb⟩
        clear hK K hg a1
        (try simp only [Act.put, List.getElem_toArray, List.getElem_cons_succ, List.getElem_cons_zero])
        refine wpAnyH_ready (rs := [5]) (by kernel_rfl) (by simp) ?_
        refine (AllReadyH.cons (o := _) rfl (fun K hK => ?_) AllReadyH.nil)
        refine step_store_bx rfl (.tmp 13) (.tmp 47) rfl F4 b noSn (.slice DA dn dc) (.slice none 0 0) rfl rfl rfl a2 ?_
        intro w10_ A2 hg
        have hb := hb.grown hg hb.size (fun k hk => by injection hk; have h2 := HB0.out; omega)
        have A1 := A1.kept hg (fun e => by injection e; omega)
        refine hK.out _ _ ?_ (fun hHeld => ?_)
        · (try dsimp only); exact ⟨HX.out.below hb, HY.out.below hb⟩
        clear hK K hg a2
        (try simp only [Act.put, List.getElem_toArray, List.getElem_cons_succ, List.getElem_cons_zero])
        refine wpAnyH_done (by kernel_rfl) ?_ _
        clear hHeld
        go_wp2_with fail
        go_meet
        exact ⟨F3, F4, rfl, rfl, A1, A2, hne, lo1, lo2, hb⟩
    case rest =>
      obtain ⟨F3, F4, rfl, rfl, A1, A2, hne, lo1, lo2, hb⟩ := hcut
      have XF3 := A1
      have XF4 := A2
      have e1 : bits .or .u16 (s.av : Int) 64 = ((s.av ||| 64 : Nat) : Int) := or_u16 s.av 64 (by have := hfs.av; omega) (by omega)
      have e2 : bits .or .u16 (b.dv : Int) 32768 = ((b.dv ||| 32768 : Nat) : Int) := or_u16 b.dv 32768 (by have := hfb.dv; omega) (by omega)
      have c24 : wc.cell? ⟨F3, 24, none⟩ = some (.int .u16 (s.av : Int)) := XF3.c 24
      have f24 := XF3.fz 24
      have c25 : wc.cell? ⟨F4, 25, none⟩ = some (.int .u16 (b.dv : Int)) := XF4.c 25
      have f25 := XF4.fz 25
      have g3 := (XF3.set 24 (.int .u16 ((s.av ||| 64 : Nat) : Int)) { s with av := s.av ||| 64 } (.slice PA pn pc) rfl).kept (set_grown _ F4 25 (.int .u16 ((b.dv ||| 32768 : Nat) : Int))) (fun e => by injection e; omega)
      have g4 := (XF4.kept (set_grown wc F3 24 (.int .u16 ((s.av ||| 64 : Nat) : Int))) (fun e => by injection e; omega)).set 25 (.int .u16 ((b.dv ||| 32768 : Nat) : Int)) { b with dv := b.dv ||| 32768 } (.slice DA dn dc) rfl
      rw [← Es2.out] at g3
      rw [← Eb2.out] at g4
      clear Es2 Eb2
      have hbs := (hb.setCell (p := ⟨F3, 24, none⟩) (by show v_w20.heap.size ≤ F3; have h2 := HB0.out; omega) (.int .u16 ((s.av ||| 64 : Nat) : Int))).setCell (p := ⟨F4, 25, none⟩) (by show v_w20.heap.size ≤ F4; have h2 := HB0.out; omega) (.int .u16 ((b.dv ||| 32768 : Nat) : Int))
      have hx := HX.out.below hbs
      have hy := HY.out.below hbs
      have p := HP.out.step hbs
      have pb := HPB.out.step hbs
      have g1 := G1.out.below hbs
      have g2 := G2.out.below hbs
      have hbt := hbt.trans (hbs.mono hbt.size)
      have hsz21 : ((wc.setCell ⟨F3, 24, none⟩ (.int .u16 ((s.av ||| 64 : Nat) : Int))).setCell ⟨F4, 25, none⟩ (.int .u16 ((b.dv ||| 32768 : Nat) : Int))).heap.size = wc.heap.size := by simp
      clear hb HX HY HP HPB G1 G2 XF3 XF4 A1 A2 hbs
      go_upto_region 13 with fail
      clear c24 f24 c25 f25 e1 e2
      obtain ⟨F5, hF5⟩ : ∃ F, F = wc.heap.size := ⟨_, rfl⟩
      rw [← hF5] at hsz21
      clear hF5
      generalize (wc.setCell ⟨F3, 24, none⟩ (.int .u16 ((s.av ||| 64 : Nat) : Int))).setCell ⟨F4, 25, none⟩ (.int .u16 ((b.dv ||| 32768 : Nat) : Int)) = w21 at *
      have z5 := Bx.zero w21
      rw [hsz21] at z5
      have hb21 := (Below.refl w21.heap.size w21).alloc (Nat.le_refl _) (.cells #[.int .u8 0, .int .u8 0, .int .u8 0, .string ⟨#[]⟩, .int .u8 0, .int .u8 0, .bool false, .int .i64 0, .bool false, .int .i64 0, .int .i64 0, .int .i64 0, .int .i64 0, .slice none 0 0, .int .u8 0, .int .u8 0, .int .u8 0, .int .u8 0, .int .u8 0, .int .u8 0, .int .u8 0, .int .u8 0, .int .u8 0, .int .u16 0, .int .u16 0, .int .u16 0, .bool false, .int .i64 0] 59)
      go_wp2_with (first | (refine wpList_load_bx rfl (.tmp 9) rfl _ _ _ rfl hy ?_) | (refine wpList_store_bx rfl (.tmp 14) (.tmp 56) rfl F5 b noSn (.slice DA dn dc) (.slice none 0 0) rfl rfl rfl z5 ?_; intro w22 x5 hg5; refine Hid.out ?_))
      refine Lib.hid ?_
      have hb22 := hb21.grown hg5 hb21.size (fun k hk => by injection hk; have := hsz21; omega)
      have hF5' : w21.heap.size ≤ F5 := by omega
      clear hg5 z5 hb21
      go_wp2_with fail
      refine (Made.mod_any bt 15 w22 hbt1 hbt2 (by omega) (by omega)).mono ?_
      rintro e w' ⟨⟨j, hj, rfl, -⟩, rfl⟩
      have h2j : 2 ^ j < 32768 := Nat.pow_lt_pow_right (n := 15) (by omega) hj
      have hv5 := dig_assert hvb hdb j hj
      have HT := Lib.hid (and_two b.st j)
      have pw : IntKind.u16.wrap ((2 : Int) ^ j) = ((2 ^ j : Nat) : Int) := by
        have e : (2 : Int) ^ j = ((2 ^ j : Nat) : Int) := by rw [Int.natCast_pow]; rfl
        rw [e]
        generalize 2 ^ j = q at *
        exact IntWalk.u16_in _ ⟨by omega, by omega⟩
      generalize b.st.testBit j = tb at *
      generalize 2 ^ j = q at *
      obtain ⟨b3, eb3⟩ : ∃ x, x = ({ b with av := b.av ||| q } : Sn) := ⟨_, rfl⟩
      have HC5j := Lib.hid fun (u : World) (hu : PSl u DA dn dc b.c.p) => by have := valid_p b3 DA dn dc u (by rw [show b3.c.p = b.c.p by rw [eb3]]; exact hu) (by rw [show b3.nm = b.nm by rw [eb3]]; exact hnmb); rw [show vs b3 = tb by rw [eb3, hv5]] at this; exact this
      have Eb3 := Lib.hid eb3
      clear eb3
      clear hv5
      have e3 := or_u16 b.av q (by have := hfb.av; omega) (by omega)
      have E4 := Lib.hid (and_u16 b.st q (by have := hfb.st; omega) (by omega))
      have c24 : w22.cell? ⟨F5, 24, none⟩ = some (.int .u16 (b.av : Int)) := x5.c 24
      have f24 := x5.fz 24
      have x5 := x5.set 24 (.int .u16 ((b.av ||| q : Nat) : Int)) { b with av := b.av ||| q } (.slice DA dn dc) rfl
      have hb23 := hb22.setCell (p := ⟨F5, 24, none⟩) (by show w21.heap.size ≤ F5; exact hF5') (.int .u16 ((b.av ||| q : Nat) : Int))
      have hx := hx.below hb23
      have hy := hy.below hb23
      have g1 := g1.below hb23
      have g2 := g2.below hb23
      have g3 := g3.below hb23
      have g4 := g4.below hb23
      have p := p.step hb23
      have pb := pb.step hb23
      have hbt := hbt.trans (hb23.mono hbt.size)
      clear hb22 hb23
      have hs23 : (w22.setCell ⟨F5, 24, none⟩ (.int .u16 ((b.av ||| q : Nat) : Int))).heap.size = w22.heap.size := by simp
      have z6 := Bx.zero (w22.setCell ⟨F5, 24, none⟩ (.int .u16 ((b.av ||| q : Nat) : Int)))
      rw [hs23] at z6
      have hb23 := (Below.refl (w22.setCell ⟨F5, 24, none⟩ (.int .u16 ((b.av ||| q : Nat) : Int))).heap.size (w22.setCell ⟨F5, 24, none⟩ (.int .u16 ((b.av ||| q : Nat) : Int)))).alloc (Nat.le_refl _) (.cells #[.int .u8 0, .int .u8 0, .int .u8 0, .string ⟨#[]⟩, .int .u8 0, .int .u8 0, .bool false, .int .i64 0, .bool false, .int .i64 0, .int .i64 0, .int .i64 0, .int .i64 0, .slice none 0 0, .int .u8 0, .int .u8 0, .int .u8 0, .int .u8 0, .int .u8 0, .int .u8 0, .int .u8 0, .int .u8 0, .int .u8 0, .int .u16 0, .int .u16 0, .int .u16 0, .bool false, .int .i64 0] 59)
      rw [hs23] at hb23
      have hs24 := hb23.size
      rw [hs23] at hs24
      go_wp2_with (first | (refine wpList_load_bx rfl (.tmp 8) rfl _ _ _ rfl hx ?_) | (refine wpList_store_bx rfl (.tmp 16) (.tmp 66) rfl w22.heap.size s noSn (.slice PA pn pc) (.slice none 0 0) rfl rfl rfl z6 ?_; intro w24 x6 hg6; refine Hid.out ?_))
      refine Lib.hid ?_
      clear c24 f24 e3
      have hb24 := hb23.grown hg6 hs24 (fun k hk => by injection hk; omega)
      obtain ⟨F6, hF6⟩ : ∃ F, F = w22.heap.size := ⟨_, rfl⟩
      rw [← hF6] at x6 ⊢
      have c3 : w24.cell? ⟨F6, 3, none⟩ = some (.string s.nm) := x6.c 3
      have f3 := x6.fz 3
      have x6 := x6.set 3 (.string nm) { s with nm := nm } (.slice PA pn pc) rfl
      have hb25 := hb24.setCell (p := ⟨F6, 3, none⟩) (by show w22.heap.size ≤ F6; omega) (.string nm)
      rw [← hs23] at hb25
      have hreg : Reg w (w24.setCell ⟨F6, 3, none⟩ (.string nm)) F1 F2 F3 F4 F5 F6 F9 s1 b1 s2 b2 b3 s3 b s.c.p b.c.p PA pn pc DA dn dc :=
        ⟨g1.below hb25, g2.below hb25, g3.below hb25, g4.below hb25, by rw [Eb3.out]; exact x5.below hb25, by rw [Es3.out]; exact x6, hy.below hb25, p.step hb25, pb.step hb25, hbt.trans (hb25.mono hbt.size)⟩
      have HREG := Lib.hid hreg
      clear Es3 Eb3 hreg g1 g2 g3 g4 x5 x6 hx hy p pb hbt hb23 hb24 hb25 z6 hg6 hF6 hs24 hs23
      go_upto_region 18 with fail
      clear c3 f3
      generalize w24.setCell ⟨F6, 3, none⟩ (.string nm) = w25 at *
      have HE5 := Lib.hid (show (((b.st &&& q : Nat) : Int) != 0) = tb by
        have h := HT.out
        cases tb
        · have h0 : b.st &&& q = 0 := by
            by_cases h0 : b.st &&& q = 0
            · exact h0
            · exact absurd (h.1 h0) (by decide)
          rw [h0]; rfl
        · have h0 : b.st &&& q ≠ 0 := h.2 rfl
          rw [bne_iff_ne]
          omega)
      clear hbt G1 G2
      have HL : ∀ i, Hid (∀ (hl : i < nm.size) , (((bl nm).take (i + 1)).all chr) = (((bl nm).take i).all chr && chr (nm[i]'hl))) := fun i => Lib.hid (fun hl => okn_take (bl nm) i (by rw [bl_len]; exact hl))
      have HEND : ∀ i, Hid (¬ i < nm.size → (decide (1 ≤ nm.size ∧ nm.size ≤ 16) && ((bl nm).take i).all chr) = gk) := fun i => Lib.hid (fun hl => by
        rw [HGK.out, List.take_of_length_le (by rw [bl_len]; omega)]; unfold okn; rw [bl_len])
      obtain ⟨g0, hg0⟩ : ∃ g, g = decide (1 ≤ nm.size ∧ nm.size ≤ 16) := ⟨_, rfl⟩
      go_cut [17] from 26 (fun gq wx => gq = .bool g0 ∧ wx = w25)
      case first =>
        by_cases hone : 1 ≤ nm.size
        case neg =>
          have dnm : decide (1 ≤ (nm.size : Int)) = false := decide_eq_false (by omega)
          have hgf : g0 = false := by rw [hg0]; exact decide_eq_false (by omega)
          clear hg0
          go_wp2_with fail
          go_meet
          exact ⟨by rw [hgf], rfl⟩
        have dnm : decide (1 ≤ (nm.size : Int)) = true := decide_eq_true (by omega)
        have hgt : g0 = decide ((nm.size : Int) ≤ 16) := by rw [hg0]; exact decide_eq_decide.2 ⟨fun h => by omega, fun h => ⟨hone, by omega⟩⟩
        clear hg0
        go_wp2_with fail
        go_meet
        exact ⟨by rw [hgt], rfl⟩
      case rest =>
        obtain ⟨rfl, hwc⟩ := hcut
        rw [hwc]
        have HST : Hid (g0 = (decide (1 ≤ nm.size ∧ nm.size ≤ 16) && ((bl nm).take 0).all chr)) := Lib.hid (by
          rw [hg0]
          show _ = (_ && true)
          rw [Bool.and_true])
        clear hg0 hwc
        go_wp2_with fail
        go_loop [17, 18] (fun g v => ∃ (gb : Bool) (i : Nat), i ≤ nm.size ∧ g = .bool gb ∧ v = .int .i64 (i : Int) ∧ Hid (gb = (decide (1 ≤ nm.size ∧ nm.size ≤ 16) && ((bl nm).take i).all chr))) (fun _ v => nm.size - (intOf v).toNat)
        case atStart => exact ⟨_, 0, Nat.zero_le _, rfl, rfl, HST⟩
        case round =>
          obtain ⟨gb, i, hi, rfl, rfl, HG⟩ := hrel
          clear HST
          by_cases hlt : i < nm.size
          · obtain ⟨x, hx⟩ : ∃ x : UInt8, x = nm[i]'hlt := ⟨_, rfl⟩
            have hxl := x.toNat_lt
            have HN1 := Lib.hid ((HL i).out hlt)
            rw [← hx] at HN1
            rw [eq_comm] at hx
            cases gb
            · go_wp2_with fail
              exact ⟨⟨false, i + 1, by omega, rfl, by go_num, Lib.hid (by rw [HN1.out, ← Bool.and_assoc, ← HG.out]; rfl)⟩, by simp [intOf]; omega⟩
            · by_cases h1 : 32 ≤ x.toNat
              · by_cases h2 : x.toNat ≤ 126
                · have d2 : decide ((x.toNat : Int) ≤ 126) = true := decide_eq_true (by omega)
                  go_wp2_with fail
                  exact ⟨⟨true, i + 1, by omega, rfl, by go_num, Lib.hid (by rw [HN1.out, ← Bool.and_assoc, ← HG.out]; unfold chr; rw [decide_eq_true h1, decide_eq_true h2]; rfl)⟩, by simp [intOf]; omega⟩
                · have d2 : decide ((x.toNat : Int) ≤ 126) = false := decide_eq_false (by omega)
                  go_wp2_with fail
                  exact ⟨⟨false, i + 1, by omega, rfl, by go_num, Lib.hid (by rw [HN1.out, ← Bool.and_assoc, ← HG.out]; unfold chr; rw [decide_eq_false h2, Bool.and_false]; rfl)⟩, by simp [intOf]; omega⟩
              · go_wp2_with fail
                exact ⟨⟨false, i + 1, by omega, rfl, by go_num, Lib.hid (by rw [HN1.out, ← Bool.and_assoc, ← HG.out]; unfold chr; rw [decide_eq_false h1]; rfl)⟩, by simp [intOf]; omega⟩
          · have hy := (HEND i).out hlt
            rw [← HG.out] at hy
            subst hy
            clear HG
            go_wp2_with fail
            refine wp_region_held_drew (S := (fun W => Reg w W F1 F2 F3 F4 F5 F6 F9 s1 b1 s2 b2 b3 s3 b s.c.p b.c.p PA pn pc DA dn dc)) (by kernel_rfl) ?_ (fun hHeld => ?_)
            · (try dsimp only); exact HREG.out.drew
            generalize w25.drew = w26 at *
            clear HREG
            (try dsimp only at hHeld)
            refine wpAnyH_take (i := 0) (oi := _) (v := ?vr0_0) rfl (by kernel_rfl) (by kernel_rfl) (by kernel_rfl) (fun _ _ _ h => h) (Or.inl ⟨rfl, ?yr0_0⟩) (by assumption) ?_
            case yr0_0 => intro w hSw; (try dsimp only at hSw); ((refine exec_load_bx2 (s := s1) (V := .slice PA pn pc) (.tmp 10) ?_ ?_ hSw.x1) <;> rfl)
            (try simp only [Act.put, List.getElem_toArray, List.getElem_cons_zero, List.setIfInBounds_toArray, List.set_cons_zero, List.set_cons_succ])
            refine wpAnyH_ready (rs := [1]) (by kernel_rfl) (by simp) ?_
            refine AllReadyH.cons (o := _) rfl (fun K hK => ?_) AllReadyH.nil
            go_simp
            go_at_call 39; refine (HC1.out _ hHeld.p).mono ?_; rintro e W1 ⟨rfl, kb⟩; have HR := Lib.hid (hHeld.below kb); clear kb
            refine hK.out _ _ ?_ (fun hHeld => ?_)
            · (try dsimp only); exact HR.out
            clear hK K HR; (try dsimp only at hHeld)
            (try simp only [Act.put, List.getElem_toArray, List.getElem_cons_succ, List.getElem_cons_zero, List.setIfInBounds_toArray, List.set_cons_zero, List.set_cons_succ])
            refine wpAnyH_take (i := 2) (oi := _) (v := ?vr0_2) rfl (by kernel_rfl) (by kernel_rfl) (by kernel_rfl) (fun _ _ _ h => h) (Or.inl ⟨rfl, ?yr0_2⟩) (by assumption) ?_
            case yr0_2 => intro w hSw; (try dsimp only at hSw); go_simp; (try with_reducible rfl)
            (try simp only [Act.put, List.getElem_toArray, List.getElem_cons_succ, List.getElem_cons_zero, List.setIfInBounds_toArray, List.set_cons_zero, List.set_cons_succ])
            refine wpAnyH_take (i := 3) (oi := _) (v := ?vr0_3) rfl (by kernel_rfl) (by kernel_rfl) (by kernel_rfl) (fun _ _ _ h => h) (Or.inl ⟨rfl, ?yr0_3⟩) (by assumption) ?_
            case yr0_3 => intro w hSw; (try dsimp only at hSw); go_simp; (try with_reducible rfl)
            (try simp only [Act.put, List.getElem_toArray, List.getElem_cons_succ, List.getElem_cons_zero, List.setIfInBounds_toArray, List.set_cons_zero, List.set_cons_succ])
            refine wpAnyH_take (i := 4) (oi := _) (v := ?vr0_4) rfl (by kernel_rfl) (by kernel_rfl) (by kernel_rfl) (fun _ _ _ h => h) (Or.inl ⟨rfl, ?yr0_4⟩) (by assumption) ?_
            case yr0_4 => intro w hSw; (try dsimp only at hSw); ((refine exec_load_bx2 (s := b1) (V := .slice DA dn dc) (.tmp 11) ?_ ?_ hSw.x2) <;> rfl)
            (try simp only [Act.put, List.getElem_toArray, List.getElem_cons_succ, List.getElem_cons_zero, List.setIfInBounds_toArray, List.set_cons_zero, List.set_cons_succ])
            refine wpAnyH_ready (rs := [5]) (by kernel_rfl) (by simp) ?_
            refine AllReadyH.cons (o := _) rfl (fun K hK => ?_) AllReadyH.nil
            go_simp
            go_at_call 39; refine (HC2.out _ hHeld.q).mono ?_; rintro e W1 ⟨rfl, kb⟩; have HR := Lib.hid (hHeld.below kb); clear kb
            refine hK.out _ _ ?_ (fun hHeld => ?_)
            · (try dsimp only); exact HR.out
            clear hK K HR; (try dsimp only at hHeld)
            (try simp only [Act.put, List.getElem_toArray, List.getElem_cons_succ, List.getElem_cons_zero, List.setIfInBounds_toArray, List.set_cons_zero, List.set_cons_succ])
            refine wpAnyH_take (i := 6) (oi := _) (v := ?vr0_6) rfl (by kernel_rfl) (by kernel_rfl) (by kernel_rfl) (fun _ _ _ h => h) (Or.inl ⟨rfl, ?yr0_6⟩) (by assumption) ?_
            case yr0_6 => intro w hSw; (try dsimp only at hSw); go_simp; (try with_reducible rfl)
            (try simp only [Act.put, List.getElem_toArray, List.getElem_cons_succ, List.getElem_cons_zero, List.setIfInBounds_toArray, List.set_cons_zero, List.set_cons_succ])
            refine wpAnyH_take (i := 7) (oi := _) (v := ?vr0_7) rfl (by kernel_rfl) (by kernel_rfl) (by kernel_rfl) (fun _ _ _ h => h) (Or.inl ⟨rfl, ?yr0_7⟩) (by assumption) ?_
            case yr0_7 => intro w hSw; (try dsimp only at hSw); go_simp; (try with_reducible rfl)
            (try simp only [Act.put, List.getElem_toArray, List.getElem_cons_succ, List.getElem_cons_zero, List.setIfInBounds_toArray, List.set_cons_zero, List.set_cons_succ])
            refine wpAnyH_take (i := 8) (oi := _) (v := ?vr0_8) rfl (by kernel_rfl) (by kernel_rfl) (by kernel_rfl) (fun _ _ _ h => h) (Or.inl ⟨rfl, ?yr0_8⟩) (by assumption) ?_
            case yr0_8 => intro w hSw; (try dsimp only at hSw); go_simp; (try with_reducible rfl)
            (try simp only [Act.put, List.getElem_toArray, List.getElem_cons_succ, List.getElem_cons_zero, List.setIfInBounds_toArray, List.set_cons_zero, List.set_cons_succ])
            refine wpAnyH_take (i := 9) (oi := _) (v := ?vr0_9) rfl (by kernel_rfl) (by kernel_rfl) (by kernel_rfl) (fun _ _ _ h => h) (Or.inl ⟨rfl, ?yr0_9⟩) (by assumption) ?_
            case yr0_9 => intro w hSw; (try dsimp only at hSw); ((refine exec_load_bx2 (s := s2) (V := .slice PA pn pc) (.tmp 12) ?_ ?_ hSw.x3) <;> rfl)
            (try simp only [Act.put, List.getElem_toArray, List.getElem_cons_succ, List.getElem_cons_zero, List.setIfInBounds_toArray, List.set_cons_zero, List.set_cons_succ])
            refine wpAnyH_ready (rs := [10]) (by kernel_rfl) (by simp) ?_
            refine AllReadyH.cons (o := _) rfl (fun K hK => ?_) AllReadyH.nil
            go_simp
            go_at_call 39; refine (HC3.out _ hHeld.p).mono ?_; rintro e W1 ⟨rfl, kb⟩; have HR := Lib.hid (hHeld.below kb); clear kb
            refine hK.out _ _ ?_ (fun hHeld => ?_)
            · (try dsimp only); exact HR.out
            clear hK K HR; (try dsimp only at hHeld)
            (try simp only [Act.put, List.getElem_toArray, List.getElem_cons_succ, List.getElem_cons_zero, List.setIfInBounds_toArray, List.set_cons_zero, List.set_cons_succ])
            refine wpAnyH_take (i := 11) (oi := _) (v := ?vr0_11) rfl (by kernel_rfl) (by kernel_rfl) (by kernel_rfl) (fun _ _ _ h => h) (Or.inl ⟨rfl, ?yr0_11⟩) (by assumption) ?_
            case yr0_11 => intro w hSw; (try dsimp only at hSw); go_simp; (try with_reducible rfl)
            (try simp only [Act.put, List.getElem_toArray, List.getElem_cons_succ, List.getElem_cons_zero, List.setIfInBounds_toArray, List.set_cons_zero, List.set_cons_succ])
            refine wpAnyH_take (i := 12) (oi := _) (v := ?vr0_12) rfl (by kernel_rfl) (by kernel_rfl) (by kernel_rfl) (fun _ _ _ h => h) (Or.inl ⟨rfl, ?yr0_12⟩) (by assumption) ?_
            case yr0_12 => intro w hSw; (try dsimp only at hSw); go_simp; (try with_reducible rfl)
            (try simp only [Act.put, List.getElem_toArray, List.getElem_cons_succ, List.getElem_cons_zero, List.setIfInBounds_toArray, List.set_cons_zero, List.set_cons_succ])
            refine wpAnyH_take (i := 13) (oi := _) (v := ?vr0_13) rfl (by kernel_rfl) (by kernel_rfl) (by kernel_rfl) (fun _ _ _ h => h) (Or.inl ⟨rfl, ?yr0_13⟩) (by assumption) ?_
            case yr0_13 => intro w hSw; (try dsimp only at hSw); go_simp; (try with_reducible rfl)
            (try simp only [Act.put, List.getElem_toArray, List.getElem_cons_succ, List.getElem_cons_zero, List.setIfInBounds_toArray, List.set_cons_zero, List.set_cons_succ])
            refine wpAnyH_take (i := 14) (oi := _) (v := ?vr0_14) rfl (by kernel_rfl) (by kernel_rfl) (by kernel_rfl) (fun _ _ _ h => h) (Or.inl ⟨rfl, ?yr0_14⟩) (by assumption) ?_
            case yr0_14 => intro w hSw; (try dsimp only at hSw); ((refine exec_load_bx2 (s := b2) (V := .slice DA dn dc) (.tmp 13) ?_ ?_ hSw.x4) <;> rfl)
            (try simp only [Act.put, List.getElem_toArray, List.getElem_cons_succ, List.getElem_cons_zero, List.setIfInBounds_toArray, List.set_cons_zero, List.set_cons_succ])
            refine wpAnyH_ready (rs := [15]) (by kernel_rfl) (by simp) ?_
            refine AllReadyH.cons (o := _) rfl (fun K hK => ?_) AllReadyH.nil
            go_simp
            go_at_call 39; refine (HC4.out _ hHeld.q).mono ?_; rintro e W1 ⟨rfl, kb⟩; have HR := Lib.hid (hHeld.below kb); clear kb
            refine hK.out _ _ ?_ (fun hHeld => ?_)
            · (try dsimp only); exact HR.out
            clear hK K HR; (try dsimp only at hHeld)
            (try simp only [Act.put, List.getElem_toArray, List.getElem_cons_succ, List.getElem_cons_zero, List.setIfInBounds_toArray, List.set_cons_zero, List.set_cons_succ])
            refine wpAnyH_take (i := 16) (oi := _) (v := ?vr0_16) rfl (by kernel_rfl) (by kernel_rfl) (by kernel_rfl) (fun _ _ _ h => h) (Or.inl ⟨rfl, ?yr0_16⟩) (by assumption) ?_
            case yr0_16 => intro w hSw; (try dsimp only at hSw); go_simp; (try with_reducible rfl)
            (try simp only [Act.put, List.getElem_toArray, List.getElem_cons_succ, List.getElem_cons_zero, List.setIfInBounds_toArray, List.set_cons_zero, List.set_cons_succ])
            refine wpAnyH_take (i := 17) (oi := _) (v := ?vr0_17) rfl (by kernel_rfl) (by kernel_rfl) (by kernel_rfl) (fun _ _ _ h => h) (Or.inl ⟨rfl, ?yr0_17⟩) (by assumption) ?_
            case yr0_17 => intro w hSw; (try dsimp only at hSw); go_simp; (try with_reducible rfl)
            (try simp only [Act.put, List.getElem_toArray, List.getElem_cons_succ, List.getElem_cons_zero, List.setIfInBounds_toArray, List.set_cons_zero, List.set_cons_succ])
            refine wpAnyH_take (i := 18) (oi := _) (v := ?vr0_18) rfl (by kernel_rfl) (by kernel_rfl) (by kernel_rfl) (fun _ _ _ h => h) (Or.inl ⟨rfl, ?yr0_18⟩) (by assumption) ?_
            case yr0_18 => intro w hSw; (try dsimp only at hSw); go_simp; (try with_reducible rfl)
            (try simp only [Act.put, List.getElem_toArray, List.getElem_cons_succ, List.getElem_cons_zero, List.setIfInBounds_toArray, List.set_cons_zero, List.set_cons_succ])
            refine wpAnyH_take (i := 19) (oi := _) (v := ?vr0_19) rfl (by kernel_rfl) (by kernel_rfl) (by kernel_rfl) (fun _ _ _ h => h) (Or.inl ⟨rfl, ?yr0_19⟩) (by assumption) ?_
            case yr0_19 => intro w hSw; (try dsimp only at hSw); ((refine exec_load_bx2 (s := b3) (V := .slice DA dn dc) (.tmp 14) ?_ ?_ hSw.x5) <;> rfl)
            (try simp only [Act.put, List.getElem_toArray, List.getElem_cons_succ, List.getElem_cons_zero, List.setIfInBounds_toArray, List.set_cons_zero, List.set_cons_succ])
            refine wpAnyH_take (i := 21) (oi := _) (v := ?vr0_21) rfl (by kernel_rfl) (by kernel_rfl) (by kernel_rfl) (fun _ _ _ h => h) (Or.inl ⟨rfl, ?yr0_21⟩) (by assumption) ?_
            case yr0_21 => intro w hSw; (try dsimp only at hSw); go_simp; (try with_reducible rfl)
            (try simp only [Act.put, List.getElem_toArray, List.getElem_cons_succ, List.getElem_cons_zero, List.setIfInBounds_toArray, List.set_cons_zero, List.set_cons_succ])
            refine wpAnyH_take (i := 22) (oi := _) (v := ?vr0_22) rfl (by kernel_rfl) (by kernel_rfl) (by kernel_rfl) (fun _ _ _ h => h) (Or.inl ⟨rfl, ?yr0_22⟩) (by assumption) ?_
            case yr0_22 => intro w hSw; (try dsimp only at hSw); have s1 : w.cell? ⟨F9, 23, none⟩ = some (.int .u16 (b.st : Int)) := hSw.x9.c 23; clear hSw; go_simp; (try with_reducible rfl)
            (try simp only [Act.put, List.getElem_toArray, List.getElem_cons_succ, List.getElem_cons_zero, List.setIfInBounds_toArray, List.set_cons_zero, List.set_cons_succ])
            refine wpAnyH_take (i := 23) (oi := _) (v := ?vr0_23) rfl (by kernel_rfl) (by kernel_rfl) (by kernel_rfl) (fun _ _ _ h => h) (Or.inl ⟨rfl, ?yr0_23⟩) (by assumption) ?_
            case yr0_23 => intro w hSw; (try dsimp only at hSw); go_simp; (try with_reducible rfl)
            (try simp only [Act.put, List.getElem_toArray, List.getElem_cons_succ, List.getElem_cons_zero, List.setIfInBounds_toArray, List.set_cons_zero, List.set_cons_succ])
            refine wpAnyH_take (i := 24) (oi := _) (v := ?vr0_24) rfl (by kernel_rfl) (by kernel_rfl) (by kernel_rfl) (fun _ _ _ h => h) (Or.inl ⟨rfl, ?yr0_24⟩) (by assumption) ?_
            case yr0_24 => intro w hSw; (try dsimp only at hSw); have e4 := E4.out; go_simp; (try with_reducible rfl)
            (try simp only [Act.put, List.getElem_toArray, List.getElem_cons_succ, List.getElem_cons_zero, List.setIfInBounds_toArray, List.set_cons_zero, List.set_cons_succ])
            refine wpAnyH_take (i := 25) (oi := _) (v := ?vr0_25) rfl (by kernel_rfl) (by kernel_rfl) (by kernel_rfl) (fun _ _ _ h => h) (Or.inl ⟨rfl, ?yr0_25⟩) (by assumption) ?_
            case yr0_25 => intro w hSw; (try dsimp only at hSw); have e5 := HE5.out; go_simp; (try with_reducible rfl)
            (try simp only [Act.put, List.getElem_toArray, List.getElem_cons_succ, List.getElem_cons_zero, List.setIfInBounds_toArray, List.set_cons_zero, List.set_cons_succ])
            refine wpAnyH_ready (rs := [20]) (by kernel_rfl) (by simp) ?_
            refine AllReadyH.cons (o := _) rfl (fun K hK => ?_) AllReadyH.nil
            go_simp
            go_at_call 39; refine (HC5j.out _ hHeld.q).mono ?_; rintro e W1 ⟨rfl, kb⟩; have HR := Lib.hid (hHeld.below kb); clear kb
            refine hK.out _ _ ?_ (fun hHeld => ?_)
            · (try dsimp only); exact HR.out
            clear hK K HR; (try dsimp only at hHeld)
            (try simp only [Act.put, List.getElem_toArray, List.getElem_cons_succ, List.getElem_cons_zero, List.setIfInBounds_toArray, List.set_cons_zero, List.set_cons_succ])
            refine wpAnyH_take (i := 26) (oi := _) (v := ?vr0_26) rfl (by kernel_rfl) (by kernel_rfl) (by kernel_rfl) (fun _ _ _ h => h) (Or.inl ⟨rfl, ?yr0_26⟩) (by assumption) ?_
            case yr0_26 => intro w hSw; (try dsimp only at hSw); go_simp; (try with_reducible rfl)
            (try simp only [Act.put, List.getElem_toArray, List.getElem_cons_succ, List.getElem_cons_zero, List.setIfInBounds_toArray, List.set_cons_zero, List.set_cons_succ])
            refine wpAnyH_take (i := 27) (oi := _) (v := ?vr0_27) rfl (by kernel_rfl) (by kernel_rfl) (by kernel_rfl) (fun _ _ _ h => h) (Or.inl ⟨rfl, ?yr0_27⟩) (by assumption) ?_
            case yr0_27 => intro w hSw; (try dsimp only at hSw); go_simp; (try with_reducible rfl)
            (try simp only [Act.put, List.getElem_toArray, List.getElem_cons_succ, List.getElem_cons_zero, List.setIfInBounds_toArray, List.set_cons_zero, List.set_cons_succ])
            refine wpAnyH_take (i := 28) (oi := _) (v := ?vr0_28) rfl (by kernel_rfl) (by kernel_rfl) (by kernel_rfl) (fun _ _ _ h => h) (Or.inl ⟨rfl, ?yr0_28⟩) (by assumption) ?_
            case yr0_28 => intro w hSw; (try dsimp only at hSw); go_simp; (try with_reducible rfl)
            (try simp only [Act.put, List.getElem_toArray, List.getElem_cons_succ, List.getElem_cons_zero, List.setIfInBounds_toArray, List.set_cons_zero, List.set_cons_succ])
            refine wpAnyH_take (i := 29) (oi := _) (v := ?vr0_29) rfl (by kernel_rfl) (by kernel_rfl) (by kernel_rfl) (fun _ _ _ h => h) (Or.inl ⟨rfl, ?yr0_29⟩) (by assumption) ?_
            case yr0_29 => intro w hSw; (try dsimp only at hSw); ((refine exec_load_bx2 (s := s3) (V := .slice PA pn pc) (.tmp 16) ?_ ?_ hSw.x6) <;> rfl)
            (try simp only [Act.put, List.getElem_toArray, List.getElem_cons_succ, List.getElem_cons_zero, List.setIfInBounds_toArray, List.set_cons_zero, List.set_cons_succ])
            refine wpAnyH_take (i := 31) (oi := _) (v := ?vr0_31) rfl (by kernel_rfl) (by kernel_rfl) (by kernel_rfl) (fun _ _ _ h => h) (Or.inl ⟨rfl, ?yr0_31⟩) (by assumption) ?_
            case yr0_31 => intro w hSw; (try dsimp only at hSw); go_simp; (try with_reducible rfl)
            (try simp only [Act.put, List.getElem_toArray, List.getElem_cons_succ, List.getElem_cons_zero, List.setIfInBounds_toArray, List.set_cons_zero, List.set_cons_succ])
            refine wpAnyH_ready (rs := [30]) (by kernel_rfl) (by simp) ?_
            refine AllReadyH.cons (o := _) rfl (fun K hK => ?_) AllReadyH.nil
            go_simp
            go_at_call 39; refine (HC6.out _ hHeld.p).mono ?_; rintro e W1 ⟨rfl, kb⟩; have HR := Lib.hid (hHeld.below kb); clear kb
            refine hK.out _ _ ?_ (fun hHeld => ?_)
            · (try dsimp only); exact HR.out
            clear hK K HR; (try dsimp only at hHeld)
            (try simp only [Act.put, List.getElem_toArray, List.getElem_cons_succ, List.getElem_cons_zero, List.setIfInBounds_toArray, List.set_cons_zero, List.set_cons_succ])
            refine wpAnyH_take (i := 32) (oi := _) (v := ?vr0_32) rfl (by kernel_rfl) (by kernel_rfl) (by kernel_rfl) (fun _ _ _ h => h) (Or.inl ⟨rfl, ?yr0_32⟩) (by assumption) ?_
            case yr0_32 => intro w hSw; (try dsimp only at hSw); go_simp; (try with_reducible rfl)
            (try simp only [Act.put, List.getElem_toArray, List.getElem_cons_succ, List.getElem_cons_zero, List.setIfInBounds_toArray, List.set_cons_zero, List.set_cons_succ])
            refine wpAnyH_take (i := 33) (oi := _) (v := ?vr0_33) rfl (by kernel_rfl) (by kernel_rfl) (by kernel_rfl) (fun _ _ _ h => h) (Or.inl ⟨rfl, ?yr0_33⟩) (by assumption) ?_
            case yr0_33 => intro w hSw; (try dsimp only at hSw); go_simp; (try with_reducible rfl)
            (try simp only [Act.put, List.getElem_toArray, List.getElem_cons_succ, List.getElem_cons_zero, List.setIfInBounds_toArray, List.set_cons_zero, List.set_cons_succ])
            refine wpAnyH_take (i := 34) (oi := _) (v := ?vr0_34) rfl (by kernel_rfl) (by kernel_rfl) (by kernel_rfl) (fun _ _ _ h => h) (Or.inl ⟨rfl, ?yr0_34⟩) (by assumption) ?_
            case yr0_34 => intro w hSw; (try dsimp only at hSw); go_simp; (try with_reducible rfl)
            (try simp only [Act.put, List.getElem_toArray, List.getElem_cons_succ, List.getElem_cons_zero, List.setIfInBounds_toArray, List.set_cons_zero, List.set_cons_succ])
            refine wpAnyH_ready (rs := [35]) (by kernel_rfl) (by simp) ?_
            refine AllReadyH.cons (o := _) rfl (fun K hK => ?_) AllReadyH.nil
            go_simp
            go_at_call 25; refine (haw.out _).mono ?_; rintro e W1 ⟨rfl, kb⟩; have HR := Lib.hid (hHeld.below kb); clear kb
            refine hK.out _ _ ?_ (fun hHeld => ?_)
            · (try dsimp only); exact HR.out
            clear hK K HR; (try dsimp only at hHeld)
            (try simp only [Act.put, List.getElem_toArray, List.getElem_cons_succ, List.getElem_cons_zero, List.setIfInBounds_toArray, List.set_cons_zero, List.set_cons_succ])
            refine wpAnyH_take (i := 36) (oi := _) (v := ?vr0_36) rfl (by kernel_rfl) (by kernel_rfl) (by kernel_rfl) (fun _ _ _ h => h) (Or.inl ⟨rfl, ?yr0_36⟩) (by assumption) ?_
            case yr0_36 => intro w hSw; (try dsimp only at hSw); go_simp; (try with_reducible rfl)
            (try simp only [Act.put, List.getElem_toArray, List.getElem_cons_succ, List.getElem_cons_zero, List.setIfInBounds_toArray, List.set_cons_zero, List.set_cons_succ])
            refine wpAnyH_take (i := 37) (oi := _) (v := ?vr0_37) rfl (by kernel_rfl) (by kernel_rfl) (by kernel_rfl) (fun _ _ _ h => h) (Or.inl ⟨rfl, ?yr0_37⟩) (by assumption) ?_
            case yr0_37 => intro w hSw; (try dsimp only at hSw); go_simp; (try with_reducible rfl)
            (try simp only [Act.put, List.getElem_toArray, List.getElem_cons_succ, List.getElem_cons_zero, List.setIfInBounds_toArray, List.set_cons_zero, List.set_cons_succ])
            refine wpAnyH_done (by kernel_rfl) ?_ _
            go_wp2_with fail
            go_ret
            exact ⟨rfl, hHeld.hb⟩

theorem cells_u8 : Try.prog.cellsOf 5 = 1 := by kernel_rfl
theorem cells_int : Try.prog.cellsOf 3 = 1 := by kernel_rfl
theorem own : ownKnob Try.prog.godebug = none := by kernel_rfl
theorem laidOut : laidOutB Try.prog = true := by kernel_rfl
theorem contract (H : Type) (enc : TypeId × Value → H) (W : World) (base : Nat) (args : Array Value) (ds gs : List (DataW H)) (before : List MemPlace)
    (hval : ∀ (j : Nat) t v, Try.f7.params[j]? = some t → args[j]? = some v → Value.okWide Try.prog W .any base t v)
    (hW : DataW.Whole enc Try.prog Try.f7.params.toList Rows.sensorKindsSpec.vars false W args.toList ds gs before) :
    Calls Try.prog 7 args W fun e W' => ∃ v, e = .returned v ∧ Rows.sensorKindsSpec.post enc Try.prog Try.f7 false true false false W args v W' := by
  have hW' := hW
  obtain ⟨p, q, hA0, hV, rfl, hfz, hnd⟩ := hW
  have hA : DataW.TrodAll enc Try.prog W 0 (fun _ => true) true Try.f7.params.toList args.toList ds p := hA0
  rw [Try.params7] at hA hval
  obtain ⟨v0, vs0, d0, ds0, p0, q0, hargs, rfl, rfl, h0, r0⟩ := trodAll_cons hA
  obtain ⟨v1, vs1, d1, ds1, p1, q1, rfl, rfl, rfl, h1, r1⟩ := trodAll_cons r0
  obtain ⟨v2, vs2, d2, ds2, p2, q2, rfl, rfl, rfl, h2, r2⟩ := trodAll_cons r1
  obtain ⟨rfl, rfl, rfl⟩ := trodAll_nil r2
  obtain rfl : args = #[v0, v1, v2] := by cases args; simp_all
  obtain ⟨A0, n0, c0, l0, rfl, hn0, hr0, hw0, hc0, hm0, hk0⟩ := open_int_list Try.underlying22 Try.underlying3 cells_int (hval 0 22 v0 rfl rfl) h0
  obtain ⟨a1, rfl, -, -, w1⟩ := open_int Try.underlying3 (hval 1 3 v1 rfl rfl) h1
  obtain ⟨s2, rfl, hs2⟩ := open_str Try.underlying9 (hval 2 9 v2 rfl rfl) h2
  clear hA0
  refine (walk A0 n0 c0 l0 hn0 hw0 hc0 hm0 hk0 a1 (bounds_i64 w1) s2 hs2 W hr0).mono fun e W' ⟨he, hb⟩ => ?_
  subst he
  exact ⟨_, rfl, law_post laidOut (types_fit (by kernel_rfl)) (by kernel_rfl) Try.underlying4 rfl (fun xs hx => by
    match xs, hx with
    | [_, _, _], _ => rfl) hW' hb⟩

theorem lifted (os : Os) (started : os.Started) (H : Type) (enc : TypeId × Value → H) :
    ReturnsInHanded {} Try.checked os 7 .any (Rows.sensorKindsSpec.pre6 enc Try.prog Try.f7 Rows.sensorKindsRow.domain false) (Rows.sensorKindsSpec.post enc Try.prog Try.f7 false true false false) := by
  refine returnsInHanded_of_change (C := Try.checked) own started (by kernel_rfl) Try.func7
    (ChangeSpec.witness6 (enc := enc) (C := Try.checked) false ⟨#[], #[.slice none 0 0, .int .i64 0, .string ⟨#[]⟩], []⟩ 8 (by kernel_rfl) (by kernel_rfl) (by kernel_rfl) (by kernel_rfl)) ?_
  intro W base args ds gs before hval hW _ _
  exact contract H enc W base args ds gs before hval hW

theorem proved : Rows.SensorKindsSaid :=
  OpenClaim.holds_of_wide 7 Try.f7 rfl rfl rfl rfl rfl rfl rfl ⟨rfl, rfl, rfl, rfl, rfl⟩ rfl rfl rfl rfl rfl (by kernel_rfl) Try.func7 (by kernel_rfl)
    (of_decide_eq_true (by kernel_rfl)) (by unfold Func.isWrapper; first | (rw [if_pos (by decide +kernel)]; kernel_rfl) | (rw [if_neg (by decide +kernel)]; exact ⟨rfl, rfl⟩))
    (fun os started H enc _ => lifted os started H enc)
end Go.Proofs.Ytafoaonkjcfbaaa.sensorKinds
