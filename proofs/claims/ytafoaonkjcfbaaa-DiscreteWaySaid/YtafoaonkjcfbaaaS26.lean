/- Walks: the program's discrete states: bits of 16, has, changes. -/
import Derived.Test.YtafoaonkjcfbaaaS11
import Derived.Test.YtafoaonkjcfbaaaS18
import Derived.Test.YtafoaonkjcfbaaaS25
import Derived.Test.YtafoaonkjcfbaaaS23
namespace Go.Proofs.Ytafoaonkjcfbaaa.Ya
open Go.RowKit Go.Proofs.Ytafoaonkjcfbaaa.Mem Go.Proofs.Ytafoaonkjcfbaaa.F2p Go.Proofs.Ytafoaonkjcfbaaa.C4l Go.Proofs.Ytafoaonkjcfbaaa.Ta Go.Proofs.Ytafoaonkjcfbaaa.Tb
set_option maxRecDepth 100000
set_option maxHeartbeats 1000000

theorem and_u16 (a b : Nat) (ha : a < 65536) (hb : b < 65536) : bits .and .u16 (a : Int) (b : Int) = ((a &&& b : Nat) : Int) := by
  show IntKind.u16.wrap ((BitVec.ofInt 16 (a : Int) &&& BitVec.ofInt 16 (b : Int)).toNat : Int) = _
  rw [BitVec.ofInt_natCast, BitVec.ofInt_natCast, BitVec.toNat_and, BitVec.toNat_ofNat, BitVec.toNat_ofNat, Nat.mod_eq_of_lt (show a < 2 ^ 16 by omega), Nat.mod_eq_of_lt (show b < 2 ^ 16 by omega)]
  exact IntWalk.u16_in _ ⟨by omega, by have : a &&& b < 2 ^ 16 := Nat.and_lt_two_pow (n := 16) _ (by omega); omega⟩
theorem and_u16m (a b : Nat) (ha : a < 65536) : bits .and .u16 (a : Int) (b : Int) = ((a &&& (b % 65536) : Nat) : Int) := by
  show IntKind.u16.wrap ((BitVec.ofInt 16 (a : Int) &&& BitVec.ofInt 16 (b : Int)).toNat : Int) = _
  rw [BitVec.ofInt_natCast, BitVec.ofInt_natCast, BitVec.toNat_and, BitVec.toNat_ofNat, BitVec.toNat_ofNat, Nat.mod_eq_of_lt (show a < 2 ^ 16 by omega)]
  exact IntWalk.u16_in _ ⟨by omega, by have : a &&& (b % 2 ^ 16) < 2 ^ 16 := Nat.and_lt_two_pow (n := 16) _ (by omega); omega⟩
theorem or_u16 (a b : Nat) (ha : a < 65536) (hb : b < 65536) : bits .or .u16 (a : Int) (b : Int) = ((a ||| b : Nat) : Int) := by
  show IntKind.u16.wrap ((BitVec.ofInt 16 (a : Int) ||| BitVec.ofInt 16 (b : Int)).toNat : Int) = _
  rw [BitVec.ofInt_natCast, BitVec.ofInt_natCast, BitVec.toNat_or, BitVec.toNat_ofNat, BitVec.toNat_ofNat, Nat.mod_eq_of_lt (show a < 2 ^ 16 by omega), Nat.mod_eq_of_lt (show b < 2 ^ 16 by omega)]
  exact IntWalk.u16_in _ ⟨by omega, by have : a ||| b < 2 ^ 16 := Nat.or_lt_two_pow (n := 16) (by omega) (by omega); omega⟩
theorem xor_u16 (a b : Nat) (ha : a < 65536) (hb : b < 65536) : bits .xor .u16 (a : Int) (b : Int) = ((a ^^^ b : Nat) : Int) := by
  show IntKind.u16.wrap ((BitVec.ofInt 16 (a : Int) ^^^ BitVec.ofInt 16 (b : Int)).toNat : Int) = _
  rw [BitVec.ofInt_natCast, BitVec.ofInt_natCast, BitVec.toNat_xor, BitVec.toNat_ofNat, BitVec.toNat_ofNat, Nat.mod_eq_of_lt (show a < 2 ^ 16 by omega), Nat.mod_eq_of_lt (show b < 2 ^ 16 by omega)]
  exact IntWalk.u16_in _ ⟨by omega, by have : a ^^^ b < 2 ^ 16 := Nat.xor_lt_two_pow (n := 16) (by omega) (by omega); omega⟩
theorem and_one16 (x : Nat) (h : x < 65536) : bits .and .u16 (x : Int) 1 = ((x % 2 : Nat) : Int) := by
  have := and_u16 x 1 h (by omega)
  rw [Nat.and_one_is_mod] at this
  exact this
theorem has_d (m i : Nat) (hm : m < 65536) (hi : i ≤ 16) (w : World) : Calls Try.prog 83 #[.int .u16 (m : Int), .int .i64 (i : Int)] w fun e w' => e = .returned (.bool (m.testBit i)) ∧ w = w' := by
  have hq : m / 2 ^ i < 65536 := Nat.lt_of_le_of_lt (Nat.div_le_self _ _) hm
  have e1 := and_one16 _ hq
  rw [tb_one m i, ← shr_n] at e1
  clear hq
  generalize m.testBit i = b at *
  cases b
  · rw [if_neg Bool.false_ne_true] at e1
    go_enter Try.func83, Try.ntmps83
    go_wp2_with fail
    go_ret
    exact ⟨rfl, rfl⟩
  · rw [if_pos rfl] at e1
    go_enter Try.func83, Try.ntmps83
    go_wp2_with fail
    go_ret
    exact ⟨rfl, rfl⟩
theorem changes_d (a b : Nat) (ha : a < 65536) (hb : b < 65536) (w : World) :
    Calls Try.prog 81 #[.int .u16 (a : Int), .int .u16 (b : Int)] w fun e w' => ∃ v, e = .returned v ∧ KOwn w.heap.size w' v (chs a b 15) ∧ Below w.heap.size w w' := by
  have hx := xor_u16 a b ha hb
  have hxl : a ^^^ b < 65536 := Nat.xor_lt_two_pow (n := 16) (by omega) (by omega)
  have hxb := fun j => Nat.testBit_xor a b j
  generalize a ^^^ b = X at *
  have H1 := Lib.hid hxb
  have HHX := Lib.hid fun j (hj : j ≤ 16) (u : World) => has_d X j hxl hj u
  have HHB := Lib.hid fun j (hj : j ≤ 16) (u : World) => has_d b j hb hj u
  clear hxb
  have hb0 : Below w.heap.size w w := Below.refl _ _
  go_enter Try.func81, Try.ntmps81
  go_wp2_with fail
  go_loopw [5, 6, 7] (fun v z i wr => ∃ j : Nat, j ≤ 15 ∧ i = .int .i64 (j : Int) ∧ KOwn w.heap.size wr v (chs a b j) ∧ Below w.heap.size w wr) (fun _ _ i _ => 15 - (intOf i).toNat)
  case atStart => exact ⟨0, by omega, rfl, KOwn.nil, hb0⟩
  case round =>
    clear hb0
    obtain ⟨j, hj, rfl, hown, hbel⟩ := hrel
    by_cases hj6 : j < 15
    · have hx2 := H1.out j
      have HX := Lib.hid fun (u : World) => HHX.out j (by omega) u
      have HB := Lib.hid fun (u : World) => HHB.out j (by omega) u
      rw [hx2] at HX
      clear hx2
      have hc1 := chs_same (a := a) (b := b) (j := j)
      have hc2 := chs_diff (a := a) (b := b) (j := j)
      have HC1 := Lib.hid hc1
      have HC2 := Lib.hid hc2
      have HL := Lib.hid (chs_len a b j)
      clear hc1 hc2
      generalize a.testBit j = x at *
      generalize b.testBit j = y at *
      go_wp2_with fail
      refine (HX.out _).mono ?_
      rintro e w2 ⟨rfl, rfl⟩
      by_cases hxy : x = y
      · have HC := Lib.hid (HC1.out hxy)
        subst hxy
        rw [Bool.xor_self]
        go_wp2_with fail
        refine ⟨⟨j + 1, by omega, by go_num, ?_, hbel⟩, by simp [intOf]; omega⟩
        rw [HC.out]; exact hown
      · have HC := Lib.hid (HC2.out hxy)
        rw [show (x ^^ y) = true by cases x <;> cases y <;> first | rfl | exact absurd rfl hxy]
        clear hxy
        go_wp2_with fail
        refine (HB.out _).mono ?_
        rintro e w3 ⟨rfl, rfl⟩
        go_wp2_with (at_builtin; (refine wpList_append_k _ rfl (.tmp 15) (.tmp 21) rfl w.heap.size _ (chs a b j) rfl (World.ownsRow.alloc hown _) [⟨j, y⟩] ⟨_, 0, none⟩ 1 1 rfl rfl (KsAt.one (cell_of_row _ _ 0 _ _ _ (heap_alloc_new _ _)) (cell_of_row _ _ 1 _ _ _ (heap_alloc_new _ _))) (by have := HL.out; simp; omega) (by have := hbel.size; simp; omega) ?_); intro v8 w8 hown8 hg8 hv8)
        refine ⟨⟨j + 1, by omega, by go_num, ?_, ?_⟩, by simp [intOf]; omega⟩
        · rw [HC.out]; exact hown8
        · exact (hbel.alloc hbel.size _).grown hg8 (by have := hbel.size; simp; omega) (fun k hk => (KOwn.blk hown hk).1)
    · obtain rfl : j = 15 := by omega
      go_wp2_with fail
      go_ret
      exact ⟨_, rfl, hown, hbel⟩
/-- What Step answers. -/
def DOut (s : Sn) (st nx : Nat) (w0 : World) (e : Ending) (w' : World) : Prop :=
  Below w0.heap.size w0 w' ∧
  if (s.d && vs s) = false then e = .returned (.tuple #[.int .u16 0, .slice none 0 0, .int .i64 1])
  else if andn (st ||| nx) s.st ≠ 0 then e = .returned (.tuple #[.int .u16 0, .slice none 0 0, .int .i64 2])
  else ∃ v, e = .returned (.tuple #[.int .u16 (nx : Nat), v, .int .i64 0]) ∧ KOwn w0.heap.size w' v (chs st nx 15)
theorem step_d (s : Sn) (A : Option Addr) (n cp : Nat) (st nx : Nat) (hst : st < 65536) (hnx : nx < 65536) (w : World) (hsl : PSl w A n cp s.c.p) (hnm : s.nm.size ≤ maxLen) :
    Calls Try.prog 43 #[.agg (cells s (.slice A n cp)), .int .u16 (st : Int), .int .u16 (nx : Int)] w fun e w' => DOut s st nx w e w' := by
  have hb0 : Below w.heap.size w (w.alloc (.cells (cells s (.slice A n cp)) 59)) := (Below.refl _ _).alloc (Nat.le_refl _) _
  have hx0 : Bx (w.alloc (.cells (cells s (.slice A n cp)) 59)) w.heap.size s (.slice A n cp) := heap_alloc_new w _
  have HV := Lib.hid (valid_p s A n cp _ (hsl.step hb0) hnm)
  unfold DOut
  have ho := or_u16 st nx hst hnx
  have ha := bits_andn (st ||| nx) s.st
  have HCH := Lib.hid fun (u : World) => changes_d st nx hst hnx u
  generalize st ||| nx = X at *
  generalize andn X s.st = AN at *
  generalize vs s = R at *
  have c6 : (w.alloc (.cells (cells s (.slice A n cp)) 59)).cell? ⟨w.heap.size, 6, none⟩ = some (.bool s.d) := hx0.c 6
  generalize s.d = d at *
  clear hsl hnm
  go_enter Try.func43, Try.ntmps43
  cases d
  · go_wp2_with fail
    go_ret3
    exact ⟨hb0, by first | rfl | (rw [Bool.false_and]; rfl)⟩
  rw [Bool.true_and]
  go_wp2_with (refine wpList_load_bx_w (by rfl) (.tmp 3) rfl _ _ _ rfl hx0 ?_)
  refine HV.out.mono ?_
  rintro e w2 ⟨rfl, hb2⟩
  have hx2 := hx0.below hb2
  have hbb := hb0.trans (hb2.mono hb0.size)
  clear hx0 hb0 hb2 HV c6
  cases R
  · go_wp2_with fail
    go_ret3
    exact ⟨hbb, rfl⟩
  have c23 : w2.cell? ⟨w.heap.size, 23, none⟩ = some (.int .u16 (s.st : Int)) := hx2.c 23
  by_cases hz : AN = 0
  case neg =>
    have hnz : ((AN : Int) != 0) = true := by rw [bne_iff_ne]; omega
    go_wp2_with fail
    go_ret3
    refine ⟨hbb, ?_⟩
    first | rfl | (rw [if_neg (by simp), if_pos hz])
  subst hz
  go_wp2_with fail
  refine (HCH.out _).mono ?_
  rintro e w3 ⟨v, rfl, hown, hb3⟩
  go_wp2_with fail
  go_ret3
  refine ⟨hbb.trans (hb3.mono hbb.size), ?_⟩
  first | exact ⟨v, rfl, kown_base hown hbb.size⟩ | (rw [if_neg (by simp), if_neg (by simp)]; exact ⟨v, rfl, kown_base hown hbb.size⟩)
def do1 (s : Sn) (st nx : Nat) : Nat := if (s.d && vs s) = false then 0 else if andn (st ||| nx) s.st ≠ 0 then 0 else nx
def do2 (s : Sn) (st nx : Nat) : Int := if (s.d && vs s) = false then 1 else if andn (st ||| nx) s.st ≠ 0 then 2 else 0
def do3 (s : Sn) (st nx : Nat) : List Ch := if (s.d && vs s) = false then [] else if andn (st ||| nx) s.st ≠ 0 then [] else chs st nx 15
theorem do3_len (s : Sn) (st nx : Nat) : (do3 s st nx).length ≤ 15 := by
  unfold do3
  split
  · exact Nat.zero_le _
  · split
    · exact Nat.zero_le _
    · exact chs_len _ _ _
theorem dstep_out {s : Sn} {st nx : Nat} {w0 w' : World} {e : Ending} (h : DOut s st nx w0 e w') :
    ∃ A n c, e = .returned (.tuple #[.int .u16 (do1 s st nx : Nat), .slice A n c, .int .i64 (do2 s st nx)]) ∧ KSl w' A n c (do3 s st nx) ∧ Below w0.heap.size w0 w' := by
  obtain ⟨hb, h⟩ := h
  unfold do1 do2 do3
  by_cases h1 : (s.d && vs s) = false
  · rw [if_pos h1] at h ⊢; rw [if_pos h1, if_pos h1]
    exact ⟨_, _, _, h, KSl.none, hb⟩
  · rw [if_neg h1] at h ⊢; rw [if_neg h1, if_neg h1]
    by_cases h2 : andn (st ||| nx) s.st ≠ 0
    · rw [if_pos h2] at h ⊢; rw [if_pos h2, if_pos h2]
      exact ⟨_, _, _, h, KSl.none, hb⟩
    · rw [if_neg h2] at h ⊢; rw [if_neg h2, if_neg h2]
      obtain ⟨v, h, ho⟩ := h
      obtain ⟨A, n, c, rfl, hs⟩ := ho.sl
      exact ⟨A, n, c, h, hs, hb⟩
end Go.Proofs.Ytafoaonkjcfbaaa.Ya
