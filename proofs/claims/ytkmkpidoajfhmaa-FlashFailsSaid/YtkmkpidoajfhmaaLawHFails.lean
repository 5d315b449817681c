/- FlashFails holds for every input: what a Program leaves at whose n-th byte the power fails. No condition. -/
import Derived.Test.YtkmkpidoajfhmaaE5e
import Derived.Test.YtkmkpidoajfhmaaE5q
import Derived.Test.YtkmkpidoajfhmaaDn5
import Derived.Test.YtkmkpidoajfhmaaLaw
namespace Go.Proofs.Ytkmkpidoajfhmaa.flashFails
open Go.RowKit Go.ChangeShapes Go.WideShapes Go.ChangeAt Go.Proofs.Ytkmkpidoajfhmaa.Mem Go.Proofs.Ytkmkpidoajfhmaa.E5p Go.Proofs.Ytkmkpidoajfhmaa.E5m Go.Proofs.Ytkmkpidoajfhmaa.E5a Go.Proofs.Ytkmkpidoajfhmaa.E5d Go.Proofs.Ytkmkpidoajfhmaa.Made Go.Proofs.Ytkmkpidoajfhmaa.Law
set_option maxRecDepth 100000
set_option maxHeartbeats 1000000

/-- The bytes that count. -/
def told (D : List UInt8) (r : Nat) (t : UInt8) : List UInt8 := D.take r ++ [D.getD r 0 ||| t]
/-- The device behind the failure. -/
def torn (b : List UInt8) (p : Nat) (D : List UInt8) (r : Nat) (t : UInt8) (dn : Bool) : Fl := ⟨64, andAt b p (told D r t), List.replicate 2 0, 128 + (r + 1), 0, t, dn⟩
theorem pr_fails (b : List UInt8) (hb : b.length = 128) (p : Nat) (hp : p < 100) (D : List UInt8) (hD : D.length = 28) (r : Nat) (hr : r < 28) (t : UInt8) :
    ((Fl.full b).arm (1 + (r : Int)) t).program (p : Int) D = (torn b p D r t true, 10) := by
  have e1 : (Fl.full b).arm (1 + (r : Int)) t = ⟨64, b, List.replicate 2 0, 128, r + 1, t, false⟩ := by
    have : (1 + (r : Int)).toNat = r + 1 := by omega
    unfold Fl.arm
    rw [this]
    rfl
  rw [e1, Fl.program_fails (s := ⟨64, b, List.replicate 2 0, 128, r + 1, t, false⟩) rfl p D (by show p + D.length ≤ b.length; omega) (by show 1 ≤ r + 1; omega) (by show r + 1 ≤ D.length; omega)]
  rfl
theorem told_at (D : List UInt8) (hD : D.length = 28) (r : Nat) (hr : r < 28) (t : UInt8) (i : Nat) : (told D r t).getD i 255 = if h : i < r then D[i]'(by omega) else if i = r then D[r]'(by omega) ||| t else 255 := by
  have hl : (D.take r).length = r := by simp; omega
  unfold told
  rw [List.getD_eq_getElem?_getD, List.getElem?_append, hl]
  by_cases h1 : i < r
  · rw [if_pos h1, dif_pos h1, List.getElem?_take, if_pos h1, List.getElem?_eq_getElem (by omega : i < D.length)]
    rfl
  · rw [if_neg h1, dif_neg h1]
    by_cases h2 : i = r
    · subst h2
      rw [if_pos rfl, Nat.sub_self, List.getD_eq_getElem?_getD, List.getElem?_eq_getElem (by omega : i < D.length)]
      rfl
    · rw [if_neg h2, List.getElem?_eq_none (by simp; omega)]
      rfl
theorem and_int (x y : UInt8) : bits .and .u8 (x.toNat : Int) (y.toNat : Int) = ((x &&& y).toNat : Int) := by
  rw [u8_and_nat _ _ x.toNat_lt y.toNat_lt, UInt8.toNat_and]
theorem torn_read (b : List UInt8) (p : Nat) (D : List UInt8) (r : Nat) (t : UInt8) (h : b.length = 128) : (torn b p D r t false).read 0 128 = (andAt b p (told D r t), 0) := by
  have := Fl.read_up (s := torn b p D r t false) rfl 0 128 (by show 0 + 128 ≤ (andAt b p (told D r t)).length; rw [andAt_len]; omega)
  rw [show ((0 : Nat) : Int) = 0 from rfl, show ((128 : Nat) : Int) = 128 from rfl] at this
  rw [this, List.drop_zero, List.take_of_length_le (by show (andAt b p (told D r t)).length ≤ 128; rw [andAt_len]; omega)]
  rfl

theorem walk (A : Option Addr) (n c : Nat) (l : List Int) (hn : n = l.length) (hw : ∀ x ∈ l, -9223372036854775808 ≤ x ∧ x ≤ 9223372036854775807) (hc : n ≤ c) (hm : c ≤ maxLen) (_hA : A = none → c = 0)
    (at_ : Int) (hat : -9223372036854775808 ≤ at_ ∧ at_ ≤ 9223372036854775807) (nn : Int) (hnn : -9223372036854775808 ≤ nn ∧ nn ≤ 9223372036854775807) (tv : Int) (htv : 0 ≤ tv ∧ tv ≤ 255)
    (w : World) (hr : IRow w.heap.size w A l) :
    Calls Try.prog 4 #[.slice A n c, .int .i64 at_, .int .i64 nn, .int .u8 tv] w fun e w' => e = .returned (.bool true) ∧ Below w.heap.size w w' := by
  obtain ⟨t, rfl⟩ : ∃ t : UInt8, tv = (t.toNat : Int) := ⟨UInt8.ofNat tv.toNat, by rw [UInt8.toNat_ofNat']; omega⟩
  have hl := lightmade_any A n c
  have hnm : n ≤ maxLen := Nat.le_trans hc hm
  by_cases h600 : n ≤ 600
  · have hd : decide (n ≤ 600) = true := by simpa using h600
    have hmd := made_any A n c l w hn hr hw (by omega)
    have HM := Lib.hid hmd; clear hmd
    have HN := Lib.hid hn; clear hn
    obtain ⟨i0, hi, hz0, hz1, hzq⟩ := info_parts info5
    go_enter Try.func4, Try.ntmps4
    go_wp2_with fail
    refine (hl w hnm).mono ?_
    rintro e w' ⟨rfl, rfl⟩
    rw [hd]
    go_wp2_with fail
    refine HM.out.mono ?_
    rintro e w1 ⟨d, b, g, hlen, rfl, hd1, hob, hg0, n1, n2, n3⟩
    have HB := Lib.hid hlen; clear hlen
    have hgl := (own_lt hob HB.out).2
    have hr1 : IRow w1.heap.size w1 A l := (Rd.below hr hd1.low).more hd1.base
    go_wp2_with fail
    refine (roll_any A n c w1).mono ?_
    rintro e w2 ⟨rfl, rfl⟩
    have hdz := Dz.start A n c l w1 hr1 HN.out hw (by omega)
    have hb2 : Below w1.heap.size w1 (w1.alloc (.cells #[.slice A n c, .int .i64 0] 72)) := (Below.refl _ _).alloc (Nat.le_refl _) _
    have hsz2 : w1.heap.size < (w1.alloc (.cells #[.slice A n c, .int .i64 0] 72)).heap.size := by simp
    generalize w1.alloc (.cells #[.slice A n c, .int .i64 0] 72) = w2 at *
    obtain ⟨G, hG⟩ : ∃ G, G = w1.heap.size := ⟨_, rfl⟩
    rw [← hG] at hdz hb2 hsz2 ⊢
    have HG := Lib.hid hG; clear hG
    go_wp2_with fail
    refine (mod_any at_ 100 w2 hat.1 hat.2 (by omega) (by omega)).mono ?_
    rintro e w' ⟨⟨p, hp, rfl, -⟩, rfl⟩
    go_wp2_with fail
    go_loopw [13, 14] (fun v i wr => ∃ (k : Nat) (D : List UInt8), k ≤ 28 ∧ i = .int .i64 k ∧ D.length = k ∧ Own (G + 1) wr v D ∧ Dz wr G A n c l ∧ Below G w1 wr) (fun _ i _ => 28 - (intOf i).toNat)
    case atStart => exact ⟨0, [], Nat.zero_le _, rfl, rfl, Own.nil, hdz, hb2⟩
    case round =>
      clear hdz hb2 hsz2
      obtain ⟨k, D, hk, rfl, hD, hown, hdz, hbw⟩ := hrel
      have HD := Lib.hid hD; clear hD
      by_cases hlt : k < 28
      · go_wp2_with fail
        refine hdz.byte.mono ?_
        rintro e w3 ⟨y, rfl, hdz3, hg3⟩
        have hown3 := own_kept hown hg3 (Nat.lt_succ_self G)
        have hG3 := hdz3.lt
        have hy := y.toNat_lt
        obtain ⟨z, hz⟩ : ∃ z : UInt8, bits .xor .u8 (y.toNat : Int) (7 * (k : Int)) = (z.toNat : Int) := by
          have := bv_xor y (7 * k) (by omega)
          unfold bv at this
          injection this with _ this
          refine ⟨y ^^^ UInt8.ofNat (7 * k), ?_⟩
          rw [← this]
          push_cast
          rfl
        have hszz := hbw.size
        have hg3s := hg3.size
        have hG1 : w1.heap.size ≤ G := Nat.le_of_eq HG.out.symm
        have hG2 : G ≤ w1.heap.size := Nat.le_of_eq HG.out
        go_wp2_with (at_builtin; go_loud (refine wpList_append_rd _ rfl _ _ _ rfl (G + 1) 5 i0 _ 1 Try.underlying35 hi hz0 hz1 hzq rfl _ _ _ rfl (World.ownsRow.alloc hown3 _) _ _ 1 1 (bvs [z]) rfl rfl (Rd.new w3 _ _) (fun hh => by cases hh) (bvs_one _) (by have := HD.out; unfold maxLen; omega) (by have := HD.out; omega) (by simp; omega) ?_); intro v1 w4 hown4 hg4)
        have hob : ∀ b, Value.ownBlock u13 = some b → G + 1 ≤ b := fun b hb => (World.ownsRow.lt hown3 b hb).1
        have hal := World.grownBy_alloc w3 (.cells #[.int .u8 (z.toNat : Int)] 5) (none : Option Nat)
        have hdA := hdz3.grown hal (by simp) (fun k hk => by cases hk)
        have hd4 := hdA.grown hg4 (fun e => by have := hob _ e; omega) (fun k hk => by have := hob k hk; omega)
        have hb3 := hbw.grown hg3 (by omega) (fun k hk => by cases hk; exact Nat.le_refl _)
        have hb4 := (hb3.alloc (by omega) (.cells #[.int .u8 (z.toNat : Int)] 5)).grown hg4 (by simp; omega) (fun k hk => by have := hob k hk; omega)
        exact ⟨⟨k + 1, D ++ [z], by omega, by go_num, by simp [HD.out], own_app hown4, hd4, hb4⟩, by simp [intOf]; omega⟩
      · obtain rfl : k = 28 := by omega
        have hd2 := hd1.step (HG.out ▸ hbw)
        have hob2 := own_stays hob HB.out (hbw.block g (by have := HG.out; omega))
        obtain ⟨DA, dn, dc, rfl, hds⟩ := Sl.of_own hown
        obtain ⟨h, rfl, hh1, hh2⟩ := own_some hown (by have := HD.out; omega)
        have hdn : dn = 28 := hds.len.trans HD.out
        subst hdn
        have hgh : g < h := by have := HG.out; omega
        have hlg := hd1.dev.lg; have hlb := hd1.dev.lb; have hlw := hd1.dev.lw
        have m1 : h ≠ d.g := by have := HG.out; omega
        have m2 : h ≠ d.gb := by have := HG.out; omega
        have m3 : h ≠ d.gw := by have := HG.out; omega
        clear hlg hlb hlw hbw hdz hob hd1 hr1
        go_wp2_with fail
        refine (mod_any nn 28 wr hnn.1 hnn.2 (by omega) (by omega)).mono ?_
        rintro e w' ⟨⟨r, hr28, rfl, -⟩, rfl⟩
        go_wp2_with fail
        refine (hd2.arm (1 + (r : Int)) t (by omega) (by omega)).mono ?_
        rintro e w3 ⟨rfl, hd3, hk3⟩
        have hob3 := own_stays hob2 HB.out (hk3.block g (own_lt hob2 HB.out).2 n1 n2 n3)
        have hoD3 := own_stays hown HD.out (hk3.block h hh2 m1 m2 m3)
        have hp3 := hd3.program (by omega) (some ⟨h, 0, none⟩) 28 dc D (sl_own hoD3 HD.out.symm) (Off.block m1 m2 m3) (p : Int) (by omega) (by omega) (by omega)
        rw [pr_fails b HB.out p hp D HD.out r hr28 t] at hp3
        have HP := Lib.hid hp3; clear hp3
        go_wp2_with fail
        refine HP.out.mono ?_
        rintro e w4 ⟨rfl, hd4, hk4⟩
        dsimp only at hd4
        have hob4 := own_stays hob3 HB.out (hk4.block g (own_lt hob3 HB.out).2 n1 n2 n3)
        have hoD4 := own_stays hoD3 HD.out (hk4.block h (own_lt hoD3 HD.out).2 m1 m2 m3)
        clear HP hd3 hd2 hob2 hob3 hoD3 hown hds hk3 hk4
        have r1 := hd4.read 0 1 (by omega) (by omega) (by omega) (by omega)
        rw [show (torn b p D r t true).read 0 1 = ([], 10) from rfl] at r1
        have R1 := Lib.hid r1; clear r1
        go_wp2_with fail
        refine R1.out.mono ?_
        rintro e w5 ⟨X, xn, xc, rfl, hxo, hxs, hb5, hd5⟩
        have hob5 := own_stays hob4 HB.out (hb5.block g (own_lt hob4 HB.out).2)
        have hoD5 := own_stays hoD4 HD.out (hb5.block h (own_lt hoD4 HD.out).2)
        clear R1 hxo hxs
        have p1 := hd5.program (by omega) none 0 0 [] ⟨rfl, Rd.nil, Nat.le_refl _, by unfold maxLen; omega, fun _ => rfl⟩ (fun hh => absurd hh (by simp)) 0 (by omega) (by omega) (by omega)
        rw [show (torn b p D r t true).program 0 [] = (torn b p D r t true, 10) from rfl] at p1
        have P1 := Lib.hid p1; clear p1
        go_wp2_with fail
        refine P1.out.mono ?_
        rintro e w6 ⟨rfl, hd6, hk6⟩
        dsimp only at hd6
        have hob6 := own_stays hob5 HB.out (hk6.block g (own_lt hob5 HB.out).2 n1 n2 n3)
        have hoD6 := own_stays hoD5 HD.out (hk6.block h (own_lt hoD5 HD.out).2 m1 m2 m3)
        clear P1
        go_wp2_with fail
        refine hd6.restore.mono ?_
        rintro e w7 ⟨rfl, hd7, hk7⟩
        change At w.heap.size w w7 d (torn b p D r t false) _ at hd7
        have hob7 := own_stays hob6 HB.out (hk7.block g (own_lt hob6 HB.out).2 n1 n2 n3)
        have hoD7 := own_stays hoD6 HD.out (hk7.block h (own_lt hoD6 HD.out).2 m1 m2 m3)
        clear hob6 hob5 hob4 hoD6 hoD5 hoD4 hd6 hd5 hd4
        have ra := hd7.read 0 128 (by omega) (by omega) (by omega) (by omega)
        rw [torn_read b p D r t HB.out] at ra
        have RA := Lib.hid ra; clear ra
        go_wp2_with fail
        refine RA.out.mono ?_
        rintro e w8 ⟨C, cn, cc, rfl, hco, hcs, hb8, hd8⟩
        dsimp only at hcs
        have hob8 := own_stays hob7 HB.out (hb8.block g (own_lt hob7 HB.out).2)
        have hoD8 := own_stays hoD7 HD.out (hb8.block h (own_lt hoD7 HD.out).2)
        have hcn : cn = 128 := by rw [hcs.len, andAt_len]; exact HB.out
        subst hcn
        clear RA hco hd7 hob7 hoD7
        have hst := steps_p hd8.dev
        rw [show (((torn b p D r t false).steps : Nat) : Int) = 128 + (1 + (r : Int)) by show ((128 + (r + 1) : Nat) : Int) = _; omega] at hst
        have HST := Lib.hid hst; clear hst
        go_wp2_with fail
        refine HST.out.mono ?_
        rintro e w' ⟨rfl, rfl⟩
        clear HST
        go_wp2_with fail
        go_loopw [21, 22, 23, 115, 133] (fun i _ _ _ _ wr => ∃ j : Nat, j ≤ 128 ∧ i = .int .i64 j ∧ ∃ q, wr = w8.drewN q) (fun i _ _ _ _ _ => 128 - (intOf i).toNat)
        case atStart => exact ⟨0, by omega, rfl, 0, rfl⟩
        case round =>
          obtain ⟨j, hj, rfl, q, rfl⟩ := hrel
          by_cases hlt : j < 128
          · have hjb : j < b.length := by have := HB.out; omega
            have hjo : j < (andAt b p (told D r t)).length := by rw [andAt_len]; exact hjb
            have hcell := own_cell hob8 HB.out.symm hjb
            obtain ⟨ca, rfl, hca, hcc⟩ := row_at hcs.row hjo
            rw [andAt_get] at hcc
            have b6 : (0 : Int) ≤ (j : Int) := by omega
            have b7 : (j : Int) < 128 := by omega
            have hta := told_at D HD.out r hr28 t (j - p)
            by_cases hjp : p ≤ j
            · rw [if_pos hjp, hta] at hcc
              clear hta
              by_cases hq : j - p < r
              · rw [dif_pos hq] at hcc
                have hdc := own_cell hoD8 HD.out.symm (i := j - p) (by have := HD.out; omega)
                have hand := and_int b[j] (D[j - p]'(by have := HD.out; omega))
                have HAND := Lib.hid hand; clear hand
                have b8 : (0 : Int) ≤ (j : Int) - (p : Int) := by omega
                have b9 : (j : Int) - (p : Int) < 28 := by omega
                have bx : ((j : Int) - (p : Int)).toNat = j - p := by omega
                have by1 : (j : Int) - (p : Int) < 1 + (r : Int) - 1 := by omega
                have g1 : (p : Int) ≤ (j : Int) := by omega
                have g2 : (j : Int) - (p : Int) < (r : Int) := by omega
                go_wp2_with fail
                go_quiet (fail)
                have hand := HAND.out
                go_wp2_with fail
                go_roundw
                case rel => exact ⟨j + 1, by omega, by go_num, _, rfl⟩
                case measure => simp [intOf]; omega
              · rw [dif_neg hq] at hcc
                have hrD : r < D.length := by have := HD.out; omega
                by_cases hr2 : j - p = r
                · rw [if_pos hr2] at hcc
                  have hdc := own_cell hoD8 HD.out.symm (i := r) hrD
                  have hor := or_int D[r] t
                  have hand := and_int b[j] (D[r] ||| t)
                  obtain rfl : j = p + r := by omega
                  obtain ⟨Z, hZ⟩ : ∃ Z, Z = D[r] ||| t := ⟨_, rfl⟩
                  rw [← hZ] at hcc hor hand
                  clear hZ
                  have HAND := Lib.hid hand; have HOR := Lib.hid hor; clear hand hor
                  clear hr2 hq
                  have b8 : (0 : Int) ≤ (r : Int) := by omega
                  have b9 : (r : Int) < 28 := by omega
                  have e1 : (((p + r : Nat)) : Int) - (p : Int) = (r : Int) := by omega
                  have e2 : (p : Int) + (r : Int) - (p : Int) = (r : Int) := by omega
                  have e3 : 1 + (r : Int) - 1 = (r : Int) := by omega
                  have g1 : (p : Int) ≤ (p : Int) + (r : Int) := by omega
                  go_wp2_with fail
                  clear e1 e2 e3
                  go_quiet (fail)
                  have hor := HOR.out
                  have hand := HAND.out
                  go_wp2_with fail
                  exact ⟨⟨p + r + 1, by omega, vi (by push_cast; rfl), _, rfl⟩, by simp [intOf]; omega⟩
                · rw [if_neg hr2, and_255] at hcc
                  have g1 : (p : Int) ≤ (j : Int) := by omega
                  have b8 : (0 : Int) ≤ (j : Int) - (p : Int) := by omega
                  have g2 : ¬ ((j : Int) - (p : Int) < 1 + (r : Int) - 1) := by omega
                  have g3 : ((j : Int) - (p : Int) == 1 + (r : Int) - 1) = false := by simp; omega
                  clear hr2 hq
                  go_wp2_with fail
                  go_roundw
                  case rel => exact ⟨j + 1, by omega, by go_num, _, rfl⟩
                  case measure => simp [intOf]; omega
            · rw [if_neg hjp] at hcc
              clear hta
              have g1 : ¬ ((p : Int) ≤ (j : Int)) := by omega
              have b8 : ¬ ((0 : Int) ≤ (j : Int) - (p : Int)) := by omega
              have g3 : ((j : Int) - (p : Int) == 1 + (r : Int) - 1) = false := by simp; omega
              go_wp2_with fail
              go_roundw
              case rel => exact ⟨j + 1, by omega, by go_num, _, rfl⟩
              case measure => simp [intOf]; omega
          · obtain rfl : j = 128 := by omega
            go_wp2_with fail
            refine (awake_any _).mono ?_
            rintro e w9 ⟨rfl, hb9⟩
            go_wp2_with fail
            go_ret
            exact ⟨rfl, ((hd8.drewN q).step hb9).low⟩
  · have hd : decide (n ≤ 600) = false := by simpa using h600
    have HN := Lib.hid hn; clear hn
    go_enter Try.func4, Try.ntmps4
    go_wp2_with fail
    refine (hl w hnm).mono ?_
    rintro e w' ⟨rfl, rfl⟩
    rw [hd]
    go_wp2_with fail
    refine (awake_any w).mono ?_
    rintro e w1 ⟨rfl, hb⟩
    go_wp2_with fail
    go_ret
    exact ⟨rfl, hb⟩

theorem cells_u8 : Try.prog.cellsOf 5 = 1 := by kernel_rfl
theorem cells_int : Try.prog.cellsOf 3 = 1 := by kernel_rfl
theorem own : ownKnob Try.prog.godebug = none := by kernel_rfl
theorem laidOut : laidOutB Try.prog = true := by kernel_rfl
theorem contract (H : Type) (enc : TypeId × Value → H) (W : World) (base : Nat) (args : Array Value) (ds gs : List (DataW H)) (before : List MemPlace)
    (hval : ∀ (j : Nat) t v, Try.f4.params[j]? = some t → args[j]? = some v → Value.okWide Try.prog W .any base t v)
    (hW : DataW.Whole enc Try.prog Try.f4.params.toList Rows.flashFailsSpec.vars false W args.toList ds gs before) :
    Calls Try.prog 4 args W fun e W' => ∃ v, e = .returned v ∧ Rows.flashFailsSpec.post enc Try.prog Try.f4 false true false false W args v W' := by
  have hW' := hW
  obtain ⟨p, q, hA0, hV, rfl, hfz, hnd⟩ := hW
  have hA : DataW.TrodAll enc Try.prog W 0 (fun _ => true) true Try.f4.params.toList args.toList ds p := hA0
  rw [Try.params4] at hA hval
  obtain ⟨v0, vs0, d0, ds0, p0, q0, hargs, rfl, rfl, h0, r0⟩ := trodAll_cons hA
  obtain ⟨v1, vs1, d1, ds1, p1, q1, rfl, rfl, rfl, h1, r1⟩ := trodAll_cons r0
  obtain ⟨v2, vs2, d2, ds2, p2, q2, rfl, rfl, rfl, h2, r2⟩ := trodAll_cons r1
  obtain ⟨v3, vs3, d3, ds3, p3, q3, rfl, rfl, rfl, h3, r3⟩ := trodAll_cons r2
  obtain ⟨rfl, rfl, rfl⟩ := trodAll_nil r3
  obtain rfl : args = #[v0, v1, v2, v3] := by cases args; simp_all
  obtain ⟨A0, n0, c0, l0, rfl, hn0, hr0, hw0, hc0, hm0, hk0⟩ := open_int_list Try.underlying46 Try.underlying3 cells_int (hval 0 46 v0 rfl rfl) h0
  obtain ⟨a1, rfl, -, -, w1⟩ := open_int Try.underlying3 (hval 1 3 v1 rfl rfl) h1
  obtain ⟨a2, rfl, -, -, w2⟩ := open_int Try.underlying3 (hval 2 3 v2 rfl rfl) h2
  obtain ⟨a3, rfl, -, -, w3⟩ := open_int Try.underlying5 (hval 3 5 v3 rfl rfl) h3
  clear hA0
  refine (walk A0 n0 c0 l0 hn0 hw0 hc0 hm0 hk0 a1 (bounds_i64 w1) a2 (bounds_i64 w2) a3 (bounds_u8 w3) W hr0).mono fun e W' ⟨he, hb⟩ => ?_
  subst he
  exact ⟨_, rfl, law_post laidOut (types_fit (by kernel_rfl)) (by kernel_rfl) Try.underlying4 rfl (fun xs hx => by
    match xs, hx with
    | [_, _, _, _], _ => rfl) hW' hb⟩

theorem lifted (os : Os) (started : os.Started) (H : Type) (enc : TypeId × Value → H) :
    ReturnsInHanded {} Try.checked os 4 .any (Rows.flashFailsSpec.pre6 enc Try.prog Try.f4 Rows.flashFailsRow.domain false) (Rows.flashFailsSpec.post enc Try.prog Try.f4 false true false false) := by
  refine returnsInHanded_of_change (C := Try.checked) own started (by kernel_rfl) Try.func4
    (ChangeSpec.witness6 (enc := enc) (C := Try.checked) false ⟨#[], #[.slice none 0 0, .int .i64 0, .int .i64 0, .int .u8 0], []⟩ 8 (by kernel_rfl) (by kernel_rfl) (by kernel_rfl) (by kernel_rfl)) ?_
  intro W base args ds gs before hval hW _ _
  exact contract H enc W base args ds gs before hval hW

theorem proved : Rows.FlashFailsSaid :=
  OpenClaim.holds_of_wide 4 Try.f4 rfl rfl rfl rfl rfl rfl rfl ⟨rfl, rfl, rfl, rfl, rfl⟩ rfl rfl rfl rfl rfl (by kernel_rfl) Try.func4 (by kernel_rfl)
    (of_decide_eq_true (by kernel_rfl)) (by unfold Func.isWrapper; first | (rw [if_pos (by decide +kernel)]; kernel_rfl) | (rw [if_neg (by decide +kernel)]; exact ⟨rfl, rfl⟩))
    (fun os started H enc _ => lifted os started H enc)
end Go.Proofs.Ytkmkpidoajfhmaa.flashFails
