/- FlashDown holds for every input: nothing changes while the power is down, and a refused call changes nothing. No condition. -/
import Derived.Test.YtkmkpidoajfhmaaE5f
import Derived.Test.YtkmkpidoajfhmaaE5q
import Derived.Test.YtkmkpidoajfhmaaLaw5
namespace Go.Proofs.Ytkmkpidoajfhmaa.flashDown
open Go.RowKit Go.ChangeShapes Go.WideShapes Go.ChangeAt Go.Proofs.Ytkmkpidoajfhmaa.Mem Go.Proofs.Ytkmkpidoajfhmaa.E5p Go.Proofs.Ytkmkpidoajfhmaa.E5m Go.Proofs.Ytkmkpidoajfhmaa.E5a Go.Proofs.Ytkmkpidoajfhmaa.E5d Go.Proofs.Ytkmkpidoajfhmaa.Made Go.Proofs.Ytkmkpidoajfhmaa.Same Go.Proofs.Ytkmkpidoajfhmaa.Law
set_option maxRecDepth 100000
set_option maxHeartbeats 1000000

/-- The device whose second sector was erased while the power failed. -/
def gone (b : List UInt8) (t : UInt8) (dn : Bool) : Fl := ⟨64, orAt b 64 64 t, [0, 1], 129, 0, t, dn⟩
theorem er_gone (b : List UInt8) (t : UInt8) : ((Fl.full b).arm 1 t).erase 1 = (gone b t true, 10) := by
  unfold Fl.erase
  rfl
theorem front_kept (b : List UInt8) (t : UInt8) (h : b.length = 128) : (orAt b 64 64 t).take 64 = b.take 64 := by
  apply List.ext_getElem (by simp)
  intro i h1 h2
  rw [List.getElem_take, List.getElem_take, orAt_get, if_neg (by simp at h1; omega)]
theorem gone_read (b : List UInt8) (t : UInt8) (h : b.length = 128) : (gone b t false).read 0 64 = (b.take 64, 0) := by
  have := Fl.read_up (s := gone b t false) rfl 0 64 (by show 0 + 64 ≤ (orAt b 64 64 t).length; rw [orAt_len]; omega)
  rw [show ((0 : Nat) : Int) = 0 from rfl, show ((64 : Nat) : Int) = 64 from rfl] at this
  rw [this, List.drop_zero, show (gone b t false).bytes = orAt b 64 64 t from rfl, front_kept b t h]
theorem gone_program (b : List UInt8) (t : UInt8) (h : b.length = 128) : ((gone b t false).program 0 (b.take 64)).2 = 0 ∧ ((gone b t false).program 0 (b.take 64)).1.down = false := by
  have := Fl.program_up (s := gone b t false) rfl 0 (b.take 64) (by show 0 + (b.take 64).length ≤ (orAt b 64 64 t).length; rw [orAt_len, List.length_take]; omega) rfl
  rw [show ((0 : Nat) : Int) = 0 from rfl] at this
  rw [this]
  exact ⟨rfl, rfl⟩
theorem full_refuses (b : List UInt8) (h : b.length = 128) : (Fl.full b).program (-1) [0] = (Fl.full b, 2) ∧ (Fl.full b).program 128 [0] = (Fl.full b, 2) ∧ (Fl.full b).erase (-1) = (Fl.full b, 2) ∧ (Fl.full b).erase 2 = (Fl.full b, 2) ∧ (Fl.full b).read 127 2 = ([], 2) := by
  have e1 : (Fl.full b).fits (-1) (([0] : List UInt8).length : Int) = false := by simp [Fl.fits]
  have e2 : (Fl.full b).fits 128 (([0] : List UInt8).length : Int) = false := by
    have : (Fl.full b).bytes.length = 128 := h
    simp [Fl.fits, this]
  have e3 : (Fl.full b).fits 127 2 = false := by
    have : (Fl.full b).bytes.length = 128 := h
    simp [Fl.fits, this]
  refine ⟨?_, ?_, ?_, ?_, ?_⟩
  · unfold Fl.program; rw [e1]; rfl
  · unfold Fl.program; rw [e2]; rfl
  · unfold Fl.erase; rfl
  · unfold Fl.erase; rfl
  · unfold Fl.read; rw [e3]; rfl

theorem walk (A : Option Addr) (n c : Nat) (l : List Int) (hn : n = l.length) (hw : ∀ x ∈ l, -9223372036854775808 ≤ x ∧ x ≤ 9223372036854775807) (hc : n ≤ c) (hm : c ≤ maxLen) (_hA : A = none → c = 0)
    (A2 : Option Addr) (n2 c2 : Nat) (l2 : List Do1) (tv : Int) (htv : 0 ≤ tv ∧ tv ≤ 255)
    (w : World) (hr : IRow w.heap.size w A l) (hr2 : Scr w.heap.size w A2 n2 c2 l2) :
    Calls Try.prog 8 #[.slice A n c, .slice A2 n2 c2, .int .u8 tv] w fun e w' => e = .returned (.bool true) ∧ Below w.heap.size w w' := by
  obtain ⟨t, rfl⟩ : ∃ t : UInt8, tv = (t.toNat : Int) := ⟨UInt8.ofNat tv.toNat, by rw [UInt8.toNat_ofNat']; omega⟩
  have hl := lightmade_any A n c
  have hnm : n ≤ maxLen := Nat.le_trans hc hm
  have hl2 := fun u => light_any w.heap.size A2 n2 c2 l2 u
  have HL2 := Lib.hid hl2; clear hl2
  by_cases h600 : n ≤ 600
  · have hd : decide (n ≤ 600) = true := by simpa using h600
    have hmd := fun q => made_any A n c l (w.drewN q) hn hr hw (by omega)
    have HM := Lib.hid hmd; clear hmd
    have HN := Lib.hid hn; clear hn
    cases h2 : lightB l2
    · go_enter Try.func8, Try.ntmps8
      go_wp2_with fail
      refine (hl w hnm).mono ?_
      rintro e w' ⟨rfl, rfl⟩
      rw [hd]
      go_wp2_with fail
      refine (HL2.out _ hr2).mono ?_
      rintro e w' ⟨rfl, q, rfl⟩
      rw [h2]
      go_wp2_with fail
      refine (awake_any _).mono ?_
      rintro e w1 ⟨rfl, hb⟩
      go_wp2_with fail
      go_ret
      exact ⟨rfl, (show Below w.heap.size w _ from below_of_drawn).trans hb⟩
    · obtain ⟨z60, hd2⟩ := light_yes h2
      have HD2 := Lib.hid hd2; clear hd2
      go_enter Try.func8, Try.ntmps8
      go_wp2_with fail
      refine (hl w hnm).mono ?_
      rintro e w' ⟨rfl, rfl⟩
      rw [hd]
      go_wp2_with fail
      refine (HL2.out _ hr2).mono ?_
      rintro e w' ⟨rfl, q, rfl⟩
      rw [h2]
      go_wp2_with fail
      refine (HM.out q).mono ?_
      rintro e w1 ⟨d, b, g, hlen, rfl, hd1, hob, hg0, n1, n2', n3⟩
      replace hd1 : At w.heap.size w w1 d (Fl.full b) 128 := ⟨hd1.dev, hd1.ok, (below_of_drawn (k := q)).trans hd1.low⟩
      have HB := Lib.hid hlen; clear hlen HM HL2 hl h2
      obtain ⟨f1, f2, f3, f4, f5⟩ := full_refuses b HB.out
      go_wp2_with fail
      have hgl := (own_lt hob HB.out).2
      have hst : Below w1.heap.size w1 (w1.alloc (.cells #[.int .u8 0] 5)) := (Below.refl _ _).alloc (Nat.le_refl _) _
      have hrow := row_new w1 #[.int .u8 0] 5 [0] rfl (B := w1.heap.size + 1) (Nat.lt_succ_self _)
      have hp := (hd1.step hst).program (by omega) (some ⟨w1.heap.size, 0, none⟩) 1 1 [0] ⟨rfl, hrow.more (by simp), Nat.le_refl _, by unfold maxLen; omega, fun hh => by cases hh⟩ (Off.new hd1.dev (Nat.le_refl _)) (-1) (by omega) (by omega) (by omega)
      rw [f1] at hp
      have HP := Lib.hid hp; clear hp
      refine HP.out.mono ?_
      rintro e w2 ⟨rfl, hd2, hk2⟩
      have hob2 := own_stays (own_stays hob HB.out (hst.block g hgl)) HB.out (hk2.block g (Nat.lt_of_lt_of_le hgl hst.size) n1 n2' n3)
      dsimp only at hd2
      clear hob hrow hst hd1 HP hk2
      go_wp2_with fail
      have hst : Below w2.heap.size w2 (w2.alloc (.cells #[.int .u8 0] 5)) := (Below.refl _ _).alloc (Nat.le_refl _) _
      have hrow := row_new w2 #[.int .u8 0] 5 [0] rfl (B := w2.heap.size + 1) (Nat.lt_succ_self _)
      have hp := (hd2.step hst).program (by omega) (some ⟨w2.heap.size, 0, none⟩) 1 1 [0] ⟨rfl, hrow.more (by simp), Nat.le_refl _, by unfold maxLen; omega, fun hh => by cases hh⟩ (Off.new hd2.dev (Nat.le_refl _)) 128 (by omega) (by omega) (by omega)
      rw [f2] at hp
      have HP := Lib.hid hp; clear hp
      refine HP.out.mono ?_
      rintro e w3 ⟨rfl, hd3, hk3⟩
      have hgl2 := (own_lt hob2 HB.out).2
      have hob3 := own_stays (own_stays hob2 HB.out (hst.block g hgl2)) HB.out (hk3.block g (Nat.lt_of_lt_of_le hgl2 hst.size) n1 n2' n3)
      dsimp only at hd3
      have ok0 : (Fl.full b).Ok 128 := ⟨by show 1 ≤ 2; omega, by show 2 ≤ 16; omega, by show 64 ≤ 64; omega, by show 64 ≤ 1024; omega, by show b.length = 2 * 64; have := HB.out; omega, Nat.le_refl _, (fun x hx => by have := (List.mem_replicate.1 (show x ∈ List.replicate 2 0 from hx)).2; subst this; exact ⟨Int.le_refl _, by show (0 : Int) ≤ 128; omega⟩), by show 0 ≤ 4611686018427387904; omega, fun hh => by cases hh⟩
      replace hd3 : At w.heap.size w w3 d (Fl.full b) 128 := ⟨hd3.dev, ok0, hd3.low⟩
      clear hob2 hrow hst hd2 HP hk3 hgl hgl2
      have he := hd3.erase (by omega) (-1) (by omega) (by omega)
      rw [f3] at he
      have HE := Lib.hid he; clear he
      go_wp2_with fail
      refine HE.out.mono ?_
      rintro e w4 ⟨rfl, hd4, hk4⟩
      dsimp only at hd4
      have hob4 := own_stays hob3 HB.out (hk4.block g (own_lt hob3 HB.out).2 n1 n2' n3)
      have he := hd4.erase (by omega) 2 (by omega) (by omega)
      rw [f4] at he
      clear HE
      have HE := Lib.hid he; clear he
      go_wp2_with fail
      refine HE.out.mono ?_
      rintro e w5 ⟨rfl, hd5, hk5⟩
      dsimp only at hd5
      have hob5 := own_stays hob4 HB.out (hk5.block g (own_lt hob4 HB.out).2 n1 n2' n3)
      clear hob3 hob4 hd3 hd4 hk4 hk5 HE
      have hrd := hd5.read 127 2 (by omega) (by omega) (by omega) (by omega)
      rw [f5] at hrd
      have HRD := Lib.hid hrd; clear hrd f1 f2 f3 f4 f5
      go_wp2_with fail
      refine HRD.out.mono ?_
      rintro e w6 ⟨X, xn, xc, rfl, hxo, hxs, hb6, hd6⟩
      have hxn : xn = 0 := hxs.len
      subst hxn
      have hob6 := own_stays hob5 HB.out (hb6.block g (own_lt hob5 HB.out).2)
      replace hd6 : At w.heap.size w w6 d (Fl.full b) 128 := ⟨hd6.dev, ok0, hd6.low⟩
      clear hob5 hd5 hb6 hxo hxs HRD
      have hst := steps_p hd6.dev
      rw [show (((Fl.full b).steps : Nat) : Int) = 128 from rfl] at hst
      have HST := Lib.hid hst; clear hst
      go_wp2_with fail
      refine HST.out.mono ?_
      rintro e w' ⟨rfl, rfl⟩
      clear HST
      go_wp2_with fail
      refine (hd6.arm 1 t (by omega) (by omega)).mono ?_
      rintro e w7 ⟨rfl, hd7, hk7⟩
      have hob7 := own_stays hob6 HB.out (hk7.block g (own_lt hob6 HB.out).2 n1 n2' n3)
      have he := hd7.erase (by omega) 1 (by omega) (by omega)
      rw [er_gone b t] at he
      have HE := Lib.hid he; clear he
      go_wp2_with fail
      refine HE.out.mono ?_
      rintro e w8 ⟨rfl, hd8, hk8⟩
      dsimp only at hd8
      have hob8 := own_stays hob7 HB.out (hk8.block g (own_lt hob7 HB.out).2 n1 n2' n3)
      have okg : (gone b t true).Ok (128 + 1) := hd8.ok
      clear hob6 hob7 hd6 hd7 hk7 hk8 HE
      have hn2 := hr2.len
      have HN2 := Lib.hid hn2; clear hn2
      have hz2 : n2 ≤ 60 := by have := HN2.out; omega
      go_wp2_with fail
      go_loopw [17] (fun i wr => ∃ k : Nat, k ≤ n2 ∧ i = .int .i64 k ∧ At w.heap.size w wr d (gone b t true) 129 ∧ Own w.heap.size wr (.slice (some ⟨g, 0, none⟩) 128 128) b) (fun i _ => n2 - (intOf i).toNat)
      case atStart => exact ⟨0, Nat.zero_le _, rfl, hd8, hob8⟩
      case round =>
        clear hd8 hob8
        obtain ⟨k, hk, rfl, hat, hob⟩ := hrel
        by_cases hlt : k < n2
        · have hkl : k < l2.length := by have := HN2.out; omega
          obtain ⟨a, rfl, ha, hin0⟩ := hr2.each k hkl
          have hin := hin0.below hat.low (by rw [add_block]; exact ha)
          have HIN := Lib.hid hin0; clear hin0
          have hdl := HD2.out _ (List.getElem_mem hkl)
          generalize l2[k] = x at *
          have b1 : (0 : Int) ≤ (k : Int) := by omega
          have b2 : (k : Int) < (n2 : Int) := by omega
          have hsl := hin.sl (B := w.heap.size) hat.base
          have hoff := Off.row hin.row hat.dev (Nat.le_refl _)
          have hnear := nearI_bd x.a 128 hin.a1 hin.a2 (by omega)
          have hlen := hin.len
          have hP := hat.drew.program (by omega) x.A x.n x.c x.data (hsl.step ⟨rfl, rfl, rfl, Nat.le_refl _, fun _ _ => rfl⟩) hoff (nearI x.a 128) hnear.1 hnear.2 (by omega)
          rw [show (gone b t true).program (nearI x.a 128) x.data = (gone b t true, 10) from rfl] at hP
          have HP := Lib.hid hP; clear hP hlen
          have hN := fun u => near128 x.a u hin.a1 hin.a2
          have HNR := Lib.hid hN; clear hN
          have hEr := fun (u : World) (m : Nat) (hm : m ≤ 900000) (hu : At w.heap.size w u d (gone b t true) m) => hu.erase hm 0 (by omega) (by omega)
          rw [show (gone b t true).erase 0 = (gone b t true, 10) from rfl] at hEr
          have HER := Lib.hid hEr; clear hEr
          have hglt := (own_lt hob HB.out).2
          have hobd : Own w.heap.size wr.drew (.slice (some ⟨g, 0, none⟩) 128 128) b := hob
          have c1 := hin.c1; have c4 := hin.c4
          have hxn : x.n ≤ 200 := by have := hin.len; omega
          go_wp2_with fail
          go_region_law (first
            | (go_simp; go_at_call 19; (with_reducible refine (HNR.out _).mono ?_); rintro e w' ⟨rfl, rfl⟩)
            | (go_simp; go_at_call 18; (with_reducible refine (HP.out).mono ?_); rintro e w9 ⟨rfl, hat9, hk9⟩; dsimp only at hat9; have hob9 := own_stays hobd HB.out (hk9.block g hglt n1 n2' n3))
            | (go_simp; go_at_call 21; (with_reducible refine (HER.out _ _ (by omega) hat9).mono ?_); rintro e w10 ⟨rfl, hat10, hk10⟩; dsimp only at hat10; have hob10 := own_stays hob9 HB.out (hk10.block g (own_lt hob9 HB.out).2 n1 n2' n3)))
          all_goals
            have hin2 := HIN.out.below hat10.low (by rw [add_block]; exact ha)
            have c2 := hin2.c2
            clear c1 c4 hin
            go_wp2_with fail
            refine (mod_any x.b 9 w10 hin2.b1 hin2.b2 (by omega) (by omega)).mono ?_
            rintro e w' ⟨⟨r, hr9, rfl, -⟩, rfl⟩
            have har := hat10.arm (1 + (r : Int)) t (by omega) (by omega)
            rw [show (gone b t true).arm (1 + (r : Int)) t = gone b t true from rfl] at har
            have HAR := Lib.hid har; clear har
            go_wp2_with fail
            refine HAR.out.mono ?_
            rintro e w11 ⟨rfl, hat11, hk11⟩
            have hob11 := own_stays hob10 HB.out (hk11.block g (own_lt hob10 HB.out).2 n1 n2' n3)
            have hdn := down_p hat11.dev
            have hst := steps_p hat11.dev
            rw [show (gone b t true).down = true from rfl] at hdn
            rw [show (((gone b t true).steps : Nat) : Int) = 129 from rfl] at hst
            have HDN := Lib.hid hdn; have HST := Lib.hid hst; clear hdn hst c2
            go_wp2_with fail
            refine HDN.out.mono ?_
            rintro e w' ⟨rfl, rfl⟩
            go_wp2_with fail
            refine HST.out.mono ?_
            rintro e w' ⟨rfl, rfl⟩
            go_wp2_with fail
            exact ⟨⟨k + 1, by omega, by go_num, ⟨hat11.dev, okg, hat11.low⟩, hob11⟩, by simp [intOf]; omega⟩
        · obtain rfl : k = n2 := by omega
          go_wp2_with fail
          refine hat.restore.mono ?_
          rintro e w9 ⟨rfl, hd9, hk9⟩
          change At w.heap.size w w9 d (gone b t false) _ at hd9
          have hob9 := own_stays hob HB.out (hk9.block g (own_lt hob HB.out).2 n1 n2' n3)
          have hrd := hd9.read 0 64 (by omega) (by omega) (by omega) (by omega)
          rw [gone_read b t HB.out] at hrd
          have HRD := Lib.hid hrd; clear hrd
          go_wp2_with fail
          refine HRD.out.mono ?_
          rintro e w10 ⟨X, xn, xc, rfl, hxo, hxs, hb10, hd10⟩
          have hob10 := own_stays hob9 HB.out (hb10.block g (own_lt hob9 HB.out).2)
          have hsl := sl_front (sl_own hob10 HB.out.symm) (k := 64) (by omega)
          dsimp only at hxs
          clear HRD hxo hd9 hob9 hob hat
          go_wp2_with fail
          refine (same_yes hxs hsl).mono ?_
          rintro e w11 ⟨rfl, hb11⟩
          have hd11 := hd10.step hb11
          have hsl11 := hsl.step hb11
          obtain ⟨q1, q2⟩ := gone_program b t HB.out
          have hp := hd11.program (by omega) (some ⟨g, 0, none⟩) 64 128 (b.take 64) hsl11 (Off.block n1 n2' n3) 0 (by omega) (by omega) (by omega)
          unfold Err at hp
          rw [q1] at hp
          have HP := Lib.hid hp; clear hp
          go_wp2_with fail
          refine HP.out.mono ?_
          rintro e w12 ⟨rfl, hd12, hk12⟩
          have hdn := down_p hd12.dev
          rw [q2] at hdn
          have HDN := Lib.hid hdn; clear hdn HP q1 q2
          go_wp2_with fail
          refine HDN.out.mono ?_
          rintro e w' ⟨rfl, rfl⟩
          go_wp2_with fail
          refine (awake_any _).mono ?_
          rintro e w13 ⟨rfl, hb13⟩
          go_wp2_with fail
          go_ret
          exact ⟨rfl, (hd12.step hb13).low⟩
  · have hd : decide (n ≤ 600) = false := by simpa using h600
    have HN := Lib.hid hn; clear hn
    go_enter Try.func8, Try.ntmps8
    go_wp2_with fail
    refine (hl w hnm).mono ?_
    rintro e w' ⟨rfl, rfl⟩
    rw [hd]
    go_wp2_with fail
    refine (awake_any w).mono ?_
    rintro e w1 ⟨rfl, hb⟩
    go_wp2_with fail
    go_ret
    exact ⟨rfl, hb⟩

theorem cells_u8 : Try.prog.cellsOf 5 = 1 := by kernel_rfl
theorem cells_int : Try.prog.cellsOf 3 = 1 := by kernel_rfl
theorem own : ownKnob Try.prog.godebug = none := by kernel_rfl
theorem laidOut : laidOutB Try.prog = true := by kernel_rfl
theorem contract (H : Type) (enc : TypeId × Value → H) (W : World) (base : Nat) (args : Array Value) (ds gs : List (DataW H)) (before : List MemPlace)
    (hval : ∀ (j : Nat) t v, Try.f8.params[j]? = some t → args[j]? = some v → Value.okWide Try.prog W .any base t v)
    (hW : DataW.Whole enc Try.prog Try.f8.params.toList Rows.flashDownSpec.vars false W args.toList ds gs before) :
    Calls Try.prog 8 args W fun e W' => ∃ v, e = .returned v ∧ Rows.flashDownSpec.post enc Try.prog Try.f8 false true false false W args v W' := by
  have hW' := hW
  obtain ⟨p, q, hA0, hV, rfl, hfz, hnd⟩ := hW
  have hA : DataW.TrodAll enc Try.prog W 0 (fun _ => true) true Try.f8.params.toList args.toList ds p := hA0
  rw [Try.params8] at hA hval
  obtain ⟨v0, vs0, d0, ds0, p0, q0, hargs, rfl, rfl, h0, r0⟩ := trodAll_cons hA
  obtain ⟨v1, vs1, d1, ds1, p1, q1, rfl, rfl, rfl, h1, r1⟩ := trodAll_cons r0
  obtain ⟨v2, vs2, d2, ds2, p2, q2, rfl, rfl, rfl, h2, r2⟩ := trodAll_cons r1
  obtain ⟨rfl, rfl, rfl⟩ := trodAll_nil r2
  obtain rfl : args = #[v0, v1, v2] := by cases args; simp_all
  obtain ⟨A0, n0, c0, l0, rfl, hn0, hr0, hw0, hc0, hm0, hk0⟩ := open_int_list Try.underlying46 Try.underlying3 cells_int (hval 0 46 v0 rfl rfl) h0
  obtain ⟨A1, n1, c1, l1, rfl, hr1⟩ := open_script Try.underlying22 Try.underlying37 (by kernel_rfl) ⟨rfl, rfl, rfl, rfl, rfl⟩ ⟨(by kernel_rfl), (by kernel_rfl), (by kernel_rfl), (by kernel_rfl), (by kernel_rfl)⟩ Try.underlying3 Try.underlying3 Try.underlying3 Try.underlying5 Try.underlying35 Try.underlying5 cells_u8 (hval 1 22 v1 rfl rfl) h1
  obtain ⟨a2, rfl, -, -, w2⟩ := open_int Try.underlying5 (hval 2 5 v2 rfl rfl) h2
  clear hA0
  refine (walk A0 n0 c0 l0 hn0 hw0 hc0 hm0 hk0 A1 n1 c1 l1 a2 (bounds_u8 w2) W hr0 hr1).mono fun e W' ⟨he, hb⟩ => ?_
  subst he
  exact ⟨_, rfl, law_post laidOut (types_fit (by kernel_rfl)) (by kernel_rfl) Try.underlying4 rfl (fun xs hx => by
    match xs, hx with
    | [_, _, _], _ => rfl) hW' hb⟩

theorem lifted (os : Os) (started : os.Started) (H : Type) (enc : TypeId × Value → H) :
    ReturnsInHanded {} Try.checked os 8 .any (Rows.flashDownSpec.pre6 enc Try.prog Try.f8 Rows.flashDownRow.domain false) (Rows.flashDownSpec.post enc Try.prog Try.f8 false true false false) := by
  refine returnsInHanded_of_change (C := Try.checked) own started (by kernel_rfl) Try.func8
    (ChangeSpec.witness6 (enc := enc) (C := Try.checked) false ⟨#[], #[.slice none 0 0, .slice none 0 0, .int .u8 0], []⟩ 8 (by kernel_rfl) (by kernel_rfl) (by kernel_rfl) (by kernel_rfl)) ?_
  intro W base args ds gs before hval hW _ _
  exact contract H enc W base args ds gs before hval hW

theorem proved : Rows.FlashDownSaid :=
  OpenClaim.holds_of_wide 8 Try.f8 rfl rfl rfl rfl rfl rfl rfl ⟨rfl, rfl, rfl, rfl, rfl⟩ rfl rfl rfl rfl rfl (by kernel_rfl) Try.func8 (by kernel_rfl)
    (of_decide_eq_true (by kernel_rfl)) (by unfold Func.isWrapper; first | (rw [if_pos (by decide +kernel)]; kernel_rfl) | (rw [if_neg (by decide +kernel)]; exact ⟨rfl, rfl⟩))
    (fun os started H enc _ => lifted os started H enc)
end Go.Proofs.Ytkmkpidoajfhmaa.flashDown
