/- FlashClears holds for every input: a byte only loses bits between two erasures of its sector. No condition. -/
import Derived.Test.YtkmkpidoajfhmaaE5f
import Derived.Test.YtkmkpidoajfhmaaE5r
import Derived.Test.YtkmkpidoajfhmaaLaw5
import Derived.Laws.BitsAllLaws
namespace Go.Proofs.Ytkmkpidoajfhmaa.flashClears
open Go.RowKit Go.ChangeShapes Go.WideShapes Go.ChangeAt Go.Proofs.Ytkmkpidoajfhmaa.Mem Go.Proofs.Ytkmkpidoajfhmaa.E5p Go.Proofs.Ytkmkpidoajfhmaa.E5m Go.Proofs.Ytkmkpidoajfhmaa.E5a Go.Proofs.Ytkmkpidoajfhmaa.E5d Go.Proofs.Ytkmkpidoajfhmaa.Made Go.Proofs.Ytkmkpidoajfhmaa.Law
set_option maxRecDepth 100000
set_option maxHeartbeats 2000000

theorem andnot0 (y x : UInt8) (h : y.toNat &&& (255 - x.toNat) = 0) : bits .andNot .u8 (y.toNat : Int) (x.toNat : Int) = 0 := by
  rw [u8_andNot_nat _ _ y.toNat_lt x.toNat_lt, h]; rfl
theorem tmod40 (a : Int) : -40 < a.tmod 40 ∧ a.tmod 40 < 40 := tmod_bd a 40 (by omega)

theorem walk (A : Option Addr) (n c : Nat) (l : List Do1)
    (w : World) (hr : Scr w.heap.size w A n c l) :
    Calls Try.prog 6 #[.slice A n c] w fun e w' => e = .returned (.bool true) ∧ Below w.heap.size w w' := by
  have hl := light_any w.heap.size A n c l w hr
  have HL := Lib.hid hl; clear hl
  cases h1 : lightB l
  · go_enter Try.func6, Try.ntmps6
    go_wp2_with fail
    refine HL.out.mono ?_
    rintro e w' ⟨rfl, q1, rfl⟩
    rw [h1]
    go_wp2_with fail
    refine (awake_any _).mono ?_
    rintro e w1 ⟨rfl, hb⟩
    go_wp2_with fail
    go_ret
    exact ⟨rfl, (show Below w.heap.size w _ from below_of_drawn).trans hb⟩
  · obtain ⟨a1, b1⟩ := light_yes h1
    have z1 : n ≤ 60 := by have := hr.len; omega
    have B1 := Lib.hid b1; clear b1
    have hn := hr.len
    have HN := Lib.hid hn; clear hn
    go_enter Try.func6, Try.ntmps6
    go_wp2_with fail
    refine HL.out.mono ?_
    rintro e w' ⟨rfl, q1, rfl⟩
    rw [h1]
    clear HL h1
    go_wp2_with fail
    refine (At.new 2 64 (by omega) (by omega) (by omega) (by omega) w.heap.size w (w.drewN q1) below_of_drawn (Nat.le_refl _)).mono ?_
    rintro e w1 ⟨d, rfl, hd1, -, -⟩
    go_wp2_with fail
    go_loopw [5, 6, 7, 8, 9, 10, 11] (fun i _ _ _ _ _ _ wr => ∃ (k : Nat) (s : Fl), k ≤ n ∧ i = .int .i64 k ∧ At w.heap.size w wr d s (201 * k) ∧ s.two) (fun i _ _ _ _ _ _ _ => n - (intOf i).toNat)
    case atStart => exact ⟨0, _, Nat.zero_le _, rfl, hd1, ⟨rfl, rfl⟩⟩
    case round =>
      clear hd1
      obtain ⟨k, s, hk, rfl, hat, h2⟩ := hrel
      by_cases hlt : k < n
      · have hkl : k < l.length := by have := HN.out; omega
        obtain ⟨a, rfl, ha, hin⟩ := hr.each k hkl
        have HIN := Lib.hid hin; clear hin
        have hdl := B1.out _ (List.getElem_mem hkl)
        generalize l[k] = x at *
        have b1 : (0 : Int) ≤ (k : Int) := by omega
        have b2 : (k : Int) < (n : Int) := by omega
        have hpa : (a.add (k * 5)).block < w.heap.size := by rw [add_block]; exact ha
        go_wp2_with fail
        refine hat.restore.mono ?_
        rintro e w2 ⟨rfl, hat2, hk2⟩
        have hra := hat2.read 0 128 (by omega) (by omega) (by omega) (by omega)
        rw [Fl.two_read (Fl.two_restore h2) hat2.ok rfl] at hra
        have HRA := Lib.hid hra; clear hra
        have hl128 := Fl.two_len h2 hat.ok
        have HL8 := Lib.hid hl128; clear hl128 hat hk2
        go_wp2_with fail
        refine HRA.out.mono ?_
        rintro e w3 ⟨X, xn, xc, rfl, hxo, hxs, hb3, hat3⟩
        change Own w2.heap.size w3 (.slice X xn xc) s.bytes at hxo
        have hxn : xn = 128 := hxs.len.trans HL8.out
        subst hxn
        obtain ⟨gx, rfl, hx1, hx2⟩ := own_some hxo (by have := HL8.out; omega)
        have hlg := hat2.dev.lg; have hlb := hat2.dev.lb; have hlw := hat2.dev.lw
        have n1 : gx ≠ d.g := by omega
        have n2 : gx ≠ d.gb := by omega
        have n3 : gx ≠ d.gw := by omega
        clear HRA hxs hat2 hb3 hlg hlb hlw
        have hin := HIN.out.below hat3.low hpa
        have c0 := hin.c0
        have hmod := mod_any x.kind 5 w3 hin.k1 hin.k2 (by omega) (by omega)
        have HM := Lib.hid hmod; clear hmod
        go_wp2_with fail
        refine HM.out.mono ?_
        rintro e w' ⟨⟨K, hK, rfl, -⟩, rfl⟩
        clear HM c0
        by_cases hK1 : K = 1
        · subst hK1
          have c1 := hin.c1
          have hmod := mod_any x.a 2 w3 hin.a1 hin.a2 (by omega) (by omega)
          have HM := Lib.hid hmod; clear hmod
          go_wp2_with fail
          refine HM.out.mono ?_
          rintro e w' ⟨⟨σ, hσ, rfl, -⟩, rfl⟩
          clear HM c1
          have he := hat3.erase (by omega) (σ : Int) (by omega) (by omega)
          have h2' : (s.restore.erase (σ : Int)).1.two := Fl.two_erase (Fl.two_restore h2) _
          obtain ⟨g1, g2⟩ := Fl.two_erased h2 σ hσ
          have HE := Lib.hid he; clear he
          go_wp2_with fail
          refine HE.out.mono ?_
          rintro e w4 ⟨rfl, hat4, hk4⟩
          have hxo4 := own_stays hxo HL8.out (hk4.block gx hx2 n1 n2 n3)
          have hxrow := sl_own hxo4 HL8.out.symm
          generalize hS : (s.restore.erase (σ : Int)).1 = s2 at *
          have HSS := Lib.hid hS; clear hS
          have hrb := hat4.read 0 128 (by omega) (by omega) (by omega) (by omega)
          rw [Fl.two_read h2' hat4.ok g2, g1] at hrb
          have HRB := Lib.hid hrb; clear hrb
          have hok4 := hat4.ok
          go_wp2_with fail
          refine HRB.out.mono ?_
          rintro e w5 ⟨Y, yn, yc, rfl, hyo, hys, hb5, hat5⟩
          have hxs5 := hxrow.step hb5
          dsimp only at hys
          have hyn : yn = 128 := by rw [hys.len]; simp [HL8.out]
          subst hyn
          clear HRB hyo hat4 hb5 hxrow
          go_wp2_with fail
          go_loopw [11] (fun i wr => ∃ j : Nat, j ≤ 128 ∧ i = .int .i64 j ∧ ∃ q, wr = w5.drewN q) (fun i _ => 128 - (intOf i).toNat)
          case atStart => exact ⟨0, by omega, rfl, 0, rfl⟩
          case round =>
            obtain ⟨j, hj, rfl, q, rfl⟩ := hrel
            by_cases hjl : j < 128
            · have hjb : j < s.bytes.length := by have := HL8.out; omega
              obtain ⟨xa, hxa, hxb, hxc⟩ := row_at hxs5.row hjb
              injection hxa with hxa
              subst hxa
              rw [add_spot] at hxc
              have hjy : j < (orAt s.bytes (σ * 64) 64 255).length := by simp; exact hjb
              obtain ⟨ya, rfl, hyb, hyc⟩ := row_at hys.row hjy
              have b3 : (0 : Int) ≤ (j : Int) := by omega
              have b4 : (j : Int) < 128 := by omega
              rw [orAt_get] at hyc
              by_cases hjs : j / 64 = σ
              · rw [if_pos (by omega), or_255] at hyc
                replace hyc : w5.cell? (ya.add j) = some (.int .u8 255) := hyc
                have g3 : ((j : Int) / 64 != (σ : Int)) = false := by simp; omega
                have g4 : ((j : Int) / 64 == (σ : Int)) = true := by simp; omega
                clear hjs
                go_wp2_with fail
                go_quiet (fail)
                go_wp2_with fail
                go_roundw
                case rel => exact ⟨j + 1, by omega, by go_num, _, rfl⟩
                case measure => simp [intOf]; omega
              · rw [if_neg (by omega)] at hyc
                have g3 : ((j : Int) / 64 != (σ : Int)) = true := by simp; omega
                have g4 : ((j : Int) / 64 == (σ : Int)) = false := by simp; omega
                have hz := andnot0 s.bytes[j] s.bytes[j] (by have := clear_and s.bytes[j] 0 False; simpa using this)
                clear hjs
                go_wp2_with fail
                go_quiet (fail)
                go_wp2_with fail
                go_roundw
                case rel => exact ⟨j + 1, by omega, by go_num, _, rfl⟩
                case measure => simp [intOf]; omega
            · obtain rfl : j = 128 := by omega
              go_wp2_with fail
              exact ⟨⟨k + 1, _, by omega, by go_num, ⟨(hat5.drewN q).dev, hok4.more (by omega), (hat5.drewN q).low⟩, h2'⟩, by simp [intOf]; omega⟩
        · have gk : ((K : Int) == 1) = false := by simp; omega
          have c2 := hin.c2; have c3 := hin.c3
          have ht := tmod40 x.b
          have hwr : IntKind.i64.wrap (x.b.tmod 40) = x.b.tmod 40 := IntWalk.i64_in _ (by omega)
          have hA := hat3.drew.arm (x.b.tmod 40) x.torn (by omega) (by omega)
          have HAR := Lib.hid hA; clear hA
          have hxd : Own w2.heap.size w3.drew (.slice (some ⟨gx, 0, none⟩) 128 xc) s.bytes := hxo
          go_wp2_with fail
          go_region_law (go_simp; go_at_call 26; (with_reducible refine (HAR.out).mono ?_); rintro e w4 ⟨rfl, hat4, hk4⟩; have hxo4 := own_stays hxd HL8.out (hk4.block gx hx2 n1 n2 n3))
          all_goals
            clear HAR c2 c3 hwr ht hxd hxo hat3
            have hin4 := HIN.out.below hat4.low hpa
            have c1 := hin4.c1; have c4 := hin4.c4
            have hsl := hin4.sl (B := w.heap.size) hat4.base
            have hoff := Off.row hin4.row hat4.dev (Nat.le_refl _)
            have hnear := nearI_bd x.a 128 hin4.a1 hin4.a2 (by omega)
            have hlen := hin4.len
            have hP := hat4.drew.program (by omega) x.A x.n x.c x.data (hsl.step ⟨rfl, rfl, rfl, Nat.le_refl _, fun _ _ => rfl⟩) hoff (nearI x.a 128) hnear.1 hnear.2 (by omega)
            have HP := Lib.hid hP
            have hxn : x.n ≤ 200 := by omega
            clear hP hlen
            have hN := fun u => near128 x.a u hin4.a1 hin4.a2
            have HNR := Lib.hid hN; clear hN
            have hx4 := (own_lt hxo4 HL8.out).2
            have hxd : Own w2.heap.size w4.drew (.slice (some ⟨gx, 0, none⟩) 128 xc) s.bytes := hxo4
            go_wp2_with fail
            go_region_law (first
              | (go_simp; go_at_call 19; (with_reducible refine (HNR.out _).mono ?_); rintro e w' ⟨rfl, rfl⟩)
              | (go_simp; go_at_call 18; (with_reducible refine (HP.out).mono ?_); rintro e w5 ⟨rfl, hat5, hk5⟩; have hxo5 := own_stays hxd HL8.out (hk5.block gx hx4 n1 n2 n3)))
            all_goals
              clear HP HNR c1 c4 hnear hoff hsl hxd hxo4 hat4 hin hin4
              have h2p : ((s.restore.arm (x.b.tmod 40) x.torn).program (nearI x.a 128) x.data).1.two := Fl.two_program (Fl.two_arm (Fl.two_restore h2) _ _) _ _
              obtain ⟨p, E, hpe⟩ := Fl.program_bytes (s.restore.arm (x.b.tmod 40) x.torn) (nearI x.a 128) x.data
              have hab : (s.restore.arm (x.b.tmod 40) x.torn).bytes = s.bytes := rfl
              rw [hab] at hpe
              go_wp2_with fail
              refine hat5.restore.mono ?_
              rintro e w6 ⟨rfl, hat4, hk6⟩
              have hxo6 := own_stays hxo5 HL8.out (hk6.block gx (own_lt hxo5 HL8.out).2 n1 n2 n3)
              have hxrow := sl_own hxo6 HL8.out.symm
              generalize ((s.restore.arm (x.b.tmod 40) x.torn).program (nearI x.a 128) x.data).1 = s2 at *
              have h2' : s2.restore.two := h2p
              have g1 : s2.restore.bytes = andAt s.bytes p E := hpe
              have g2 : s2.restore.down = false := rfl
              clear hpe hab h2p hat5 hxo5 hxo6 hk5 hk6 hk4
              have hrb := hat4.read 0 128 (by omega) (by omega) (by omega) (by omega)
              rw [Fl.two_read h2' hat4.ok g2, g1] at hrb
              have HRB := Lib.hid hrb; clear hrb
              have hok4 := hat4.ok
              go_wp2_with fail
              refine HRB.out.mono ?_
              rintro e w5 ⟨Y, yn, yc, rfl, hyo, hys, hb5, hat5⟩
              have hxs5 := hxrow.step hb5
              dsimp only at hys
              have hyn : yn = 128 := by rw [hys.len]; simp [HL8.out]
              subst hyn
              clear HRB hyo hat4 hb5 hxrow
              go_wp2_with fail
              go_loopw [11] (fun i wr => ∃ j : Nat, j ≤ 128 ∧ i = .int .i64 j ∧ ∃ q, wr = w5.drewN q) (fun i _ => 128 - (intOf i).toNat)
              case atStart => exact ⟨0, by omega, rfl, 0, rfl⟩
              case round =>
                obtain ⟨j, hj, rfl, q, rfl⟩ := hrel
                by_cases hjl : j < 128
                · have hjb : j < s.bytes.length := by have := HL8.out; omega
                  obtain ⟨xa, hxa, hxb, hxc⟩ := row_at hxs5.row hjb
                  injection hxa with hxa
                  subst hxa
                  rw [add_spot] at hxc
                  have hjy : j < (andAt s.bytes p E).length := by simp; exact hjb
                  obtain ⟨ya, rfl, hyb, hyc⟩ := row_at hys.row hjy
                  have b3 : (0 : Int) ≤ (j : Int) := by omega
                  have b4 : (j : Int) < 128 := by omega
                  rw [andAt_get] at hyc
                  have hz0 := clear_and s.bytes[j] (E.getD (j - p) 255) (p ≤ j)
                  obtain ⟨Z, hZ⟩ : ∃ Z, Z = if p ≤ j then s.bytes[j] &&& E.getD (j - p) 255 else s.bytes[j] := ⟨_, rfl⟩
                  rw [← hZ] at hz0 hyc
                  clear hZ
                  have hz := andnot0 _ _ hz0
                  clear hz0
                  have g3 : ((j : Int) / 64 != -1) = true := by simp; omega
                  have g4 : ((j : Int) / 64 == -1) = false := by simp; omega
                  go_wp2_with fail
                  go_quiet (fail)
                  go_wp2_with fail
                  go_roundw
                  case rel => exact ⟨j + 1, by omega, by go_num, _, rfl⟩
                  case measure => simp [intOf]; omega
                · obtain rfl : j = 128 := by omega
                  go_wp2_with fail
                  exact ⟨⟨k + 1, _, by omega, by go_num, ⟨(hat5.drewN q).dev, hok4.more (by omega), (hat5.drewN q).low⟩, h2'⟩, by simp [intOf]; omega⟩
      · obtain rfl : k = n := by omega
        go_wp2_with fail
        refine (awake_any _).mono ?_
        rintro e w3 ⟨rfl, hb3⟩
        go_wp2_with fail
        go_ret
        exact ⟨rfl, (hat.step hb3).low⟩

theorem cells_u8 : Try.prog.cellsOf 5 = 1 := by kernel_rfl
theorem own : ownKnob Try.prog.godebug = none := by kernel_rfl
theorem laidOut : laidOutB Try.prog = true := by kernel_rfl
theorem contract (H : Type) (enc : TypeId × Value → H) (W : World) (base : Nat) (args : Array Value) (ds gs : List (DataW H)) (before : List MemPlace)
    (hval : ∀ (j : Nat) t v, Try.f6.params[j]? = some t → args[j]? = some v → Value.okWide Try.prog W .any base t v)
    (hW : DataW.Whole enc Try.prog Try.f6.params.toList Rows.flashClearsSpec.vars false W args.toList ds gs before) :
    Calls Try.prog 6 args W fun e W' => ∃ v, e = .returned v ∧ Rows.flashClearsSpec.post enc Try.prog Try.f6 false true false false W args v W' := by
  have hW' := hW
  obtain ⟨p, q, hA0, hV, rfl, hfz, hnd⟩ := hW
  have hA : DataW.TrodAll enc Try.prog W 0 (fun _ => true) true Try.f6.params.toList args.toList ds p := hA0
  rw [Try.params6] at hA hval
  obtain ⟨v0, vs0, d0, ds0, p0, q0, hargs, rfl, rfl, h0, r0⟩ := trodAll_cons hA
  obtain ⟨rfl, rfl, rfl⟩ := trodAll_nil r0
  obtain rfl : args = #[v0] := by cases args; simp_all
  obtain ⟨A0, n0, c0, l0, rfl, hr0⟩ := open_script Try.underlying22 Try.underlying37 (by kernel_rfl) ⟨rfl, rfl, rfl, rfl, rfl⟩ ⟨(by kernel_rfl), (by kernel_rfl), (by kernel_rfl), (by kernel_rfl), (by kernel_rfl)⟩ Try.underlying3 Try.underlying3 Try.underlying3 Try.underlying5 Try.underlying35 Try.underlying5 cells_u8 (hval 0 22 v0 rfl rfl) h0
  clear hA0
  refine (walk A0 n0 c0 l0 W hr0).mono fun e W' ⟨he, hb⟩ => ?_
  subst he
  exact ⟨_, rfl, law_post laidOut (types_fit (by kernel_rfl)) (by kernel_rfl) Try.underlying4 rfl (fun xs hx => by
    match xs, hx with
    | [_], _ => rfl) hW' hb⟩

theorem lifted (os : Os) (started : os.Started) (H : Type) (enc : TypeId × Value → H) :
    ReturnsInHanded {} Try.checked os 6 .any (Rows.flashClearsSpec.pre6 enc Try.prog Try.f6 Rows.flashClearsRow.domain false) (Rows.flashClearsSpec.post enc Try.prog Try.f6 false true false false) := by
  refine returnsInHanded_of_change (C := Try.checked) own started (by kernel_rfl) Try.func6
    (ChangeSpec.witness6 (enc := enc) (C := Try.checked) false ⟨#[], #[.slice none 0 0], []⟩ 8 (by kernel_rfl) (by kernel_rfl) (by kernel_rfl) (by kernel_rfl)) ?_
  intro W base args ds gs before hval hW _ _
  exact contract H enc W base args ds gs before hval hW

theorem proved : Rows.FlashClearsSaid :=
  OpenClaim.holds_of_wide 6 Try.f6 rfl rfl rfl rfl rfl rfl rfl ⟨rfl, rfl, rfl, rfl, rfl⟩ rfl rfl rfl rfl rfl (by kernel_rfl) Try.func6 (by kernel_rfl)
    (of_decide_eq_true (by kernel_rfl)) (by unfold Func.isWrapper; first | (rw [if_pos (by decide +kernel)]; kernel_rfl) | (rw [if_neg (by decide +kernel)]; exact ⟨rfl, rfl⟩))
    (fun os started H enc _ => lifted os started H enc)
end Go.Proofs.Ytkmkpidoajfhmaa.flashClears
