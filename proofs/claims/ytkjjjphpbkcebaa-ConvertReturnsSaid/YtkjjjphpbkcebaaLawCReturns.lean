/- ConvertReturns holds for every input: a conversion is decoded from its bytes, whatever follows, and not from fewer bytes. No condition. -/
import Derived.Test.YtkjjjphpbkcebaaAw4
import Derived.Test.YtkjjjphpbkcebaaLaw4
import Derived.Test.YtkjjjphpbkcebaaP5g
import Derived.Test.YtkjjjphpbkcebaaApp
import Derived.Test.YtkjjjphpbkcebaaC5f
namespace Go.Proofs.Ytkjjjphpbkcebaa.convertReturns
open Go.RowKit Go.ChangeShapes Go.WideShapes Go.ChangeAt Go.Proofs.Ytkjjjphpbkcebaa.Mem Go.Proofs.Ytkjjjphpbkcebaa.M3p Go.Proofs.Ytkjjjphpbkcebaa.C4p Go.Proofs.Ytkjjjphpbkcebaa.C4l Go.Proofs.Ytkjjjphpbkcebaa.C4v Go.Proofs.Ytkjjjphpbkcebaa.P4 Go.Proofs.Ytkjjjphpbkcebaa.P5 Go.Proofs.Ytkjjjphpbkcebaa.D5 Go.Proofs.Ytkjjjphpbkcebaa.Aw4 Go.Proofs.Ytkjjjphpbkcebaa.Made Go.Proofs.Ytkjjjphpbkcebaa.Law
set_option maxRecDepth 100000
set_option maxHeartbeats 2000000

theorem walk (A : Option Addr) (n c : Nat) (l : List Int) (hn : n = l.length) (hw : ∀ x ∈ l, -9223372036854775808 ≤ x ∧ x ≤ 9223372036854775807) (hc : n ≤ c) (hm : c ≤ maxLen) (_hA : A = none → c = 0)
    (A2 : Option Addr) (n2 c2 : Nat) (l2 : List UInt8) (hn2 : n2 = l2.length) (hc2 : n2 ≤ c2) (hm2 : c2 ≤ maxLen) (hA2 : A2 = none → c2 = 0)
    (y : Int) (hy : -9223372036854775808 ≤ y ∧ y ≤ 9223372036854775807)
    (w : World) (hr : IRow w.heap.size w A l) (hr2 : Row w.heap.size w A2 l2) :
    Calls Try.prog 7 #[.slice A n c, .slice A2 n2 c2, .int .i64 y] w fun e w' => e = .returned (.bool true) ∧ Below w.heap.size w w' := by
  have hnm : n ≤ maxLen := by omega
  have hs2 : Sl w A2 n2 c2 l2 := ⟨hn2, hr2, hc2, hm2, hA2⟩
  have hnm2 : n2 ≤ maxLen := by omega
  unfold maxLen at hnm2
  have HN := Lib.hid hn
  have HW := Lib.hid hw
  have HS2 := Lib.hid hs2
  clear hn hw hc hm _hA hn2 hc2 hm2 hA2 hr2 hs2
  have haw := Lib.hid (fun u => awake_any u)
  by_cases h6 : n ≤ 600
  case neg =>
    have d6 : decide (n ≤ 600) = false := decide_eq_false h6
    go_enter Try.func7, Try.ntmps7
    go_wp2_with fail
    refine (lightmade_any A n c _ hnm).mono ?_
    rintro e w' ⟨rfl, rfl⟩
    rw [d6]
    go_wp2_with fail
    refine (haw.out _).mono ?_
    rintro e w3 ⟨rfl, hb3⟩
    go_wp2_with fail
    go_ret
    exact ⟨rfl, hb3⟩
  have d6 : decide (n ≤ 600) = true := decide_eq_true h6
  by_cases h100 : 100 < n2
  · have d1 : decide (100 < (n2 : Int)) = true := by simp; omega
    go_enter Try.func7, Try.ntmps7
    go_wp2_with fail
    refine (lightmade_any A n c _ hnm).mono ?_
    rintro e w' ⟨rfl, rfl⟩
    rw [d6]
    go_wp2_with fail
    refine (haw.out _).mono ?_
    rintro e w3 ⟨rfl, hb3⟩
    go_wp2_with fail
    go_ret
    exact ⟨rfl, hb3⟩
  have d1 : decide (100 < (n2 : Int)) = false := by simp; omega
  go_enter Try.func7, Try.ntmps7
  go_wp2_with fail
  refine (lightmade_any A n c _ hnm).mono ?_
  rintro e w' ⟨rfl, rfl⟩
  rw [d6]
  go_wp2_with fail
  refine (roll_any A n c w).mono ?_
  rintro e w1 ⟨rfl, rfl⟩
  obtain ⟨hdz, hb1⟩ := irow_light (c := c) HN.out hr HW.out h6
  go_wp2_with fail
  refine (conv_go hdz hb1 (Nat.le_refl _)).mono ?_
  rintro e wc ⟨f, m, b, k1, k2, s, A', n', c', p, rfl, hv, hsl, hd, hbc, -⟩
  clear d6 h6 hdz hb1 hr hnm HN HW hd d1
  have hcb0 := Cb.new wc (.int .i64 f) (.bool s) (.int .i64 m) (.int .i64 b) (.int .i64 k1) (.int .i64 k2) (.slice A' n' c')
  have hde := dec_enc hv l2
  have hdc := fun k (hk : k < (enc ⟨f, s, m, b, k1, k2, p⟩).length) => dec_cut hv hk
  have hel : 7 ≤ (enc ⟨f, s, m, b, k1, k2, p⟩).length ∧ (enc ⟨f, s, m, b, k1, k2, p⟩).length ≤ 100 := by
    rw [enc_len]
    split
    · rename_i h5
      obtain ⟨-, ⟨hp1, hp2⟩, -⟩ := vld_tab hv h5
      dsimp only at hp1 hp2 ⊢
      omega
    · omega
  go_wp2_with fail
  have hs0 := hcb0.sl hsl
  have hE := encp_p f m b k1 k2 s A' n' c' p _ hs0 hv
  generalize hW0 : wc.alloc (.cells #[.int .i64 f, .bool s, .int .i64 m, .int .i64 b, .int .i64 k1, .int .i64 k2, .slice A' n' c'] 24) = W0 at *
  generalize enc ⟨f, s, m, b, k1, k2, p⟩ = E at *
  have HDE := Lib.hid hde; have HDC := Lib.hid hdc
  clear hW0 hv hde hdc
  refine hE.mono ?_
  rintro e w2 ⟨u, rfl, hou, hb2⟩
  obtain ⟨U, un, uc, rfl, hus⟩ := Sl.of_own hou
  have hun := hus.len
  have hcb2 := hcb0.step hb2
  have hs2 := hs0.step hb2
  have hun2 : 7 ≤ un ∧ un ≤ 100 := by omega
  have HUN := Lib.hid hun
  have hz : ((un : Int) == 0) = false := by simp; omega
  clear hun hE hou hcb0 hs0 hel hb2
  have hsr := (HS2.out).step (hcb2.all hbc)
  obtain ⟨i0, hi, hz0, hz1, hz2⟩ := info_parts info5
  have own0 : w2.ownsRow w2.heap.size 5 1 (.slice none 0 0) 0 [] := ⟨by simp, .inl ⟨rfl, rfl⟩⟩
  go_wp2_with (first
    | (at_builtin; refine wpList_append_rd _ rfl (.const (.slice none 0 0)) (.tmp 41) 44 rfl w2.heap.size 5 i0 _ 1 Try.underlying44 hi hz0 hz1 hz2 rfl _ 0 [] rfl own0 w2.heap.size U un uc (bvs E) rfl (by rw [len_bvs]; exact HUN.out.symm) hus.row hus.nil (bvs_one _) (by unfold maxLen; omega) (by omega) (Nat.le_refl _) ?_; intro v1 w3 ho1 hg1; have hb3 := (Below.refl w2.heap.size w2).grown hg1 (Nat.le_refl _) (fun k hk => (by cases hk)))
    | (at_builtin; refine wpList_append_rd _ rfl (.tmp 42) (.tmp 43) 44 rfl w2.heap.size 5 i0 _ 1 Try.underlying44 hi hz0 hz1 hz2 rfl v1 (0 + un) ([] ++ bvs E) rfl ho1 w3.heap.size A2 n2 c2 (bvs l2) rfl (by rw [len_bvs]; exact hsr.len.symm) (hsr.step hb3).row hsr.nil (bvs_one _) (by unfold maxLen; omega) (by omega) hb3.size ?_; intro v2 w4 ho2 hg2; have hb4 := below_grown hb3 ho1 hg2 hb3.size; have hoz : Mem.Own w2.heap.size w4 v2 (E ++ l2) := (own_of ho2 (by have := HUN.out; have := hsr.len; simp; omega) (by rw [List.nil_append, ← bvs_app])); obtain ⟨V, vn, vc, rfl, hvs⟩ := Sl.of_own hoz))
  have hw2s : w2.heap.size ≤ w4.heap.size := hb4.size
  have hus4 := hus.step hb4
  have hcb4 := hcb2.step hb4
  have hsp4 := hs2.step hb4
  have hvn : vn ≤ 1000000 := by rw [hvs.len, List.length_append]; have := HUN.out; have := hsr.len; omega
  have hD := dec_p V vn vc (E ++ l2) w4 hvs hvn
  unfold Dcd at hD
  rw [HDE.out] at hD
  rw [← HUN.out] at hD
  dsimp only at hD
  have HD := Lib.hid hD
  clear hD hus hcb2 hs2 ho1 ho2 hg1 hg2 hb3 hb4 hoz hsr hvs hvn hw2s own0
  refine HD.out.mono ?_
  rintro e w5 ⟨XA, xn, xc, rfl, hx5, hb5⟩
  have hus5 := hus4.step hb5
  have hcb5 := hcb4.step hb5
  have hsp5 := hsp4.step hb5
  have hbx := Cb.new w5 (.int .i64 f) (.bool s) (.int .i64 m) (.int .i64 b) (.int .i64 k1) (.int .i64 k2) (.slice XA xn xc)
  have hst : Below w5.heap.size w5 (w5.alloc (.cells #[.int .i64 f, .bool s, .int .i64 m, .int .i64 b, .int .i64 k1, .int .i64 k2, .slice XA xn xc] 24)) := (Below.refl _ _).alloc (Nat.le_refl _) _
  have hus6 := hus5.step hst
  have hcb6 := hcb5.step hst
  have hsp6 := hsp5.step hst
  have hx6 := hx5.step hst
  clear hus4 hcb4 hsp4 hus5 hcb5 hsp5 hx5 hb5 HD
  go_wp2_with fail
  generalize hW6 : w5.alloc (.cells #[.int .i64 f, .bool s, .int .i64 m, .int .i64 b, .int .i64 k1, .int .i64 k2, .slice XA xn xc] 24) = w6 at *
  clear hW6 hst
  refine (mod_any y un w6 hy.1 hy.2 (by omega) (by omega)).mono ?_
  rintro e w' ⟨⟨r, hr, rfl, -⟩, rfl⟩
  have hsr6 : Sl w6 U r uc (E.take r) := ⟨by have := HUN.out; simp; omega, row_take hus6.row r, by have := hus6.cap; omega, hus6.max, hus6.nil⟩
  have hD2 := dec_p U r uc (E.take r) w6 hsr6 (by omega)
  unfold Dcd at hD2
  rw [HDC.out r (by have := HUN.out; omega)] at hD2
  generalize (dec (E.take r)).1 = C2 at hD2
  generalize (dec (E.take r)).2.1 = N2 at hD2
  have HD2 := Lib.hid hD2
  have g1 : (0 : Int) ≤ (r : Int) := by omega
  have g2 : (r : Int) ≤ (uc : Int) := by have := hus6.cap; omega
  have g3 : (r : Int) ≤ (un : Int) := by omega
  clear hD2 hsr6
  go_wp2_with fail
  refine HD2.out.mono ?_
  rintro e w7 ⟨YA, yn, yc, rfl, -, hb7⟩
  have hcb7 := hcb6.step hb7
  have hbx7 := hbx.step hb7
  have hsp7 := hsp6.step hb7
  have hx7 := hx6.step hb7
  have hst : Below w7.heap.size w7 (w7.alloc (.cells #[.int .i64 C2.f, .bool C2.s, .int .i64 C2.m, .int .i64 C2.b, .int .i64 C2.k1, .int .i64 C2.k2, .slice YA yn yc] 24)) := (Below.refl _ _).alloc (Nat.le_refl _) _
  have hcb8 := hcb7.step hst
  have hbx8 := hbx7.step hst
  have hsp8 := hsp7.step hst
  have hx8 := hx7.step hst
  obtain ⟨c0, c1, c2', c3, c4, c5, c6⟩ := hcb7.cells
  obtain ⟨x0, x1, x2, x3, x4, x5, x6⟩ := hbx7.cells
  have lc := hcb7.lt
  have lx := hbx7.lt
  have hend := hcb8.all hbc
  have HEND := Lib.hid hend
  have hcs := csame_yes f m b k1 k2 s A' XA n' xn c' xc p _ hsp8 hx8
  have HCS := Lib.hid hcs
  clear hcb6 hcb7 hbx hbx7 hsp6 hsp7 hx6 hx7 hus6 HD2 g1 g2 g3 hb7 hcb8 hbx8 hsp8 hx8 hend hcs hst
  go_wp2_with fail
  refine HCS.out.mono ?_
  rintro e w9 ⟨rfl, hb9⟩
  go_wp2_with fail
  refine (haw.out _).mono ?_
  rintro e w10 ⟨rfl, hb10⟩
  go_wp2_with fail
  go_ret
  have h9 := HEND.out.trans (hb9.mono HEND.out.size)
  exact ⟨rfl, h9.trans (hb10.mono h9.size)⟩

theorem cells_u8 : Try.prog.cellsOf 5 = 1 := by kernel_rfl
theorem cells_int : Try.prog.cellsOf 3 = 1 := by kernel_rfl
theorem own : ownKnob Try.prog.godebug = none := by kernel_rfl
theorem laidOut : laidOutB Try.prog = true := by kernel_rfl
theorem contract (H : Type) (enc : TypeId × Value → H) (W : World) (base : Nat) (args : Array Value) (ds gs : List (DataW H)) (before : List MemPlace)
    (hval : ∀ (j : Nat) t v, Try.f7.params[j]? = some t → args[j]? = some v → Value.okWide Try.prog W .any base t v)
    (hW : DataW.Whole enc Try.prog Try.f7.params.toList Rows.convertReturnsSpec.vars false W args.toList ds gs before) :
    Calls Try.prog 7 args W fun e W' => ∃ v, e = .returned v ∧ Rows.convertReturnsSpec.post enc Try.prog Try.f7 false true false false W args v W' := by
  have hW' := hW
  obtain ⟨p, q, hA0, hV, rfl, hfz, hnd⟩ := hW
  have hA : DataW.TrodAll enc Try.prog W 0 (fun _ => true) true Try.f7.params.toList args.toList ds p := hA0
  rw [Try.params7] at hA hval
  obtain ⟨v0, vs0, d0, ds0, p0, q0, hargs, rfl, rfl, h0, r0⟩ := trodAll_cons hA
  obtain ⟨v1, vs1, d1, ds1, p1, q1, rfl, rfl, rfl, h1, r1⟩ := trodAll_cons r0
  obtain ⟨v2, vs2, d2, ds2, p2, q2, rfl, rfl, rfl, h2, r2⟩ := trodAll_cons r1
  obtain ⟨rfl, rfl, rfl⟩ := trodAll_nil r2
  obtain rfl : args = #[v0, v1, v2] := by cases args; simp_all
  obtain ⟨A0, n0, c0, l0, rfl, hn0, hr0, hw0, hc0, hm0, hk0⟩ := open_int_list Try.underlying25 Try.underlying3 cells_int (hval 0 25 v0 rfl rfl) h0
  obtain ⟨A1, n1, c1, l1, rfl, hn1, hr1, hc1, hm1, hk1⟩ := open_bytes Try.underlying44 Try.underlying5 cells_u8 (hval 1 44 v1 rfl rfl) h1
  obtain ⟨a2, rfl, -, -, w2⟩ := open_int Try.underlying3 (hval 2 3 v2 rfl rfl) h2
  clear hA0
  refine (walk A0 n0 c0 l0 hn0 hw0 hc0 hm0 hk0 A1 n1 c1 l1 hn1 hc1 hm1 hk1 a2 (bounds_i64 w2) W hr0 hr1).mono fun e W' ⟨he, hb⟩ => ?_
  subst he
  exact ⟨_, rfl, law_post laidOut (types_fit (by kernel_rfl)) (by kernel_rfl) Try.underlying4 rfl (fun xs hx => by
    match xs, hx with
    | [_, _, _], _ => rfl) hW' hb⟩

theorem lifted (os : Os) (started : os.Started) (H : Type) (enc : TypeId × Value → H) :
    ReturnsInHanded {} Try.checked os 7 .any (Rows.convertReturnsSpec.pre6 enc Try.prog Try.f7 Rows.convertReturnsRow.domain false) (Rows.convertReturnsSpec.post enc Try.prog Try.f7 false true false false) := by
  refine returnsInHanded_of_change (C := Try.checked) own started (by kernel_rfl) Try.func7
    (ChangeSpec.witness6 (enc := enc) (C := Try.checked) false ⟨#[], #[.slice none 0 0, .slice none 0 0, .int .i64 0], []⟩ 8 (by kernel_rfl) (by kernel_rfl) (by kernel_rfl) (by kernel_rfl)) ?_
  intro W base args ds gs before hval hW _ _
  exact contract H enc W base args ds gs before hval hW

theorem proved : Rows.ConvertReturnsSaid :=
  OpenClaim.holds_of_wide 7 Try.f7 rfl rfl rfl rfl rfl rfl rfl ⟨rfl, rfl, rfl, rfl, rfl⟩ rfl rfl rfl rfl rfl (by kernel_rfl) Try.func7 (by kernel_rfl)
    (of_decide_eq_true (by kernel_rfl)) (by unfold Func.isWrapper; first | (rw [if_pos (by decide +kernel)]; kernel_rfl) | (rw [if_neg (by decide +kernel)]; exact ⟨rfl, rfl⟩))
    (fun os started H enc _ => lifted os started H enc)
end Go.Proofs.Ytkjjjphpbkcebaa.convertReturns
