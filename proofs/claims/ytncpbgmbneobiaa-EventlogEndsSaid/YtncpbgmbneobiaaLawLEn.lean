/- The statement EventlogEnds: a log whose device lost power has ended, also when the power is back, and answers as one that has ended; for all numbers. -/
import Derived.Test.YtncpbgmbneobiaaGv
import Derived.Test.YtncpbgmbneobiaaLaw
namespace Go.Proofs.Ytncpbgmbneobiaa.eventlogEnds
open Go.RowKit Go.ChangeShapes Go.WideShapes Go.ChangeAt Go.Proofs.Ytncpbgmbneobiaa.Mem Go.Proofs.Ytncpbgmbneobiaa.Law Go.Proofs.Ytncpbgmbneobiaa.E5p Go.Proofs.Ytncpbgmbneobiaa.E5m Go.Proofs.Ytncpbgmbneobiaa.E5a Go.Proofs.Ytncpbgmbneobiaa.E5d Go.Proofs.Ytncpbgmbneobiaa.V7 Go.Proofs.Ytncpbgmbneobiaa.V9 Go.Proofs.Ytncpbgmbneobiaa.G9 Go.Proofs.Ytncpbgmbneobiaa.Made Go.Proofs.Ytncpbgmbneobiaa.De
set_option maxRecDepth 100000
set_option maxHeartbeats 4000000

theorem none_fit : Ev.none.Fit := ⟨by decide, by decide, by decide, by decide, by decide, by decide, by decide, by decide, by decide⟩
theorem walk (a : Int) (ha : -9223372036854775808 ≤ a ∧ a ≤ 9223372036854775807) (b : Int) (hb : -9223372036854775808 ≤ b ∧ b ≤ 9223372036854775807) (ow : Bool)
    (A : Option Addr) (n c : Nat) (l : List Int) (hn : n = l.length) (hw : ∀ x ∈ l, -9223372036854775808 ≤ x ∧ x ≤ 9223372036854775807) (hc : n ≤ c) (hm : c ≤ maxLen) (_hA : A = none → c = 0)
    (q : Int) (hq : -9223372036854775808 ≤ q ∧ q ≤ 9223372036854775807) (t : Int) (ht : 0 ≤ t ∧ t ≤ 255) (W : World) (hr : IRow W.heap.size W A l) :
    Calls Try.prog 8 #[.int .i64 a, .int .i64 b, .bool ow, .slice A n c, .int .i64 q, .int .u8 t] W fun e W' => e = .returned (.bool true) ∧ Below W.heap.size W W' := by
  have haw := Lib.hid (fun u => awake_any u)
  have HG := Lib.hid (fun u => geometry_p a b ha hb u)
  have HM := Lib.hid (fun u => mod_any q 3 u hq.1 hq.2 (by omega) (by omega))
  obtain ⟨T, rfl⟩ := Int.eq_ofNat_of_zero_le ht.1
  have hT : T < 256 := by omega
  have hmx : n ≤ 2 ^ 63 - 1 := Nat.le_trans hc hm
  have HL1 := Lib.hid (fun u => lightmade_any A n c u (by unfold maxLen at *; omega))
  clear ha hb hq ht
  by_cases h600 : n ≤ 600
  · rw [decide_eq_true h600] at HL1
    have HF := Lib.hid (fun (S z N : Nat) (h1 : 2 ≤ S) (h2 : S ≤ 4) (h3 : 64 ≤ z) (h4 : z ≤ 103) (h5 : N ≤ 40) => filled_p S z h1 h2 h3 h4 ow A n c l N h5 W hr hn hw (by omega))
    clear hr hn hw hmx
    go_enter Try.func8, Try.ntmps8
    go_wp2_with fail
    refine (HL1.out _).mono ?_
    rintro e w' ⟨rfl, hw'⟩
    rw [← hw']
    clear hw' w' HL1
    go_wp2_with fail
    refine (HG.out _).mono ?_
    rintro e w' ⟨⟨S, z, g1, g2, g3, g4, rfl⟩, hw'⟩
    rw [hw']
    clear hw' w' HG
    go_wp2_with fail
    refine (HM.out _).mono ?_
    rintro e w' ⟨⟨N, hN, rfl, hNq⟩, hw'⟩
    rw [← hw']
    clear hw' w'
    have HFF := Lib.hid (HF.out S z N g1 g2 g3 g4 (by omega))
    have HSZ := Lib.hid (And.intro g1 (And.intro g2 (And.intro g3 g4)))
    have HNQ := Lib.hid hNq
    clear HF g1 g2 g3 g4 hNq
    go_wp2_with fail
    refine HFF.out.mono ?_
    rintro e w2 ⟨d, g, rv, s, v, evs, rfl, hfill, hown⟩
    obtain ⟨g1, g2, g3, g4⟩ := HSZ.out
    obtain ⟨hs1, hs2⟩ := small ((z - 11) / 17) S (by omega) g1 ow evs (by rw [hfill.len]; omega)
    have hla := hfill.log
    have hcalm := hfill.calm
    have hnew := addsF_newest ((z - 11) / 17) evs (fresh 0 S ow ((z - 11) / 17))
    rw [← hfill.slots] at hla hs1 hs2 hown hnew
    rw [hfill.len] at hs1 hnew
    obtain ⟨L, hL⟩ : ∃ L, L = addsF (slots s) (fresh 0 S ow (slots s)) evs := ⟨_, rfl⟩
    rw [← hL] at hla hs1 hs2 hown hnew
    obtain ⟨A8, n8, c8, rfl, hes⟩ := hown.sl
    have hn8 : n8 = N := by rw [hes.len, List.length_map, hs1]
    subst hn8
    have hnew2 : L.newest < 2147483648 := Nat.lt_of_le_of_lt hnew (by show 0 + n8 < 2147483648; omega)
    have HLA := Lib.hid hla
    have HC := Lib.hid hcalm
    have HRM := Lib.hid hs2
    have HNW := Lib.hid hnew2
    have HRS := Lib.hid (reserve_p hla)
    have hN900 : Hid (n8 + 1 ≤ 900) := Lib.hid (by omega)
    have hN40 : Hid (40 * n8 ≤ 700000) := Lib.hid (by omega)
    have HN := Lib.hid hN
    clear hfill hown g1 g2 g3 g4 hs1 hs2 hla hcalm hnew hL hes hnew2 hN HSZ HFF
    go_wp2_with fail
    refine (HM.out _).mono ?_
    rintro e w' ⟨⟨N', hN', rfl, hNq'⟩, hw'⟩
    rw [← hw']
    have hNN : N' = n8 := by have := HNQ.out; omega
    subst hNN
    clear hw' w' HM hN' hNq' HNQ
    go_wp2_with fail
    refine HRS.out.mono ?_
    rintro e w3 ⟨rfl, h3, -⟩
    obtain ⟨t8, ht8⟩ : ∃ t8 : UInt8, t8.toNat = T := ⟨UInt8.ofNat T, by rw [UInt8.toNat_ofNat']; omega⟩
    have harm := h3.dev.arm 1 t8 (by omega) (by omega)
    rw [ht8] at harm
    have HARM := Lib.hid harm
    have H3 := Lib.hid h3
    clear harm ht8 h3 HRS HLA
    go_wp2_with fail
    refine HARM.out.mono ?_
    rintro e w4 ⟨rfl, hat4, hk4⟩
    have h4 := H3.out.kept hk4 hat4 (arm_like s 1 t8)
    have hsd : (s.arm 1 t8).down = false := by simp [Fl.arm, HC.out.down]
    have hsl : (s.arm 1 t8).left = 1 := by simp [Fl.arm, HC.out.down]
    have hdie := add_dies hsd hsl h4.ok h4.dev.ok HNW.out (by rw [(arm_like s 1 t8).slots]; first | exact HRM.out | exact HRM.out.imp (fun h => h) (fun h => Int.not_lt.2 h)) Ev.none (by decide) rfl
    have hadd := add_p h4 hN40.out (Nat.le_of_succ_le hN900.out) Ev.none none_fit
    have HADD := Lib.hid (show Calls Try.prog 25 #[.pointer (some ⟨g, 0, none⟩), .agg #[.int .u16 0, .int .u32 0, .int .u16 0, .int .u8 0, .int .u8 0, .int .u8 0, .bool false, .int .u8 0, .int .u8 0, .int .u8 0]] w4 _ from hadd)
    have HD := Lib.hid hdie
    clear h4 hsd hsl hdie hadd hat4 hk4 H3 HARM HRM HNW HC
    go_wp2_with fail
    refine HADD.out.mono ?_
    rintro e w5 ⟨rv5, rfl, h5, -⟩
    rw [HD.out] at h5 ⊢
    have h5' := (show LE _ _ _ _ _ _ _ ∧ _ from h5).1
    have HRE := Lib.hid h5'.dev.restore
    have H5 := Lib.hid h5'
    clear h5 h5' HADD HD
    go_wp2_with fail
    refine HRE.out.mono ?_
    rintro e w6 ⟨rfl, hat6, hk6⟩
    have h6 := H5.out.kept hk6 hat6
    have HAE := Lib.hid (show Calls Try.prog 25 #[.pointer (some ⟨g, 0, none⟩), .agg #[.int .u16 0, .int .u32 0, .int .u16 0, .int .u8 0, .int .u8 0, .int .u8 0, .bool false, .int .u8 0, .int .u8 0, .int .u8 0]] w6 _ from add_end h6 Ev.none)
    clear h6 hat6 hk6 H5 HRE
    go_wp2_with fail
    refine HAE.out.mono ?_
    rintro e w7 ⟨rfl, h7, -⟩
    have HGE := Lib.hid (show Calls Try.prog 33 #[.pointer (some ⟨g, 0, none⟩), .int .u16 0] w7 (fun e w' => e = .returned (.tuple #[.agg #[.int .u16 0, .int .u32 0, .int .u16 0, .int .u8 0, .int .u8 0, .int .u8 0, .bool false, .int .u8 0, .int .u8 0, .int .u8 0], .int .u16 0, .int .i64 8]) ∧ Below w7.heap.size w7 w') from get_end h7 0)
    have H7 := Lib.hid h7
    clear h7 HAE
    go_wp2_with fail
    refine HGE.out.mono ?_
    rintro e w8 ⟨rfl, hb8⟩
    have h9 := (H7.out.step hb8).step ((Below.refl w8.heap.size w8).alloc (Nat.le_refl _) (.cells #[.int .u16 0, .int .u32 0, .int .u16 0, .int .u8 0, .int .u8 0, .int .u8 0, .bool false, .int .u8 0, .int .u8 0, .int .u8 0] 33))
    have H9 := Lib.hid h9
    clear h9 hb8 H7 HGE
    go_wp2_with fail
    generalize w8.alloc (.cells #[.int .u16 0, .int .u32 0, .int .u16 0, .int .u8 0, .int .u8 0, .int .u8 0, .bool false, .int .u8 0, .int .u8 0, .int .u8 0] 33) = w9 at *
    have HCL := Lib.hid (clear_end H9.out (G9.reserved L).resv)
    have HRC := Lib.hid (records_end H9.out)
    have HLN := Lib.hid (len_end H9.out)
    have HFU := Lib.hid (full_end H9.out)
    have HRV := Lib.hid (reserve_end H9.out)
    have HLW := Lib.hid H9.out.dev.low
    clear H9
    refine HCL.out.mono ?_
    rintro e w' ⟨rfl, hw'⟩
    rw [hw']
    clear hw' w' HCL
    go_wp2_with fail
    refine HRC.out.mono ?_
    rintro e w' ⟨rfl, hw'⟩
    rw [hw']
    clear hw' w' HRC
    go_wp2_with fail
    refine HLN.out.mono ?_
    rintro e w' ⟨rfl, hw'⟩
    rw [hw']
    clear hw' w' HLN
    go_wp2_with fail
    refine HFU.out.mono ?_
    rintro e w' ⟨rfl, hw'⟩
    rw [hw']
    clear hw' w' HFU
    go_wp2_with fail
    refine HRV.out.mono ?_
    rintro e w' ⟨rfl, hw'⟩
    rw [hw']
    clear hw' w' HRV
    go_wp2_with fail
    refine (haw.out _).mono ?_
    rintro e u1 ⟨rfl, hb1⟩
    go_wp2_with fail
    go_ret
    exact ⟨rfl, HLW.out.trans (hb1.mono HLW.out.size)⟩
  · rw [decide_eq_false h600] at HL1
    clear hr hn hw hmx
    go_enter Try.func8, Try.ntmps8
    go_wp2_with fail
    refine (HL1.out _).mono ?_
    rintro e w' ⟨rfl, hw'⟩
    rw [← hw']
    clear hw' w' HL1
    go_wp2_with fail
    refine (haw.out _).mono ?_
    rintro e u1 ⟨rfl, hb1⟩
    go_wp2_with fail
    go_ret
    exact ⟨rfl, hb1⟩

theorem cells_u8 : Try.prog.cellsOf 5 = 1 := by kernel_rfl
theorem cells_int : Try.prog.cellsOf 3 = 1 := by kernel_rfl
theorem own : ownKnob Try.prog.godebug = none := by kernel_rfl
theorem laidOut : laidOutB Try.prog = true := by kernel_rfl
theorem contract (H : Type) (enc : TypeId × Value → H) (W : World) (base : Nat) (args : Array Value) (ds gs : List (DataW H)) (before : List MemPlace)
    (hval : ∀ (j : Nat) t v, Try.f8.params[j]? = some t → args[j]? = some v → Value.okWide Try.prog W .any base t v)
    (hW : DataW.Whole enc Try.prog Try.f8.params.toList Rows.eventlogEndsSpec.vars false W args.toList ds gs before) :
    Calls Try.prog 8 args W fun e W' => ∃ v, e = .returned v ∧ Rows.eventlogEndsSpec.post enc Try.prog Try.f8 false true false false W args v W' := by
  have hW' := hW
  obtain ⟨p, q, hA0, hV, rfl, hfz, hnd⟩ := hW
  have hA : DataW.TrodAll enc Try.prog W 0 (fun _ => true) true Try.f8.params.toList args.toList ds p := hA0
  rw [Try.params8] at hA hval
  obtain ⟨v0, vs0, d0, ds0, p0, q0, hargs, rfl, rfl, h0, r0⟩ := trodAll_cons hA
  obtain ⟨v1, vs1, d1, ds1, p1, q1, rfl, rfl, rfl, h1, r1⟩ := trodAll_cons r0
  obtain ⟨v2, vs2, d2, ds2, p2, q2, rfl, rfl, rfl, h2, r2⟩ := trodAll_cons r1
  obtain ⟨v3, vs3, d3, ds3, p3, q3, rfl, rfl, rfl, h3, r3⟩ := trodAll_cons r2
  obtain ⟨v4, vs4, d4, ds4, p4, q4, rfl, rfl, rfl, h4, r4⟩ := trodAll_cons r3
  obtain ⟨v5, vs5, d5, ds5, p5, q5, rfl, rfl, rfl, h5, r5⟩ := trodAll_cons r4
  obtain ⟨rfl, rfl, rfl⟩ := trodAll_nil r5
  obtain rfl : args = #[v0, v1, v2, v3, v4, v5] := by cases args; simp_all
  obtain ⟨a0, rfl, -, -, w0⟩ := open_int Try.underlying3 (hval 0 3 v0 rfl rfl) h0
  obtain ⟨a1, rfl, -, -, w1⟩ := open_int Try.underlying3 (hval 1 3 v1 rfl rfl) h1
  obtain ⟨b2, rfl, -, -⟩ := open_bool Try.underlying4 (hval 2 4 v2 rfl rfl) h2
  obtain ⟨A3, n3, c3, l3, rfl, hn3, hr3, hw3, hc3, hm3, hk3⟩ := open_int_list Try.underlying23 Try.underlying3 cells_int (hval 3 23 v3 rfl rfl) h3
  obtain ⟨a4, rfl, -, -, w4⟩ := open_int Try.underlying3 (hval 4 3 v4 rfl rfl) h4
  obtain ⟨a5, rfl, -, -, w5⟩ := open_int Try.underlying5 (hval 5 5 v5 rfl rfl) h5
  clear hA0
  refine (walk a0 (bounds_i64 w0) a1 (bounds_i64 w1) b2 A3 n3 c3 l3 hn3 hw3 hc3 hm3 hk3 a4 (bounds_i64 w4) a5 (bounds_u8 w5) W hr3).mono fun e W' ⟨he, hb⟩ => ?_
  subst he
  exact ⟨_, rfl, law_post laidOut (types_fit (by kernel_rfl)) (by kernel_rfl) Try.underlying4 rfl (fun xs hx => by
    match xs, hx with
    | [_, _, _, _, _, _], _ => rfl) hW' hb⟩

theorem lifted (os : Os) (started : os.Started) (H : Type) (enc : TypeId × Value → H) :
    ReturnsInHanded {} Try.checked os 8 .any (Rows.eventlogEndsSpec.pre6 enc Try.prog Try.f8 Rows.eventlogEndsRow.domain false) (Rows.eventlogEndsSpec.post enc Try.prog Try.f8 false true false false) := by
  refine returnsInHanded_of_change (C := Try.checked) own started (by kernel_rfl) Try.func8
    (ChangeSpec.witness6 (enc := enc) (C := Try.checked) false ⟨#[], #[.int .i64 0, .int .i64 0, .bool false, .slice none 0 0, .int .i64 0, .int .u8 0], []⟩ 8 (by kernel_rfl) (by kernel_rfl) (by kernel_rfl) (by kernel_rfl)) ?_
  intro W base args ds gs before hval hW _ _
  exact contract H enc W base args ds gs before hval hW

theorem proved : Rows.EventlogEndsSaid :=
  OpenClaim.holds_of_wide 8 Try.f8 rfl rfl rfl rfl rfl rfl rfl ⟨rfl, rfl, rfl, rfl, rfl⟩ rfl rfl rfl rfl rfl (by kernel_rfl) Try.func8 (by kernel_rfl)
    (of_decide_eq_true (by kernel_rfl)) (by unfold Func.isWrapper; first | (rw [if_pos (by decide +kernel)]; kernel_rfl) | (rw [if_neg (by decide +kernel)]; exact ⟨rfl, rfl⟩))
    (fun os started H enc _ => lifted os started H enc)
end Go.Proofs.Ytncpbgmbneobiaa.eventlogEnds
