/- The statement EventlogWalks: Get answers record by record, and no other; for all numbers. -/
import Derived.Test.YtekhpcfggbegaaaGy
import Derived.Test.YtekhpcfggbegaaaV7f
import Derived.Test.YtekhpcfggbegaaaLaw
namespace Go.Proofs.Ytekhpcfggbegaaa.eventlogWalks
open Go.RowKit Go.ChangeShapes Go.WideShapes Go.ChangeAt Go.Proofs.Ytekhpcfggbegaaa.Mem Go.Proofs.Ytekhpcfggbegaaa.Law Go.Proofs.Ytekhpcfggbegaaa.E5p Go.Proofs.Ytekhpcfggbegaaa.E5m Go.Proofs.Ytekhpcfggbegaaa.E5a Go.Proofs.Ytekhpcfggbegaaa.E5d Go.Proofs.Ytekhpcfggbegaaa.V7 Go.Proofs.Ytekhpcfggbegaaa.V9 Go.Proofs.Ytekhpcfggbegaaa.G9 Go.Proofs.Ytekhpcfggbegaaa.Made Go.Proofs.Ytekhpcfggbegaaa.De
set_option maxRecDepth 100000
set_option maxHeartbeats 4000000

theorem here_ok {l : List Rc} {i : Nat} {b : Bool} (h : b = (decide (i = 0) && decide (0 < l.length) || has i (l.map (·.e)))) : b = l.any (isId i) := by rw [h, any_has]
theorem has_snoc (i : Nat) (l : List Ev) (k : Nat) (hk : k < l.length) : has i (l.take (k + 1)) = (has i (l.take k) || decide (l[k].id = i)) := by
  unfold has
  rw [List.take_succ_eq_append_getElem hk, List.any_append]
  simp
theorem walk (a : Int) (ha : -9223372036854775808 ≤ a ∧ a ≤ 9223372036854775807) (b : Int) (hb : -9223372036854775808 ≤ b ∧ b ≤ 9223372036854775807) (ow : Bool)
    (A : Option Addr) (n c : Nat) (l : List Int) (hn : n = l.length) (hw : ∀ x ∈ l, -9223372036854775808 ≤ x ∧ x ≤ 9223372036854775807) (hc : n ≤ c) (hm : c ≤ maxLen) (_hA : A = none → c = 0)
    (q : Int) (hq : -9223372036854775808 ≤ q ∧ q ≤ 9223372036854775807) (t : Int) (ht : 0 ≤ t ∧ t ≤ 65535) (W : World) (hr : IRow W.heap.size W A l) :
    Calls Try.prog 9 #[.int .i64 a, .int .i64 b, .bool ow, .slice A n c, .int .i64 q, .int .u16 t] W fun e W' => e = .returned (.bool true) ∧ Below W.heap.size W W' := by
  have haw := Lib.hid (fun u => awake_any u)
  have HG := Lib.hid (fun u => geometry_p a b ha hb u)
  have HM := Lib.hid (fun u => mod_any q 40 u hq.1 hq.2 (by omega) (by omega))
  obtain ⟨T, rfl⟩ := Int.eq_ofNat_of_zero_le ht.1
  have hT : T < 65536 := by omega
  have hmx : n ≤ 2 ^ 63 - 1 := Nat.le_trans hc hm
  have HL1 := Lib.hid (fun u => lightmade_any A n c u (by unfold maxLen at *; omega))
  clear ha hb hq ht
  by_cases h600 : n ≤ 600
  · rw [decide_eq_true h600] at HL1
    have HF := Lib.hid (fun (S z N : Nat) (h1 : 2 ≤ S) (h2 : S ≤ 4) (h3 : 64 ≤ z) (h4 : z ≤ 103) (h5 : N ≤ 40) => filled_p S z h1 h2 h3 h4 ow A n c l N h5 W hr hn hw (by omega))
    clear hr hn hw hmx
    go_enter Try.func9, Try.ntmps9
    go_wp2_with fail
    refine (HL1.out _).mono ?_
    rintro e w' ⟨rfl, hw'⟩
    rw [← hw']
    clear hw' w' HL1
    go_wp2_with fail
    refine (HG.out _).mono ?_
    rintro e w' ⟨⟨S, z, g1, g2, g3, g4, rfl⟩, hw'⟩
    rw [hw']
    clear hw' w' HG
    go_wp2_with fail
    refine (HM.out _).mono ?_
    rintro e w' ⟨⟨N, hN, rfl, hNq⟩, hw'⟩
    rw [← hw']
    clear hw' w'
    have HFF := Lib.hid (HF.out S z N g1 g2 g3 g4 (by omega))
    clear HF g1 g2 g3 g4 hNq HM
    go_wp2_with fail
    refine HFF.out.mono ?_
    rintro e w2 ⟨d, g, rv, s, v, evs, rfl, hfill, hown⟩
    have hla := hfill.log
    have hasc := Asc.adds ((z - 11) / 17) evs (fresh 0 S ow ((z - 11) / 17)) 0 (Asc.fresh S _ ow) (by rw [hfill.len]; omega)
    obtain ⟨L, hL⟩ : ∃ L, L = addsF ((z - 11) / 17) (fresh 0 S ow ((z - 11) / 17)) evs := ⟨_, rfl⟩
    rw [← hL] at hla hasc hown
    obtain ⟨A8, n8, c8, rfl, hes⟩ := hown.sl
    have hn8 : n8 = L.recs.length := by rw [hes.len, List.length_map]
    have hmany : L.recs.length ≤ N := hla.ok.many
    have hn40 : n8 ≤ 40 := by omega
    have hfit : ∀ r ∈ L.recs, r.e.Fit := fun r hr => (hla.ok.fit r hr).1
    have HLEN : Hid (Calls Try.prog 47 #[.pointer (some ⟨g, 0, none⟩)] w2 fun e w' => e = .returned (.int .i64 (n8 : Int)) ∧ w' = w2) := Lib.hid (by rw [hn8]; exact len_p hla)
    have HGET := Lib.hid fun (u : World) (hu : Below w2.heap.size w2 u) (i : Nat) => get_p (hla.step hu) (by omega) i
    have HLOW := Lib.hid hla.dev.low
    have HES := Lib.hid hes
    have HN8 := Lib.hid hn8
    have HASC : Hid (L.recs.Pairwise (fun a b => a.e.id < b.e.id) ∧ ∀ r ∈ L.recs, 1 ≤ r.e.id) := Lib.hid ⟨hasc.asc, fun r hr => (hasc.low r hr).1⟩
    have HFIT := Lib.hid hfit
    clear hfill hown hla hL hes hn8 hmany hasc hfit HFF hN
    generalize L.recs = R at *
    go_wp2_with fail
    refine HLEN.out.mono ?_
    rintro e w' ⟨rfl, hw'⟩
    rw [hw']
    clear hw' w' HLEN
    go_wp2_with fail
    go_loopw [19, 20] (fun av iv wr => ∃ k : Nat, k ≤ n8 ∧ av = .int .u16 (idAt R k : Int) ∧ iv = .int .i64 (k : Int) ∧ Below w2.heap.size w2 wr) (fun _ iv _ => n8 - (intOf iv).toNat)
    case atStart => exact ⟨0, Nat.zero_le _, rfl, rfl, Below.refl _ _⟩
    case round =>
      obtain ⟨k, hk, rfl, rfl, hbel⟩ := hrel
      rcases Nat.lt_or_ge k n8 with hlt | hge
      · have hkl : k < R.length := by rw [← HN8.out]; exact hlt
        obtain ⟨nx, hget, hnx, hnx2⟩ := getR_at HASC.out.1 HASC.out.2 hkl
        have hcall := HGET.out wr hbel (idAt R k)
        rw [hget] at hcall
        have hfx := HFIT.out _ (List.getElem_mem hkl)
        have HX : ∀ u, Below w2.heap.size w2 u → ∃ p, A8 = some p ∧ p.block < w2.heap.size ∧ EvAt u (p.add (k * 10)) R[k].e := fun u hu => by
          obtain ⟨p, e, hpb, hp⟩ := erow_at HES.out.row (k := k) (by rw [List.length_map]; exact hkl)
          rw [List.getElem_map] at hp
          exact ⟨p, e, hpb, hp.below hu (by rw [add_block]; exact hpb)⟩
        obtain ⟨x, hx⟩ : ∃ x, x = R[k].e := ⟨_, rfl⟩
        rw [← hx] at hcall hfx HX
        have HX := Lib.hid HX
        have HNX := Lib.hid hnx2
        have HFX := Lib.hid hfx
        have hdn : decide ((nx : Int) = 0) = decide ((k : Int) + 1 = (n8 : Int)) := by
          have hh := HN8.out
          by_cases h0 : nx = 0
          · rw [decide_eq_true h0] at hnx
            have := of_decide_eq_true hnx.symm
            rw [decide_eq_true (by omega), decide_eq_true (by omega)]
          · rw [decide_eq_false h0] at hnx
            have := of_decide_eq_false hnx.symm
            rw [decide_eq_false (by omega), decide_eq_false (by omega)]
        have HDN := Lib.hid hdn
        have HCALL := Lib.hid (show Calls Try.prog 48 #[.pointer (some ⟨g, 0, none⟩), .int .u16 (idAt R k : Int)] wr (fun e w' => e = .returned (.tuple #[x.v, .int .u16 (nx : Int), .int .i64 0]) ∧ Below wr.heap.size wr w') from hcall)
        have n1 : (k : Int) < (n8 : Int) := by omega
        have n0 : (0 : Int) ≤ (k : Int) := by omega
        have HLT := Lib.hid hlt
        have HBEL := Lib.hid hbel
        clear hget hnx hnx2 hcall hfx hx hdn hkl hlt hk hbel
        go_wp2_with fail
        refine HCALL.out.mono ?_
        rintro e w4 ⟨rfl, hb4⟩
        have HB4 := Lib.hid (HBEL.out.trans (hb4.mono HBEL.out.size))
        have HBX := Lib.hid (Box.new w4 Ev.none)
        clear hb4 HCALL
        go_wp2_with (refine wpList_store_box rfl (.tmp 21) (.tmp 70) rfl w4.heap.size x Ev.none rfl rfl HBX.out ?_; intro w5 hB5 hg5; refine Hid.out ?_)
        refine Lib.hid ?_
        have HB5 := Lib.hid hB5
        have HL5 := Lib.hid ((HB4.out.alloc HB4.out.size (.cells Ev.none.cells 89)).grown hg5 (Nat.le_trans HB4.out.size (by simp)) (fun q hq => by injection hq with hq; rw [← hq]; exact HB4.out.size))
        clear hB5 hg5 HBX HB4
        obtain ⟨r, hr⟩ : ∃ r, r = w4.heap.size := ⟨_, rfl⟩
        go_wp2_with fail
        rw [← hr] at HB5 ⊢
        clear hr
        obtain ⟨p, hA8, hpb, hp⟩ := HX.out w5 HL5.out
        subst hA8
        have hB5 := HB5.out
        have hq := fun V => run_neq V x x HFX.out HFX.out
        simp only [decide_true, Bool.not_true] at hq
        have hg : ∀ V, (eqGuard .neq 89 (.tmp 76) (.tmp 80) x.v x.v).run Try.prog V = .ok () V := fun V => by
          unfold Ev.v
          exact run_eqGuard_agg V .neq 89 _ _ _ _ Try.eqGuardType89
        have HD : Hid (((nx : Int) == 0) = ((k : Int) + 1 == (n8 : Int))) := Lib.hid (by show decide _ = decide _; exact HDN.out)
        have hwk : IntKind.i64.wrap ((k : Int) + 1) = (k : Int) + 1 := IntWalk.i64_in _ ⟨by omega, by omega⟩
        have a0 := hp.c0; have a1 := hp.c1; have a2 := hp.c2; have a3 := hp.c3; have a4 := hp.c4; have a5 := hp.c5; have a6 := hp.c6; have a7 := hp.c7; have a8 := hp.c8; have a9 := hp.c9
        clear hp HX HFX hpb HDN
        obtain ⟨id, time, gen, st, sn, ty, de, e0, e1, e2⟩ := x
        have d0 := cell_of_row w5 r 0 _ _ _ hB5; have d1 := cell_of_row w5 r 1 _ _ _ hB5; have d2 := cell_of_row w5 r 2 _ _ _ hB5; have d3 := cell_of_row w5 r 3 _ _ _ hB5; have d4 := cell_of_row w5 r 4 _ _ _ hB5
        have d5 := cell_of_row w5 r 5 _ _ _ hB5; have d6 := cell_of_row w5 r 6 _ _ _ hB5; have d7 := cell_of_row w5 r 7 _ _ _ hB5; have d8 := cell_of_row w5 r 8 _ _ _ hB5; have d9 := cell_of_row w5 r 9 _ _ _ hB5
        clear hB5 HB5
        dsimp only [Ev.v, Ev.cells] at *
        simp only [List.getElem?_toArray, List.getElem?_cons_zero, List.getElem?_cons_succ] at d0 d1 d2 d3 d4 d5 d6 d7 d8 d9
        go_quiet (fail)
        clear a0 a1 a2 a3 a4 a5 a6 a7 a8 a9 d0 d1 d2 d3 d4 d5 d6 d7 d8 d9 hq hg
        go_wp2_with fail
        · rename_i hh
          rw [HD.out] at hh
          simp at hh
        have hll := HL5.out
        exact ⟨⟨k + 1, HLT.out, by rw [HNX.out], by simp, ⟨hll.os, hll.tape, hll.output, hll.size, hll.block⟩⟩, by have := HLT.out; simp [intOf]; omega⟩
      · obtain rfl : k = n8 := by omega
        have hany : ∀ u, Below w2.heap.size w2 u → _ := fun u hu => HGET.out u hu T
        obtain ⟨b, hb⟩ : ∃ b, b = R.any (isId T) := ⟨_, rfl⟩
        have hcall := hany wr hbel
        have hok : decide ((getR R T).2.2 = 0) = b ∧ (b = false → getR R T = (Ev.none, 0, 8)) := by
          rw [hb]
          cases hc : R.any (isId T)
          · rw [getR_no hc]; exact ⟨rfl, fun _ => rfl⟩
          · exact ⟨decide_eq_true (getR_ok hc), fun h => by cases h⟩
        generalize getR R T = res at *
        obtain ⟨x, nx, er⟩ := res
        have HCALL := Lib.hid (show Calls Try.prog 48 #[.pointer (some ⟨g, 0, none⟩), .int .u16 (T : Int)] wr (fun e w' => e = .returned (.tuple #[x.v, .int .u16 (nx : Int), .int .i64 er]) ∧ Below wr.heap.size wr w') from hcall)
        have HOK := Lib.hid hok
        have HB := Lib.hid hb
        have HBEL := Lib.hid hbel
        have n1 : ¬ (k : Int) < (k : Int) := by omega
        clear hany hcall hok hb hbel HGET
        go_wp2_with fail
        refine HCALL.out.mono ?_
        rintro e w4 ⟨rfl, hb4⟩
        have HB4 := Lib.hid (HBEL.out.trans (hb4.mono HBEL.out.size))
        have HBX := Lib.hid (Box.new w4 Ev.none)
        clear hb4 HCALL
        go_wp2_with (refine wpList_store_box rfl (.tmp 24) (.tmp 98) rfl w4.heap.size x Ev.none rfl rfl HBX.out ?_; intro w5 hB5 hg5; refine Hid.out ?_)
        refine Lib.hid ?_
        have HL5 := Lib.hid ((HB4.out.alloc HB4.out.size (.cells Ev.none.cells 89)).grown hg5 (Nat.le_trans HB4.out.size (by simp)) (fun q hq => by injection hq with hq; rw [← hq]; exact HB4.out.size))
        clear hB5 hg5 HBX HB4
        go_upto_region 16 with fail
        go_cut [27] from 101 to 108 (fun v wx => v = .bool (decide (T = 0) && decide (0 < k)) ∧ wx = w5)
        case first =>
          rcases Nat.eq_zero_or_pos T with rfl | hT0
          · go_wp2_with fail
            go_meet
            exact ⟨by simp, rfl⟩
          · have hne : decide ((T : Int) = 0) = false := decide_eq_false (by omega)
            have hne2 : decide (T = 0) = false := decide_eq_false (by omega)
            go_wp2_with fail
            go_meet
            exact ⟨by rw [hne2]; rfl, rfl⟩
        case rest =>
        obtain ⟨rfl, hwc⟩ := hcut
        rw [hwc]
        clear hwc
        go_wp2_with fail
        go_loopw [27, 28] (fun bv iv wr => ∃ j : Nat, j ≤ k ∧ bv = .bool ((decide (T = 0) && decide (0 < k)) || has T ((R.map (fun r : Rc => r.e)).take j)) ∧ iv = .int .i64 (j : Int) ∧ Below w2.heap.size w2 wr) (fun _ iv _ => k - (intOf iv).toNat)
        case atStart => exact ⟨0, Nat.zero_le _, by simp [has], rfl, HL5.out⟩
        case round =>
          obtain ⟨j, hj, rfl, rfl, hbel⟩ := hrel
          rcases Nat.lt_or_ge j k with hlt | hge
          · have hjl : j < (R.map (fun r : Rc => r.e)).length := by rw [List.length_map, ← HN8.out]; exact hlt
            obtain ⟨p, hA8, hpb, hp⟩ := erow_at HES.out.row (k := j) hjl
            subst hA8
            have a0 := (hp.below hbel (by rw [add_block]; exact hpb)).c0
            have HSN := Lib.hid (has_snoc T _ j hjl)
            obtain ⟨y, hy⟩ : ∃ y, y = ((R.map (fun r : Rc => r.e))[j]'hjl).id := ⟨_, rfl⟩
            rw [← hy] at a0 HSN
            have n1 : (j : Int) < (k : Int) := by omega
            have n0 : (0 : Int) ≤ (j : Int) := by omega
            have HLT := Lib.hid hlt
            have HBEL2 := Lib.hid hbel
            clear hp hpb hy hjl hlt hj hbel
            obtain ⟨tb, htb⟩ : ∃ tb, tb = ((decide (T = 0) && decide (0 < k)) || has T ((R.map (fun r : Rc => r.e)).take j)) := ⟨_, rfl⟩
            rw [← htb]
            have HTB := Lib.hid htb
            clear htb
            cases tb
            · go_wp2_with fail
              refine ⟨⟨j + 1, HLT.out, ?_, by simp, HBEL2.out⟩, by have := HLT.out; simp [intOf]; omega⟩
              rw [HSN.out, ← Bool.or_assoc, ← HTB.out, Bool.false_or]
              show Value.bool (decide ((y : Int) = (T : Int))) = Value.bool (decide (y = T))
              rw [Value.bool.injEq]
              exact decide_eq_decide.2 (by omega)
            · go_wp2_with fail
              refine ⟨⟨j + 1, HLT.out, ?_, by simp, HBEL2.out⟩, by have := HLT.out; simp [intOf]; omega⟩
              rw [HSN.out, ← Bool.or_assoc, ← HTB.out, Bool.true_or]
          · obtain rfl : j = k := by omega
            have hth : ((decide (T = 0) && decide (0 < j)) || has T ((R.map (fun r : Rc => r.e)).take j)) = b := by
              rw [HB.out, any_has, HN8.out, List.take_of_length_le (by rw [List.length_map]; exact Nat.le_refl _)]
            rw [hth]
            have hlow := HLOW.out.trans (hbel.mono HLOW.out.size)
            have HW := Lib.hid hlow
            obtain ⟨hok1, hok2⟩ := HOK.out
            have n1 : ¬ (j : Int) < (j : Int) := by omega
            clear hth hlow HLOW HES HOK HB HASC HFIT HN8 HL5 hbel hge hj
            cases b
            · have he8 := hok2 rfl
              injection he8 with hx1 hx2
              injection hx2 with hx2 hx3
              subst hx1
              subst hx2
              subst hx3
              clear hok1 hok2
              go_wp2_with fail
              refine (haw.out _).mono ?_
              rintro e u1 ⟨rfl, hb1⟩
              go_wp2_with fail
              go_ret
              exact ⟨rfl, HW.out.trans (hb1.mono HW.out.size)⟩
            · obtain rfl : er = 0 := of_decide_eq_true hok1
              clear hok1 hok2
              go_wp2_with fail
              refine (haw.out _).mono ?_
              rintro e u1 ⟨rfl, hb1⟩
              go_wp2_with fail
              go_ret
              exact ⟨rfl, HW.out.trans (hb1.mono HW.out.size)⟩
  · rw [decide_eq_false h600] at HL1
    clear hr hn hw hmx
    go_enter Try.func9, Try.ntmps9
    go_wp2_with fail
    refine (HL1.out _).mono ?_
    rintro e w' ⟨rfl, hw'⟩
    rw [← hw']
    clear hw' w' HL1
    go_wp2_with fail
    refine (haw.out _).mono ?_
    rintro e u1 ⟨rfl, hb1⟩
    go_wp2_with fail
    go_ret
    exact ⟨rfl, hb1⟩

theorem cells_u8 : Try.prog.cellsOf 5 = 1 := by kernel_rfl
theorem cells_int : Try.prog.cellsOf 3 = 1 := by kernel_rfl
theorem own : ownKnob Try.prog.godebug = none := by kernel_rfl
theorem laidOut : laidOutB Try.prog = true := by kernel_rfl
theorem contract (H : Type) (enc : TypeId × Value → H) (W : World) (base : Nat) (args : Array Value) (ds gs : List (DataW H)) (before : List MemPlace)
    (hval : ∀ (j : Nat) t v, Try.f9.params[j]? = some t → args[j]? = some v → Value.okWide Try.prog W .any base t v)
    (hW : DataW.Whole enc Try.prog Try.f9.params.toList Rows.eventlogWalksSpec.vars false W args.toList ds gs before) :
    Calls Try.prog 9 args W fun e W' => ∃ v, e = .returned v ∧ Rows.eventlogWalksSpec.post enc Try.prog Try.f9 false true false false W args v W' := by
  have hW' := hW
  obtain ⟨p, q, hA0, hV, rfl, hfz, hnd⟩ := hW
  have hA : DataW.TrodAll enc Try.prog W 0 (fun _ => true) true Try.f9.params.toList args.toList ds p := hA0
  rw [Try.params9] at hA hval
  obtain ⟨v0, vs0, d0, ds0, p0, q0, hargs, rfl, rfl, h0, r0⟩ := trodAll_cons hA
  obtain ⟨v1, vs1, d1, ds1, p1, q1, rfl, rfl, rfl, h1, r1⟩ := trodAll_cons r0
  obtain ⟨v2, vs2, d2, ds2, p2, q2, rfl, rfl, rfl, h2, r2⟩ := trodAll_cons r1
  obtain ⟨v3, vs3, d3, ds3, p3, q3, rfl, rfl, rfl, h3, r3⟩ := trodAll_cons r2
  obtain ⟨v4, vs4, d4, ds4, p4, q4, rfl, rfl, rfl, h4, r4⟩ := trodAll_cons r3
  obtain ⟨v5, vs5, d5, ds5, p5, q5, rfl, rfl, rfl, h5, r5⟩ := trodAll_cons r4
  obtain ⟨rfl, rfl, rfl⟩ := trodAll_nil r5
  obtain rfl : args = #[v0, v1, v2, v3, v4, v5] := by cases args; simp_all
  obtain ⟨a0, rfl, -, -, w0⟩ := open_int Try.underlying3 (hval 0 3 v0 rfl rfl) h0
  obtain ⟨a1, rfl, -, -, w1⟩ := open_int Try.underlying3 (hval 1 3 v1 rfl rfl) h1
  obtain ⟨b2, rfl, -, -⟩ := open_bool Try.underlying4 (hval 2 4 v2 rfl rfl) h2
  obtain ⟨A3, n3, c3, l3, rfl, hn3, hr3, hw3, hc3, hm3, hk3⟩ := open_int_list Try.underlying36 Try.underlying3 cells_int (hval 3 36 v3 rfl rfl) h3
  obtain ⟨a4, rfl, -, -, w4⟩ := open_int Try.underlying3 (hval 4 3 v4 rfl rfl) h4
  obtain ⟨a5, rfl, -, -, w5⟩ := open_int Try.underlying30 (hval 5 30 v5 rfl rfl) h5
  clear hA0
  refine (walk a0 (bounds_i64 w0) a1 (bounds_i64 w1) b2 A3 n3 c3 l3 hn3 hw3 hc3 hm3 hk3 a4 (bounds_i64 w4) a5 (bounds_u16 w5) W hr3).mono fun e W' ⟨he, hb⟩ => ?_
  subst he
  exact ⟨_, rfl, law_post laidOut (types_fit (by kernel_rfl)) (by kernel_rfl) Try.underlying4 rfl (fun xs hx => by
    match xs, hx with
    | [_, _, _, _, _, _], _ => rfl) hW' hb⟩

theorem lifted (os : Os) (started : os.Started) (H : Type) (enc : TypeId × Value → H) :
    ReturnsInHanded {} Try.checked os 9 .any (Rows.eventlogWalksSpec.pre6 enc Try.prog Try.f9 Rows.eventlogWalksRow.domain false) (Rows.eventlogWalksSpec.post enc Try.prog Try.f9 false true false false) := by
  refine returnsInHanded_of_change (C := Try.checked) own started (by kernel_rfl) Try.func9
    (ChangeSpec.witness6 (enc := enc) (C := Try.checked) false ⟨#[], #[.int .i64 0, .int .i64 0, .bool false, .slice none 0 0, .int .i64 0, .int .u16 0], []⟩ 8 (by kernel_rfl) (by kernel_rfl) (by kernel_rfl) (by kernel_rfl)) ?_
  intro W base args ds gs before hval hW _ _
  exact contract H enc W base args ds gs before hval hW

theorem proved : Rows.EventlogWalksSaid :=
  OpenClaim.holds_of_wide 9 Try.f9 rfl rfl rfl rfl rfl rfl rfl ⟨rfl, rfl, rfl, rfl, rfl⟩ rfl rfl rfl rfl rfl (by kernel_rfl) Try.func9 (by kernel_rfl)
    (of_decide_eq_true (by kernel_rfl)) (by unfold Func.isWrapper; first | (rw [if_pos (by decide +kernel)]; kernel_rfl) | (rw [if_neg (by decide +kernel)]; exact ⟨rfl, rfl⟩))
    (fun os started H enc _ => lifted os started H enc)
end Go.Proofs.Ytekhpcfggbegaaa.eventlogWalks
