/- The statement RepositoryParts: a record that is read in parts under one reservation is the record, and what is handed out does not belong to the repository; for all numbers. -/
import Derived.Test.YtcjmpogjickplaaRm
import Derived.Test.YtcjmpogjickplaaLaw
namespace Go.Proofs.Ytcjmpogjickplaa.repositoryParts
open Go.RowKit Go.ChangeShapes Go.WideShapes Go.ChangeAt Go.Proofs.Ytcjmpogjickplaa.Mem Go.Proofs.Ytcjmpogjickplaa.Law Go.Proofs.Ytcjmpogjickplaa.Made Go.Proofs.Ytcjmpogjickplaa.R11
set_option maxRecDepth 100000
set_option maxHeartbeats 2000000

theorem walk (A : Option Addr) (n c : Nat) (l : List Int) (hn : n = l.length) (hw : ∀ x ∈ l, -9223372036854775808 ≤ x ∧ x ≤ 9223372036854775807) (hc : n ≤ c) (hm : c ≤ maxLen) (_hA : A = none → c = 0)
    (q : Int) (hq : -9223372036854775808 ≤ q ∧ q ≤ 9223372036854775807) (o : Int) (ho : -9223372036854775808 ≤ o ∧ o ≤ 9223372036854775807) (W : World) (hr : IRow W.heap.size W A l) :
    Calls Try.prog 11 #[.slice A n c, .int .i64 q, .int .i64 o] W fun e W' => e = .returned (.bool true) ∧ Below W.heap.size W W' := by
  have haw := Lib.hid (fun u => awake_any u)
  have HQ := Lib.hid (fun (m : Nat) (h1 : 1 ≤ m) (h2 : m ≤ 8) u => mod_any q m u hq.1 hq.2 h1 (by omega))
  have HO := Lib.hid (fun u => mod_any o 12 u ho.1 ho.2 (by omega) (by omega))
  have hmx : n ≤ 2 ^ 63 - 1 := Nat.le_trans hc hm
  have HL1 := Lib.hid (fun u => lightmade_any A n c u (by unfold maxLen at *; omega))
  clear hq ho
  by_cases h600 : n ≤ 600
  · rw [decide_eq_true h600] at HL1
    have HM := Lib.hid (made_p A n c l W hr hn hw (by omega))
    clear hr hn hw hmx
    go_enter Try.func11, Try.ntmps11
    go_wp2_with fail
    refine (HL1.out _).mono ?_
    rintro e w' ⟨rfl, hw'⟩
    rw [← hw']
    clear hw' w' HL1
    go_wp2_with fail
    refine HM.out.mono ?_
    rintro e w1 ⟨g, rv, v, S, L, rfl, h1⟩
    have ids := Lib.hid (ids_p h1.ra h1.ok)
    have H1 := Lib.hid h1
    obtain ⟨Av, nv, cv, rfl, hnv, -, -, -, -⟩ := h1.al.own.form
    have HNV := Lib.hid hnv
    clear h1 hnv HM
    go_wp2_with fail
    refine ids.out.mono ?_
    rintro e w2 ⟨vi, rfl, hi2, hb2⟩
    obtain ⟨Ai, ni, ci, rfl, hni, -, -⟩ := hi2.form
    have hni2 : ni = nv := by rw [hni, HNV.out, List.length_map]; exact H1.out.is.len
    subst hni2
    have hra2 := H1.out.ra.step hb2
    have HRES := Lib.hid (res_p hra2 H1.out.ok)
    have HI2 := Lib.hid hi2
    have HB2 := Lib.hid hb2
    have HRA2 := Lib.hid hra2
    have hres : S.res.resv = 1 := by unfold Rp.res; rw [H1.out.is.resv]; rfl
    rw [hres] at HRES
    have hN1 : 1 ≤ ni ∧ ni ≤ 8 := by have h1 := HNV.out; have h2 := H1.out.pos; have h3 := H1.out.is.few; omega
    clear hra2 hi2 hb2 ids hni hres
    go_wp2_with fail
    refine (HQ.out ni hN1.1 hN1.2 _).mono ?_
    rintro e w' ⟨⟨k, hk, rfl, -⟩, hw'⟩
    rw [← hw']
    clear hw' w' HQ
    go_wp2_with fail
    refine (HO.out _).mono ?_
    rintro e w' ⟨⟨z, hz, rfl, -⟩, hw'⟩
    rw [← hw']
    clear hw' w' HO
    go_wp2_with fail
    refine HRES.out.mono ?_
    rintro e w3 ⟨rfl, h3, k3⟩
    have hi3 := HI2.out.kp HRA2.out k3
    have hal3 := (H1.out.al.step HB2.out).kp HRA2.out k3
    have HOK3 := Lib.hid H1.out.ok.res
    have HLN := Lib.hid H1.out.is.len
    have hll : (S.recs.map (·.id)).length = ni := by rw [List.length_map, HLN.out, ← HNV.out]
    have hkL : k < L.length := by rw [← HNV.out]; exact hk
    obtain ⟨ai, rfl⟩ := hi3.some_ (by omega)
    obtain ⟨av, rfl⟩ := hal3.some_ (by omega)
    have hids : S.recs.map (·.id) = (List.range ni).map (· + 1) := by rw [H1.out.is.ids, HNV.out]
    have HIDK : Hid (∀ V, HOwn w1.heap.size V (.slice (some ai) ni ci) (S.recs.map (·.id)) → V.cell? (ai.add k) = some (.int .u16 ((k : Int) + 1))) := Lib.hid fun V hV => hV.cell (k := k) (x := k + 1) (by omega) (by simp [hids])
    obtain ⟨x, hx⟩ : ∃ x, x = L[k] := ⟨_, rfl⟩
    have HALK : Hid (∀ V, AL W.heap.size V (.slice (some av) ni cv) L → V.cell? (av.add k) = some x.v ∧ Own W.heap.size V x.v x.b) := Lib.hid fun V hV => ⟨by rw [hx]; exact hV.cell hkL, hV.rows x (by rw [hx]; exact List.getElem_mem hkL)⟩
    have hx1 : 1 ≤ x.b.length ∧ x.b.length ≤ 31 := H1.out.is.one x (by rw [hx]; exact List.getElem_mem hkL)
    have hkR : k < S.recs.length := by rw [HLN.out]; exact hkL
    have hrb : S.recs[k].b = x.b := by
      have h1 := H1.out.is.bs
      have h2 : (S.recs.map (·.b))[k]? = (L.map (·.b))[k]? := by rw [h1]
      rw [List.getElem?_map, List.getElem?_map, List.getElem?_eq_getElem hkR, List.getElem?_eq_getElem hkL] at h2
      rw [hx]
      exact Option.some.inj h2
    have hplc : plc S.res.recs (k + 1) = some k := by
      unfold plc
      rw [if_neg (by omega)]
      have hid : S.recs[k].id = k + 1 := by
        have h2 : (S.recs.map (·.id))[k]? = ((List.range ni).map (· + 1))[k]? := by rw [hids]
        rw [List.getElem?_map, List.getElem?_eq_getElem hkR] at h2
        simp [hk] at h2
        omega
      have hh : has S.recs (k + 1) = true := has_iff.2 ⟨_, List.getElem_mem hkR, hid⟩
      show (if has S.recs (k + 1) then some (S.recs.findIdx fun r => decide (r.id = k + 1)) else none) = some k
      rw [if_pos hh]
      congr 1
      rw [List.findIdx_eq hkR]
      refine ⟨by simp [hid], fun q hq => ?_⟩
      have hqid : (S.recs[q]'(Nat.lt_trans hq hkR)).id = q + 1 := by
        have h2 : (S.recs.map (·.id))[q]? = ((List.range ni).map (· + 1))[q]? := by rw [hids]
        rw [List.getElem?_map, List.getElem?_eq_getElem (Nat.lt_trans hq hkR)] at h2
        simp [show q < ni by omega] at h2
        omega
      simp [hqid]
      omega
    have HPLC := Lib.hid hplc
    have HREC : Hid (S.res.recs[k]? = some S.recs[k]) := Lib.hid (List.getElem?_eq_getElem hkR)
    have hvd : S.res.valid 1 = true := by unfold Rp.valid Rp.res; rw [H1.out.is.resv]; rfl
    have HRD := Lib.hid fun V rvx (hV : RA W.heap.size W V g rvx S.res) (o c : Nat) (hoc : o + c ≤ x.b.length) => (show Calls Try.prog 63 #[.pointer (some ⟨g, 0, none⟩), .int .u16 1, .int .u16 ((k : Int) + 1), .int .i64 (o : Int), .int .i64 (c : Int)] V (Gives V ((x.b.drop o).take c, nid S.recs k, 0)) from by
      have h := read_ok hV HOK3.out 1 (k + 1) k o c (.inr hvd) HPLC.out S.recs[k] HREC.out (by rw [hrb]; exact hoc)
      rw [hrb] at h
      exact h)
    have HGT := Lib.hid fun V rvx (hV : RA W.heap.size W V g rvx S.res) => (show Calls Try.prog 61 #[.pointer (some ⟨g, 0, none⟩), .int .u16 ((k : Int) + 1)] V (Gives V (x.b, nid S.recs k, 0)) from by
      have h := get_p hV HOK3.out (k + 1)
      have he : S.res.get (k + 1) = (x.b, nid S.recs k, 0) := by
        unfold Rp.get
        rw [HPLC.out]
        dsimp only
        rw [HREC.out]
        dsimp only
        rw [hrb]
        rfl
      rw [he] at h
      exact h)
    have H3 := Lib.hid h3
    have HI3 := Lib.hid hi3
    have HAL3 := Lib.hid hal3
    clear h3 k3 hi3 hal3 hids hx hkR hrb hplc hvd hkL hll HPLC HREC HRES HI2 HB2 HRA2
    obtain ⟨bk, ck, b⟩ := x
    dsimp only [Bk.v] at *
    obtain ⟨N, hN⟩ : ∃ N, N = b.length := ⟨_, rfl⟩
    rw [← hN] at hx1 HRD
    have HN := Lib.hid hN
    clear hN
    obtain ⟨st, hst⟩ : ∃ st, st = z + 1 := ⟨_, rfl⟩
    have hst1 : 1 ≤ st ∧ st ≤ 12 := by omega
    rw [show (1 : Int) + (z : Int) = (st : Int) by omega]
    clear hst hz
    go_wp2_with fail
    obtain ⟨i5, hi5, hz5, hy5, hb5⟩ := info_parts info5
    go_loopw [14, 15] (fun v iv wr => ∃ p : Nat, p ≤ N + 11 ∧ iv = .int .i64 (p : Int) ∧ Own w3.heap.size wr v (b.take p) ∧ RA W.heap.size W wr g rv S.res ∧ HOwn w1.heap.size wr (.slice (some ai) ni ci) (S.recs.map (·.id)) ∧ AL W.heap.size wr (.slice (some av) ni cv) L ∧ Below w3.heap.size w3 wr) (fun _ iv _ => N + 12 - (intOf iv).toNat)
    case atStart => exact ⟨0, Nat.zero_le _, rfl, by simpa using Own.nil, H3.out, HI3.out, HAL3.out, Below.refl _ _⟩
    case round =>
      obtain ⟨p, hp, rfl, hown, hra, hids, hal, hbel⟩ := hrel
      have hcI := HIDK.out _ hids
      obtain ⟨hcA, hoA⟩ := HALK.out _ hal
      have HOA := Lib.hid hoA
      rw [← HN.out] at hcA
      have HRA := Lib.hid hra
      have HID := Lib.hid hids
      have HAL := Lib.hid hal
      have HOWN := Lib.hid hown
      have HBEL := Lib.hid hbel
      clear hids hal hown hra hoA hbel
      by_cases hlt : p < N
      · obtain ⟨M, hM⟩ : ∃ M, M = min st (N - p) := ⟨_, rfl⟩
        have hMM : 1 ≤ M ∧ p + M ≤ N ∧ (M = st ∨ p + M = N) ∧ M ≤ st := by omega
        have HRDp := Lib.hid (HRD.out _ rv HRA.out.drew p M hMM.2.1)
        have HMIN : Hid ((if (N : Int) - (p : Int) < (st : Int) then (N : Int) - (p : Int) else (st : Int)) = (M : Int)) := Lib.hid (by split <;> omega)
        have hn1 : (p : Int) < (N : Int) := by omega
        have hwr : IntKind.i64.wrap ((N : Int) - (p : Int)) = (N : Int) - (p : Int) := IntWalk.i64_in _ ⟨by omega, by omega⟩
        clear hM
        go_wp2_with fail
        go_region_law (first
          | (go_simp; go_at_call 63; go_loud (rw [HMIN.out]); go_loud (refine HRDp.out.mono ?_); go_loud (rintro e w6 ⟨A6, n6, c6, rfl, ho6, hb6⟩)))
        all_goals
          clear hwr
          have hPl : ((b.drop p).take M).length = M := by rw [List.length_take, List.length_drop, ← HN.out]; omega
          have htk : b.take p ++ (b.drop p).take M = b.take (p + st) := by
            rw [← List.take_add]
            rcases hMM.2.2.1 with e | e
            · rw [e]
            · rw [List.take_of_length_le (by rw [← HN.out]; omega), List.take_of_length_le (by rw [← HN.out]; omega)]
          obtain ⟨P, hP⟩ : ∃ P, P = (b.drop p).take M := ⟨_, rfl⟩
          rw [← hP] at hPl htk ho6
          have hn6 : M = n6 := by
            obtain ⟨A', c', hv, -⟩ := ho6.form
            injection hv with e1 e2
            rw [e2, hPl]
          subst hn6
          obtain ⟨g6, rfl, hg61, hg62⟩ := own_some ho6 (by rw [hPl]; exact hMM.1)
          have hbw : Below wr.heap.size wr w6 := ⟨hb6.os, hb6.tape, hb6.output, hb6.size, hb6.block⟩
          have HO6 := Lib.hid ho6
          have GOT6 : Hid (Own w3.heap.size w6 u14 (b.take p)) := Lib.hid (row_step HOWN.out hbw)
          have HRA6 := Lib.hid (HRA.out.step hbw)
          have HID6 := Lib.hid (HID.out.step hbw)
          have HAL6 := Lib.hid (HAL.out.step hbw)
          have HB6 := Lib.hid (HBEL.out.trans (hbw.mono HBEL.out.size))
          have HTK := Lib.hid htk
          have hgl : (b.take p).length ≤ 31 := by rw [List.length_take, ← HN.out]; omega
          have hz3 : w3.heap.size ≤ wr.heap.size := HBEL.out.size
          have hgb : ∀ i, u14.ownBlock = some i → i < wr.heap.size := fun i hi => (World.ownsRow.lt HOWN.out i hi).2
          have HGB := Lib.hid hgb
          have hg61' : wr.heap.size ≤ g6 := hg61
          have hsz6 : w3.heap.size ≤ w6.heap.size := Nat.le_trans hz3 hbw.size
          have m1 : ((M : Int) == 0) = false := by simp; omega
          have m2 : (0 : Int) < (M : Int) := by omega
          have HOP7 : Hid (∀ V, w6.grownBy V u14.ownBlock → Own wr.heap.size V (.slice (some ⟨g6, 0, none⟩) M c6) P) := Lib.hid fun V hV => row_any HO6.out fun i hi => by
            injection hi with hi
            subst hi
            exact hV.block g6 hg62 (fun e => by have := HGB.out g6 e.symm; omega)
          clear htk hbw ho6 hb6 hP hgb hg61 HOWN HBEL hcI hcA
          go_wp2_with (at_builtin; go_loud (refine wpList_append_rd3 _ rfl (.tmp 90) (.tmp 91) _ rfl w3.heap.size 5 i5 _ 1 Try.underlying74 hi5 hz5 hy5 hb5 rfl u14 (b.take p).length (bvs (b.take p)) rfl GOT6.out _ (some ⟨g6, 0, none⟩) M c6 (bvs P) rfl (by rw [len_bvs]; exact hPl) (sl_own HO6.out hPl.symm).row (fun hh => by cases hh) (bvs_one _) (by unfold maxLen; omega) (by omega) hsz6 ?_); intro v7 w7 ho7 hg7 hk7; go_loud (have hO7 := HOP7.out _ (by exact hg7)); go_loud (have hc7 := own_cell hO7 hPl.symm (i := 0) (by omega)); go_loud (have hf7 := own_frozen hO7 hPl.symm 0))
          have hgrS := fun u => set_grown w7 g6 0 u
          have hr7 : ∀ i, u14.ownBlock = some i → w3.heap.size ≤ i := fun i hi => (World.ownsRow.lt GOT6.out i hi).1
          have hr8 : ∀ i, some g6 = some i → w3.heap.size ≤ i := fun i hi => by injection hi with hi; omega
          have hRA7 := HRA6.out.grown_new H3.out hg7 hr7
          have hID7 : HOwn w1.heap.size w7 (.slice (some ai) ni ci) (S.recs.map (·.id)) := R11.row_new HID6.out HI3.out hg7 hr7
          have hAL7 := HAL6.out.grown_new HAL3.out hg7 hr7
          have hB7 : Below w3.heap.size w3 w7 := HB6.out.trans ⟨hg7.os, hg7.tape, hg7.output, hg7.size, fun i hi => hg7.block i (by omega) (fun e => by have := hr7 i e.symm; omega)⟩
          have hgot7 : Own w3.heap.size w7 v7 (b.take (p + st)) := by
            rw [← HTK.out]
            exact own_of ho7 (by rw [List.length_append, hPl]) (bvs_app _ _).symm
          have hne7 : v7.ownBlock ≠ some g6 := fun e => by
            rcases hk7 with h | h
            · rw [h] at e
              have := HGB.out g6 e
              omega
            · rw [h] at e
              injection e with e
              omega
          have hst8 : Own w3.heap.size (w7.setCell ⟨g6, 0, none⟩ (.int .u8 (bits BinOp.xor .u8 (P[0].toNat : Int) 255))) v7 (b.take (p + st)) := row_any hgot7 fun i hi => heap_setCell_other w7 _ i _ fun e => hne7 (by rw [hi, e])
          exact ⟨⟨_, v7, _, ⟨p + st, by omega, by go_num, hst8, hRA7.grown_new H3.out (hgrS _) hr8, R11.row_new hID7 HI3.out (hgrS _) hr8, hAL7.grown_new HAL3.out (hgrS _) hr8, below_put hB7 (by show w3.heap.size ≤ g6; omega) _⟩, rfl, rfl, by first | rfl | go_num⟩, by simp [intOf]; omega⟩
      · have hn1 : ¬ (p : Int) < (N : Int) := by omega
        have htk : b.take p = b := List.take_of_length_le (by rw [← HN.out]; omega)
        have hown := HOWN.out
        rw [htk] at hown
        have HG := Lib.hid (HGT.out wr rv HRA.out)
        have HGOT := Lib.hid hown
        clear htk hown HOWN
        go_wp2_with fail
        refine HG.out.mono ?_
        rintro e w6 ⟨A6, n6, c6, rfl, ho6, hb6⟩
        have hcA6 := (HALK.out _ (HAL.out.step hb6)).1
        have hoA6 := (HALK.out _ (HAL.out.step hb6)).2
        have hgot6 := row_step HGOT.out hb6
        obtain ⟨Ag, cg, rfl, -, -⟩ := own_form hgot6
        have HS1 := Lib.hid (Same.same_yes (sl_own hgot6 rfl) (sl_own hoA6 rfl))
        have HS2 := Lib.hid fun V (hV : Below w6.heap.size w6 V) => Same.same_yes ((sl_own ho6 (by
            obtain ⟨A', c', hv, -⟩ := ho6.form
            injection hv with e1 e2)).step hV) ((sl_own hoA6 rfl).step hV)
        have HB6 := Lib.hid (HBEL.out.trans (hb6.mono HBEL.out.size))
        have HALC := Lib.hid fun V (hV : Below w6.heap.size w6 V) => (HALK.out _ ((HAL.out.step hb6).step hV)).1
        clear hoA6 hgot6 hb6 ho6 HG HGOT
        go_wp2_with fail
        refine HS1.out.mono ?_
        rintro e w7 ⟨rfl, hb7⟩
        have hcA7 := HALC.out _ hb7
        clear hcA6
        go_wp2_with fail
        refine (HS2.out _ hb7).mono ?_
        rintro e w8 ⟨rfl, hb8⟩
        have hb78 := hb7.trans (hb8.mono hb7.size)
        go_wp2_with fail
        refine (haw.out _).mono ?_
        rintro e w9 ⟨rfl, hb9⟩
        go_wp2_with fail
        go_ret
        exact ⟨rfl, H3.out.bel.trans ((HB6.out.trans ((hb78.trans (hb9.mono hb78.size)).mono HB6.out.size)).mono H3.out.base)⟩
  · rw [decide_eq_false h600] at HL1
    clear hr hn hw
    go_enter Try.func11, Try.ntmps11
    go_wp2_with fail
    refine (HL1.out _).mono ?_
    rintro e w' ⟨rfl, hw'⟩
    rw [← hw']
    clear hw' w' HL1
    go_wp2_with fail
    refine (haw.out _).mono ?_
    rintro e w2 ⟨rfl, hb⟩
    go_wp2_with fail
    go_ret
    exact ⟨rfl, hb⟩

theorem cells_u8 : Try.prog.cellsOf 5 = 1 := by kernel_rfl
theorem cells_int : Try.prog.cellsOf 3 = 1 := by kernel_rfl
theorem own : ownKnob Try.prog.godebug = none := by kernel_rfl
theorem laidOut : laidOutB Try.prog = true := by kernel_rfl
theorem contract (H : Type) (enc : TypeId × Value → H) (W : World) (base : Nat) (args : Array Value) (ds gs : List (DataW H)) (before : List MemPlace)
    (hval : ∀ (j : Nat) t v, Try.f11.params[j]? = some t → args[j]? = some v → Value.okWide Try.prog W .any base t v)
    (hW : DataW.Whole enc Try.prog Try.f11.params.toList Rows.repositoryPartsSpec.vars false W args.toList ds gs before) :
    Calls Try.prog 11 args W fun e W' => ∃ v, e = .returned v ∧ Rows.repositoryPartsSpec.post enc Try.prog Try.f11 false true false false W args v W' := by
  have hW' := hW
  obtain ⟨p, q, hA0, hV, rfl, hfz, hnd⟩ := hW
  have hA : DataW.TrodAll enc Try.prog W 0 (fun _ => true) true Try.f11.params.toList args.toList ds p := hA0
  rw [Try.params11] at hA hval
  obtain ⟨v0, vs0, d0, ds0, p0, q0, hargs, rfl, rfl, h0, r0⟩ := trodAll_cons hA
  obtain ⟨v1, vs1, d1, ds1, p1, q1, rfl, rfl, rfl, h1, r1⟩ := trodAll_cons r0
  obtain ⟨v2, vs2, d2, ds2, p2, q2, rfl, rfl, rfl, h2, r2⟩ := trodAll_cons r1
  obtain ⟨rfl, rfl, rfl⟩ := trodAll_nil r2
  obtain rfl : args = #[v0, v1, v2] := by cases args; simp_all
  obtain ⟨A0, n0, c0, l0, rfl, hn0, hr0, hw0, hc0, hm0, hk0⟩ := open_int_list Try.underlying22 Try.underlying3 cells_int (hval 0 22 v0 rfl rfl) h0
  obtain ⟨a1, rfl, -, -, w1⟩ := open_int Try.underlying3 (hval 1 3 v1 rfl rfl) h1
  obtain ⟨a2, rfl, -, -, w2⟩ := open_int Try.underlying3 (hval 2 3 v2 rfl rfl) h2
  clear hA0
  refine (walk A0 n0 c0 l0 hn0 hw0 hc0 hm0 hk0 a1 (bounds_i64 w1) a2 (bounds_i64 w2) W hr0).mono fun e W' ⟨he, hb⟩ => ?_
  subst he
  exact ⟨_, rfl, law_post laidOut (types_fit (by kernel_rfl)) (by kernel_rfl) Try.underlying4 rfl (fun xs hx => by
    match xs, hx with
    | [_, _, _], _ => rfl) hW' hb⟩

theorem lifted (os : Os) (started : os.Started) (H : Type) (enc : TypeId × Value → H) :
    ReturnsInHanded {} Try.checked os 11 .any (Rows.repositoryPartsSpec.pre6 enc Try.prog Try.f11 Rows.repositoryPartsRow.domain false) (Rows.repositoryPartsSpec.post enc Try.prog Try.f11 false true false false) := by
  refine returnsInHanded_of_change (C := Try.checked) own started (by kernel_rfl) Try.func11
    (ChangeSpec.witness6 (enc := enc) (C := Try.checked) false ⟨#[], #[.slice none 0 0, .int .i64 0, .int .i64 0], []⟩ 8 (by kernel_rfl) (by kernel_rfl) (by kernel_rfl) (by kernel_rfl)) ?_
  intro W base args ds gs before hval hW _ _
  exact contract H enc W base args ds gs before hval hW

theorem proved : Rows.RepositoryPartsSaid :=
  OpenClaim.holds_of_wide 11 Try.f11 rfl rfl rfl rfl rfl rfl rfl ⟨rfl, rfl, rfl, rfl, rfl⟩ rfl rfl rfl rfl rfl (by kernel_rfl) Try.func11 (by kernel_rfl)
    (of_decide_eq_true (by kernel_rfl)) (by unfold Func.isWrapper; first | (rw [if_pos (by decide +kernel)]; kernel_rfl) | (rw [if_neg (by decide +kernel)]; exact ⟨rfl, rfl⟩))
    (fun os started H enc _ => lifted os started H enc)
end Go.Proofs.Ytcjmpogjickplaa.repositoryParts
