/- The statement RepositoryTears: a reading in parts is refused as soon as the repository changed in between, however it changed; for all numbers. -/
import Derived.Test.YtcjmpogjickplaaRm
import Derived.Test.YtcjmpogjickplaaLaw
namespace Go.Proofs.Ytcjmpogjickplaa.repositoryTears
open Go.RowKit Go.ChangeShapes Go.WideShapes Go.ChangeAt Go.Proofs.Ytcjmpogjickplaa.Mem Go.Proofs.Ytcjmpogjickplaa.Law Go.Proofs.Ytcjmpogjickplaa.Made Go.Proofs.Ytcjmpogjickplaa.R11
set_option maxRecDepth 100000
set_option maxHeartbeats 2000000

theorem walk (A : Option Addr) (n c : Nat) (l : List Int) (hn : n = l.length) (hw : ∀ x ∈ l, -9223372036854775808 ≤ x ∧ x ≤ 9223372036854775807) (hc : n ≤ c) (hm : c ≤ maxLen) (_hA : A = none → c = 0)
    (q : Int) (hq : -9223372036854775808 ≤ q ∧ q ≤ 9223372036854775807) (o : Int) (ho : -9223372036854775808 ≤ o ∧ o ≤ 9223372036854775807) (W : World) (hr : IRow W.heap.size W A l) :
    Calls Try.prog 12 #[.slice A n c, .int .i64 q, .int .i64 o] W fun e W' => e = .returned (.bool true) ∧ Below W.heap.size W W' := by
  have haw := Lib.hid (fun u => awake_any u)
  have HQ := Lib.hid (fun u => mod_any q 4 u hq.1 hq.2 (by omega) (by omega))
  have HO := Lib.hid (fun u => mod_any o 5 u ho.1 ho.2 (by omega) (by omega))
  have hmx : n ≤ 2 ^ 63 - 1 := Nat.le_trans hc hm
  have HL1 := Lib.hid (fun u => lightmade_any A n c u (by unfold maxLen at *; omega))
  clear hq ho
  by_cases h600 : n ≤ 600
  · rw [decide_eq_true h600] at HL1
    have HM := Lib.hid (made_p A n c l W hr hn hw (by omega))
    clear hr hn hw hmx
    go_enter Try.func12, Try.ntmps12
    go_wp2_with fail
    refine (HL1.out _).mono ?_
    rintro e w' ⟨rfl, hw'⟩
    rw [← hw']
    clear hw' w' HL1
    go_wp2_with fail
    refine HM.out.mono ?_
    rintro e w1 ⟨g, rv, v, S, L, rfl, h1⟩
    have ids := Lib.hid (ids_p h1.ra h1.ok)
    have H1 := Lib.hid h1
    obtain ⟨Av, nv, cv, rfl, hnv, -, -, -, -⟩ := h1.al.own.form
    have HNV := Lib.hid hnv
    clear h1 hnv HM
    go_wp2_with fail
    refine ids.out.mono ?_
    rintro e w2 ⟨vi, rfl, hi2, hb2⟩
    obtain ⟨Ai, ni, ci, rfl, hni, -, -⟩ := hi2.form
    have hni2 : ni = nv := by rw [hni, HNV.out, List.length_map]; exact H1.out.is.len
    subst hni2
    have hra2 := H1.out.ra.step hb2
    have HRES := Lib.hid (res_p hra2 H1.out.ok)
    have HI2 := Lib.hid hi2
    have HRA2 := Lib.hid hra2
    have hres : S.res.resv = 1 := by unfold Rp.res; rw [H1.out.is.resv]; rfl
    rw [hres] at HRES
    have hN1 : 1 ≤ ni ∧ ni ≤ 8 := by have h1 := HNV.out; have h2 := H1.out.pos; have h3 := H1.out.is.few; omega
    clear hra2 hi2 hb2 ids hni hres
    go_wp2_with fail
    refine HRES.out.mono ?_
    rintro e w3 ⟨rfl, h3, k3⟩
    have ok3 := H1.out.ok.res
    have hi3 := HI2.out.kp HRA2.out k3
    have hlen := H1.out.is.len
    have hp0 : plc S.res.recs 0 = some 0 := by unfold plc; rw [if_pos rfl, if_neg (by show S.recs.length ≠ 0; have := H1.out.pos; omega)]
    obtain ⟨r0, hr0, hm0, -⟩ := get_some hp0
    have HRD := Lib.hid (show Calls Try.prog 63 #[.pointer (some ⟨g, 0, none⟩), .int .u16 1, .int .u16 0, .int .i64 0, .int .i64 1] w3 _ from read_ok h3 ok3 1 0 0 0 1 (.inl rfl) hp0 r0 hr0 (by have := ok3.one r0 hm0; omega))
    have H3 := Lib.hid h3
    have HI3 := Lib.hid hi3
    have HOK3 := Lib.hid ok3
    have HLN := Lib.hid hlen
    have HIDS : Hid (S.recs.map (·.id) = (List.range ni).map (· + 1)) := Lib.hid (by rw [H1.out.is.ids, HNV.out])
    clear h3 k3 ok3 hi3 hlen hp0 hr0 hm0 HRES HRA2 HI2
    go_wp2_with fail
    refine HRD.out.mono ?_
    rintro e w4 ⟨A4, n4, c4, rfl, -, hb4⟩
    have H4 := Lib.hid (H3.out.step hb4)
    have HI4 := Lib.hid (HI3.out.step hb4)
    clear hb4 HRD H3 HI3
    go_wp2_with fail
    refine (HQ.out _).mono ?_
    rintro e w' ⟨⟨k, hk, rfl, -⟩, hw'⟩
    rw [← hw']
    clear hw' w' HQ
    have hll : (S.recs.map (·.id)).length = ni := by rw [List.length_map, HLN.out, ← HNV.out]
    obtain ⟨a4, rfl⟩ := HI4.out.some_ (by omega)
    have HID0 : Hid (∀ V, HOwn w1.heap.size V (.slice (some a4) ni ci) (S.recs.map (·.id)) → V.cell? a4 = some (.int .u16 1)) := Lib.hid fun V hV => hV.cell (k := 0) (x := 1) (by omega) (by simp [HIDS.out])
    have HIDN : Hid (∀ V, HOwn w1.heap.size V (.slice (some a4) ni ci) (S.recs.map (·.id)) → V.cell? (a4.add (ni - 1)) = some (.int .u16 (ni : Int))) := Lib.hid fun V hV => hV.cell (k := ni - 1) (x := ni) (by omega) (by simp [HIDS.out]; omega)
    clear hll
    have hal4 := H4.out.alloc (.cells #[.int .u8 9] 5)
    have hsl4 : Sl (w4.alloc (.cells #[.int .u8 9] 5)) (some ⟨w4.heap.size, 0, none⟩) 1 1 [9] := ⟨rfl, row_new w4 _ _ [9] rfl (by simp), Nat.le_refl _, by unfold maxLen; omega, fun e => by cases e⟩
    have hE : S.res.addE 1 = 0 := by
      have h1 := H1.out.is.small
      have h2 := H1.out.is.cap
      have h3 := HLN.out
      have h4 := H1.out.is.few
      unfold Rp.addE Rp.free
      show (if (1 : Nat) = 0 ∨ 160 < 1 then 1 else if 64 ≤ S.recs.length then 3 else if S.cap - sum S.recs < 1 then 9 else 0) = 0
      rw [if_neg (by omega), if_neg (by omega), if_neg (by omega)]
    have HADD := Lib.hid (add_p hal4 HOK3.out _ 1 1 [9] hsl4 (H4.out.off_new (Nat.le_refl _) [9]) hE)
    have HI4A := Lib.hid (HI4.out.step ((Below.refl w4.heap.size w4).alloc (Nat.le_refl _) (.cells #[.int .u8 9] 5)))
    have HAL4 := Lib.hid hal4
    have hvd : S.res.valid 1 = true := by unfold Rp.valid Rp.res; rw [H1.out.is.resv]; rfl
    have hdl : S.res.delE 1 ni = 0 := by
      unfold Rp.delE
      rw [if_neg (by rw [hvd]; decide), if_pos]
      refine has_iff.2 ?_
      have : ni ∈ S.recs.map (·.id) := by rw [HIDS.out]; exact List.mem_map.2 ⟨ni - 1, List.mem_range.2 (by omega), by omega⟩
      obtain ⟨r, hr, he⟩ := List.mem_map.1 this
      exact ⟨r, hr, he⟩
    have HDEL := Lib.hid (del_p H4.out HOK3.out 1 ni hdl)
    have HCLR := Lib.hid (clr_p H4.out 1 hvd)
    have HRES := Lib.hid (res_p H4.out HOK3.out)
    have hr2 : S.res.res.resv = 2 := by unfold Rp.res; rw [H1.out.is.resv]; rfl
    rw [hr2] at HRES
    have HR2 := Lib.hid hr2
    have hcn := HIDN.out _ HI4.out
    clear hal4 hsl4 hE hvd hdl hr2
    have hni0 : 0 < ni := by omega
    rcases (show k = 0 ∨ k = 1 ∨ k = 2 ∨ k = 3 by omega) with rfl | rfl | rfl | rfl
    · clear hcn
      go_wp2_with fail
      refine HADD.out.mono ?_
      rintro e w5 ⟨rv5, x, y, rfl, h5, k5, -⟩
      have HI5 := Lib.hid (HI4A.out.kp HAL4.out k5)
      have HV5 : Hid ((S.res.add x y [9]).valid 1 = false) := Lib.hid rfl
      have H5 := Lib.hid h5
      clear h5 k5
      generalize fid S.res.recs S.res.last = I at *
      generalize S.res.add x y [9] = S5 at *
      clear HADD HDEL HCLR HRES
      have HRD5 := Lib.hid fun V (hV : Below w5.heap.size w5 V) (z : Nat) (hz : z < 5) => (show Calls Try.prog 63 #[.pointer (some ⟨g, 0, none⟩), .int .u16 1, .int .u16 1, .int .i64 (1 + (z : Int)), .int .i64 0] V _ from read_r (H5.out.step hV) 1 1 (1 + (z : Int)) 0 (by omega) (by omega) (by omega) HV5.out)
      have HDL5 := Lib.hid fun V (hV : Below w5.heap.size w5 V) => (show Calls Try.prog 65 #[.pointer (some ⟨g, 0, none⟩), .int .u16 1, .int .u16 1] V fun e w' => e = .returned (.int .i64 11) ∧ Below V.heap.size V w' from by
        have h := del_no (H5.out.step hV) 1 1 (by unfold Rp.delE; rw [if_pos HV5.out]; decide)
        unfold Rp.delE at h
        rw [if_pos HV5.out] at h
        exact h)
      have hc5 := HID0.out _ HI5.out
      have hdr : Below w5.heap.size w5 w5.drew := ⟨rfl, rfl, rfl, Nat.le_refl _, fun _ _ => rfl⟩
      go_wp2_with fail
      go_region_law (first
        | (go_simp; go_at_call 18; go_loud (refine (HO.out _).mono ?_); go_loud (rintro e w' ⟨⟨z, hz, rfl, -⟩, rfl⟩); have hzw := IntWalk.i64_in (1 + (z : Int)) ⟨by omega, by omega⟩)
        | (go_simp; go_at_call 63; go_loud (refine (HRD5.out _ hdr z hz).mono ?_); go_loud (rintro e w6 ⟨A6, n6, c6, rfl, ho6, hb6⟩)))
      all_goals
        have hn6 : n6 = 0 := by
          obtain ⟨A', c', hv, -⟩ := ho6.form
          injection hv with e1 e2
        subst hn6
        have hb56 := hdr.trans (hb6.mono hdr.size)
        have hc6 := HID0.out _ (HI5.out.step hb56)
        clear ho6 hb6 hc5
        go_wp2_with fail
        refine (HDL5.out _ hb56).mono ?_
        rintro e w7 ⟨rfl, hb7⟩
        go_wp2_with fail
        refine (haw.out _).mono ?_
        rintro e w8 ⟨rfl, hb8⟩
        go_wp2_with fail
        go_ret
        exact ⟨rfl, H5.out.bel.trans ((hb56.trans ((hb7.trans (hb8.mono hb7.size)).mono hb56.size)).mono H5.out.base)⟩
    · go_wp2_with fail
      refine HDEL.out.mono ?_
      rintro e w5 ⟨rv5, rfl, h5, k5⟩
      have HI5 := Lib.hid (HI4.out.kp H4.out k5)
      have HV5 : Hid ((S.res.gone (S.res.recs.findIdx fun r => decide (r.id = ni))).valid 1 = false) := Lib.hid rfl
      have H5 := Lib.hid h5
      clear h5 k5 hcn
      generalize S.res.gone (S.res.recs.findIdx fun r => decide (r.id = ni)) = S5 at *
      clear HADD HDEL HCLR HRES
      have HRD5 := Lib.hid fun V (hV : Below w5.heap.size w5 V) (z : Nat) (hz : z < 5) => (show Calls Try.prog 63 #[.pointer (some ⟨g, 0, none⟩), .int .u16 1, .int .u16 1, .int .i64 (1 + (z : Int)), .int .i64 0] V _ from read_r (H5.out.step hV) 1 1 (1 + (z : Int)) 0 (by omega) (by omega) (by omega) HV5.out)
      have HDL5 := Lib.hid fun V (hV : Below w5.heap.size w5 V) => (show Calls Try.prog 65 #[.pointer (some ⟨g, 0, none⟩), .int .u16 1, .int .u16 1] V fun e w' => e = .returned (.int .i64 11) ∧ Below V.heap.size V w' from by
        have h := del_no (H5.out.step hV) 1 1 (by unfold Rp.delE; rw [if_pos HV5.out]; decide)
        unfold Rp.delE at h
        rw [if_pos HV5.out] at h
        exact h)
      have hc5 := HID0.out _ HI5.out
      have hdr : Below w5.heap.size w5 w5.drew := ⟨rfl, rfl, rfl, Nat.le_refl _, fun _ _ => rfl⟩
      go_wp2_with fail
      go_region_law (first
        | (go_simp; go_at_call 18; go_loud (refine (HO.out _).mono ?_); go_loud (rintro e w' ⟨⟨z, hz, rfl, -⟩, rfl⟩); have hzw := IntWalk.i64_in (1 + (z : Int)) ⟨by omega, by omega⟩)
        | (go_simp; go_at_call 63; go_loud (refine (HRD5.out _ hdr z hz).mono ?_); go_loud (rintro e w6 ⟨A6, n6, c6, rfl, ho6, hb6⟩)))
      all_goals
        have hn6 : n6 = 0 := by
          obtain ⟨A', c', hv, -⟩ := ho6.form
          injection hv with e1 e2
        subst hn6
        have hb56 := hdr.trans (hb6.mono hdr.size)
        have hc6 := HID0.out _ (HI5.out.step hb56)
        clear ho6 hb6 hc5
        go_wp2_with fail
        refine (HDL5.out _ hb56).mono ?_
        rintro e w7 ⟨rfl, hb7⟩
        go_wp2_with fail
        refine (haw.out _).mono ?_
        rintro e w8 ⟨rfl, hb8⟩
        go_wp2_with fail
        go_ret
        exact ⟨rfl, H5.out.bel.trans ((hb56.trans ((hb7.trans (hb8.mono hb7.size)).mono hb56.size)).mono H5.out.base)⟩
    · clear hcn
      go_wp2_with fail
      refine HCLR.out.mono ?_
      rintro e w5 ⟨rfl, h5, k5⟩
      have HI5 := Lib.hid (HI4.out.kp H4.out k5)
      have HV5 : Hid (S.res.clr.valid 1 = false) := Lib.hid rfl
      have H5 := Lib.hid h5
      clear h5 k5
      generalize S.res.clr = S5 at *
      clear HADD HDEL HCLR HRES
      have HRD5 := Lib.hid fun V (hV : Below w5.heap.size w5 V) (z : Nat) (hz : z < 5) => (show Calls Try.prog 63 #[.pointer (some ⟨g, 0, none⟩), .int .u16 1, .int .u16 1, .int .i64 (1 + (z : Int)), .int .i64 0] V _ from read_r (H5.out.step hV) 1 1 (1 + (z : Int)) 0 (by omega) (by omega) (by omega) HV5.out)
      have HDL5 := Lib.hid fun V (hV : Below w5.heap.size w5 V) => (show Calls Try.prog 65 #[.pointer (some ⟨g, 0, none⟩), .int .u16 1, .int .u16 1] V fun e w' => e = .returned (.int .i64 11) ∧ Below V.heap.size V w' from by
        have h := del_no (H5.out.step hV) 1 1 (by unfold Rp.delE; rw [if_pos HV5.out]; decide)
        unfold Rp.delE at h
        rw [if_pos HV5.out] at h
        exact h)
      have hc5 := HID0.out _ HI5.out
      have hdr : Below w5.heap.size w5 w5.drew := ⟨rfl, rfl, rfl, Nat.le_refl _, fun _ _ => rfl⟩
      go_wp2_with fail
      go_region_law (first
        | (go_simp; go_at_call 18; go_loud (refine (HO.out _).mono ?_); go_loud (rintro e w' ⟨⟨z, hz, rfl, -⟩, rfl⟩); have hzw := IntWalk.i64_in (1 + (z : Int)) ⟨by omega, by omega⟩)
        | (go_simp; go_at_call 63; go_loud (refine (HRD5.out _ hdr z hz).mono ?_); go_loud (rintro e w6 ⟨A6, n6, c6, rfl, ho6, hb6⟩)))
      all_goals
        have hn6 : n6 = 0 := by
          obtain ⟨A', c', hv, -⟩ := ho6.form
          injection hv with e1 e2
        subst hn6
        have hb56 := hdr.trans (hb6.mono hdr.size)
        have hc6 := HID0.out _ (HI5.out.step hb56)
        clear ho6 hb6 hc5
        go_wp2_with fail
        refine (HDL5.out _ hb56).mono ?_
        rintro e w7 ⟨rfl, hb7⟩
        go_wp2_with fail
        refine (haw.out _).mono ?_
        rintro e w8 ⟨rfl, hb8⟩
        go_wp2_with fail
        go_ret
        exact ⟨rfl, H5.out.bel.trans ((hb56.trans ((hb7.trans (hb8.mono hb7.size)).mono hb56.size)).mono H5.out.base)⟩
    · clear hcn
      go_wp2_with fail
      refine HRES.out.mono ?_
      rintro e w5 ⟨rfl, h5, k5⟩
      have HI5 := Lib.hid (HI4.out.kp H4.out k5)
      have HV5 : Hid (S.res.res.valid 1 = false) := Lib.hid (by unfold Rp.valid; rw [HR2.out]; simp)
      have H5 := Lib.hid h5
      clear h5 k5
      generalize S.res.res = S5 at *
      clear HADD HDEL HCLR HRES
      have HRD5 := Lib.hid fun V (hV : Below w5.heap.size w5 V) (z : Nat) (hz : z < 5) => (show Calls Try.prog 63 #[.pointer (some ⟨g, 0, none⟩), .int .u16 1, .int .u16 1, .int .i64 (1 + (z : Int)), .int .i64 0] V _ from read_r (H5.out.step hV) 1 1 (1 + (z : Int)) 0 (by omega) (by omega) (by omega) HV5.out)
      have HDL5 := Lib.hid fun V (hV : Below w5.heap.size w5 V) => (show Calls Try.prog 65 #[.pointer (some ⟨g, 0, none⟩), .int .u16 1, .int .u16 1] V fun e w' => e = .returned (.int .i64 11) ∧ Below V.heap.size V w' from by
        have h := del_no (H5.out.step hV) 1 1 (by unfold Rp.delE; rw [if_pos HV5.out]; decide)
        unfold Rp.delE at h
        rw [if_pos HV5.out] at h
        exact h)
      have hc5 := HID0.out _ HI5.out
      have hdr : Below w5.heap.size w5 w5.drew := ⟨rfl, rfl, rfl, Nat.le_refl _, fun _ _ => rfl⟩
      go_wp2_with fail
      go_region_law (first
        | (go_simp; go_at_call 18; go_loud (refine (HO.out _).mono ?_); go_loud (rintro e w' ⟨⟨z, hz, rfl, -⟩, rfl⟩); have hzw := IntWalk.i64_in (1 + (z : Int)) ⟨by omega, by omega⟩)
        | (go_simp; go_at_call 63; go_loud (refine (HRD5.out _ hdr z hz).mono ?_); go_loud (rintro e w6 ⟨A6, n6, c6, rfl, ho6, hb6⟩)))
      all_goals
        have hn6 : n6 = 0 := by
          obtain ⟨A', c', hv, -⟩ := ho6.form
          injection hv with e1 e2
        subst hn6
        have hb56 := hdr.trans (hb6.mono hdr.size)
        have hc6 := HID0.out _ (HI5.out.step hb56)
        clear ho6 hb6 hc5
        go_wp2_with fail
        refine (HDL5.out _ hb56).mono ?_
        rintro e w7 ⟨rfl, hb7⟩
        go_wp2_with fail
        refine (haw.out _).mono ?_
        rintro e w8 ⟨rfl, hb8⟩
        go_wp2_with fail
        go_ret
        exact ⟨rfl, H5.out.bel.trans ((hb56.trans ((hb7.trans (hb8.mono hb7.size)).mono hb56.size)).mono H5.out.base)⟩
  · rw [decide_eq_false h600] at HL1
    clear hr hn hw
    go_enter Try.func12, Try.ntmps12
    go_wp2_with fail
    refine (HL1.out _).mono ?_
    rintro e w' ⟨rfl, hw'⟩
    rw [← hw']
    clear hw' w' HL1
    go_wp2_with fail
    refine (haw.out _).mono ?_
    rintro e w2 ⟨rfl, hb⟩
    go_wp2_with fail
    go_ret
    exact ⟨rfl, hb⟩

theorem cells_u8 : Try.prog.cellsOf 5 = 1 := by kernel_rfl
theorem cells_int : Try.prog.cellsOf 3 = 1 := by kernel_rfl
theorem own : ownKnob Try.prog.godebug = none := by kernel_rfl
theorem laidOut : laidOutB Try.prog = true := by kernel_rfl
theorem contract (H : Type) (enc : TypeId × Value → H) (W : World) (base : Nat) (args : Array Value) (ds gs : List (DataW H)) (before : List MemPlace)
    (hval : ∀ (j : Nat) t v, Try.f12.params[j]? = some t → args[j]? = some v → Value.okWide Try.prog W .any base t v)
    (hW : DataW.Whole enc Try.prog Try.f12.params.toList Rows.repositoryTearsSpec.vars false W args.toList ds gs before) :
    Calls Try.prog 12 args W fun e W' => ∃ v, e = .returned v ∧ Rows.repositoryTearsSpec.post enc Try.prog Try.f12 false true false false W args v W' := by
  have hW' := hW
  obtain ⟨p, q, hA0, hV, rfl, hfz, hnd⟩ := hW
  have hA : DataW.TrodAll enc Try.prog W 0 (fun _ => true) true Try.f12.params.toList args.toList ds p := hA0
  rw [Try.params12] at hA hval
  obtain ⟨v0, vs0, d0, ds0, p0, q0, hargs, rfl, rfl, h0, r0⟩ := trodAll_cons hA
  obtain ⟨v1, vs1, d1, ds1, p1, q1, rfl, rfl, rfl, h1, r1⟩ := trodAll_cons r0
  obtain ⟨v2, vs2, d2, ds2, p2, q2, rfl, rfl, rfl, h2, r2⟩ := trodAll_cons r1
  obtain ⟨rfl, rfl, rfl⟩ := trodAll_nil r2
  obtain rfl : args = #[v0, v1, v2] := by cases args; simp_all
  obtain ⟨A0, n0, c0, l0, rfl, hn0, hr0, hw0, hc0, hm0, hk0⟩ := open_int_list Try.underlying22 Try.underlying3 cells_int (hval 0 22 v0 rfl rfl) h0
  obtain ⟨a1, rfl, -, -, w1⟩ := open_int Try.underlying3 (hval 1 3 v1 rfl rfl) h1
  obtain ⟨a2, rfl, -, -, w2⟩ := open_int Try.underlying3 (hval 2 3 v2 rfl rfl) h2
  clear hA0
  refine (walk A0 n0 c0 l0 hn0 hw0 hc0 hm0 hk0 a1 (bounds_i64 w1) a2 (bounds_i64 w2) W hr0).mono fun e W' ⟨he, hb⟩ => ?_
  subst he
  exact ⟨_, rfl, law_post laidOut (types_fit (by kernel_rfl)) (by kernel_rfl) Try.underlying4 rfl (fun xs hx => by
    match xs, hx with
    | [_, _, _], _ => rfl) hW' hb⟩

theorem lifted (os : Os) (started : os.Started) (H : Type) (enc : TypeId × Value → H) :
    ReturnsInHanded {} Try.checked os 12 .any (Rows.repositoryTearsSpec.pre6 enc Try.prog Try.f12 Rows.repositoryTearsRow.domain false) (Rows.repositoryTearsSpec.post enc Try.prog Try.f12 false true false false) := by
  refine returnsInHanded_of_change (C := Try.checked) own started (by kernel_rfl) Try.func12
    (ChangeSpec.witness6 (enc := enc) (C := Try.checked) false ⟨#[], #[.slice none 0 0, .int .i64 0, .int .i64 0], []⟩ 8 (by kernel_rfl) (by kernel_rfl) (by kernel_rfl) (by kernel_rfl)) ?_
  intro W base args ds gs before hval hW _ _
  exact contract H enc W base args ds gs before hval hW

theorem proved : Rows.RepositoryTearsSaid :=
  OpenClaim.holds_of_wide 12 Try.f12 rfl rfl rfl rfl rfl rfl rfl ⟨rfl, rfl, rfl, rfl, rfl⟩ rfl rfl rfl rfl rfl (by kernel_rfl) Try.func12 (by kernel_rfl)
    (of_decide_eq_true (by kernel_rfl)) (by unfold Func.isWrapper; first | (rw [if_pos (by decide +kernel)]; kernel_rfl) | (rw [if_neg (by decide +kernel)]; exact ⟨rfl, rfl⟩))
    (fun os started H enc _ => lifted os started H enc)
end Go.Proofs.Ytcjmpogjickplaa.repositoryTears
