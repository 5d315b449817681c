/- The statement RepositoryWalks: going from the first record along next visits all records in their order, and IDs are different; for all numbers. -/
import Derived.Test.YtcjmpogjickplaaRm
import Derived.Test.YtcjmpogjickplaaLaw
namespace Go.Proofs.Ytcjmpogjickplaa.repositoryWalks
open Go.RowKit Go.ChangeShapes Go.WideShapes Go.ChangeAt Go.Proofs.Ytcjmpogjickplaa.Mem Go.Proofs.Ytcjmpogjickplaa.Law Go.Proofs.Ytcjmpogjickplaa.Made Go.Proofs.Ytcjmpogjickplaa.R11
set_option maxRecDepth 100000
set_option maxHeartbeats 4000000

theorem dis_find {S : Rp} (ok : S.Ok) {k : Nat} (hk : k < S.recs.length) : S.recs.findIdx (fun r => decide (r.id = S.recs[k].id)) = k := by
  rw [List.findIdx_eq hk]
  refine ⟨by simp, fun j hj => ?_⟩
  have hd := ok.dis
  rw [List.nodup_iff_pairwise_ne, List.pairwise_iff_getElem] at hd
  have := hd j k (by simpa using Nat.lt_trans hj hk) (by simpa using hk) hj
  simpa using this
theorem dis_ne {S : Rp} (ok : S.Ok) {j k : Nat} (hj : j < k) (hk : k < S.recs.length) : S.recs[j].id ≠ S.recs[k].id := by
  have hd := ok.dis
  rw [List.nodup_iff_pairwise_ne, List.pairwise_iff_getElem] at hd
  have := hd j k (by simpa using Nat.lt_trans hj hk) (by simpa using hk) hj
  simpa using this
theorem plc_id {S : Rp} (ok : S.Ok) {k : Nat} (hk : k < S.recs.length) : plc S.recs S.recs[k].id = some k := by
  unfold plc
  rw [if_neg (by have := (ok.rng _ (List.getElem_mem hk)).1; omega), if_pos (has_iff.2 ⟨_, List.getElem_mem hk, rfl⟩), dis_find ok hk]
/-- The ID at which the walk stands before record i. -/
def atId (l : List Rk) (i : Nat) : Nat := if i = 0 then 0 else nid l (i - 1)
theorem atId_plc {S : Rp} (ok : S.Ok) {i : Nat} (hi : i < S.recs.length) : plc S.recs (atId S.recs i) = some i := by
  unfold atId
  by_cases h0 : i = 0
  · subst h0
    rw [if_pos rfl]
    unfold plc
    rw [if_pos rfl, if_neg (by omega)]
  · rw [if_neg h0]
    have h1 : i - 1 + 1 < S.recs.length := by omega
    rw [nid_more h1]
    have h2 := plc_id ok hi
    have h3 : i - 1 + 1 = i := by omega
    simp only [h3]
    exact h2
theorem atId_succ (l : List Rk) (i : Nat) : atId l (i + 1) = nid l i := by unfold atId; rw [if_neg (by omega)]; rfl
theorem map_erase {α β : Type} (f : α → β) (l : List α) (k : Nat) : (l.eraseIdx k).map f = (l.map f).eraseIdx k := by
  rw [List.eraseIdx_eq_take_drop_succ, List.eraseIdx_eq_take_drop_succ, List.map_append, List.map_take, List.map_drop]
/-- The repository holds the bytes L. -/
structure MW (S : Rp) (L : List Bk) : Prop where
  ok : S.Ok
  bs : S.recs.map (·.b) = L.map (·.b)
  few : L.length ≤ 8
theorem MW.len {S : Rp} {L : List Bk} (h : MW S L) : S.recs.length = L.length := by
  have := congrArg List.length h.bs
  simpa using this
theorem MW.gone {S : Rp} {L : List Bk} (h : MW S L) (k : Nat) : MW (S.res.gone k) (L.eraseIdx k) :=
  ⟨h.ok.res.gone k, by
    show (S.recs.eraseIdx k).map (fun r : Rk => r.b) = _
    rw [map_erase, map_erase, h.bs], Nat.le_trans (List.eraseIdx_sublist _ _).length_le h.few⟩
theorem MW.b {S : Rp} {L : List Bk} (h : MW S L) {k : Nat} (h1 : k < S.recs.length) (h2 : k < L.length) : S.recs[k].b = L[k].b := by
  have h3 : (S.recs.map (·.b))[k]? = (L.map (·.b))[k]? := by rw [h.bs]
  rw [List.getElem?_map, List.getElem?_map, List.getElem?_eq_getElem h1, List.getElem?_eq_getElem h2] at h3
  exact Option.some.inj h3
theorem walk (A : Option Addr) (n c : Nat) (l : List Int) (hn : n = l.length) (hw : ∀ x ∈ l, -9223372036854775808 ≤ x ∧ x ≤ 9223372036854775807) (hc : n ≤ c) (hm : c ≤ maxLen) (_hA : A = none → c = 0)
    (G : Option Addr) (ng cg : Nat) (lg : List Int) (hng : ng = lg.length) (hwg : ∀ x ∈ lg, -9223372036854775808 ≤ x ∧ x ≤ 9223372036854775807) (hcg : ng ≤ cg) (hmg : cg ≤ maxLen) (_hG : G = none → cg = 0)
    (W : World) (hr : IRow W.heap.size W A l) (hrg : IRow W.heap.size W G lg) :
    Calls Try.prog 13 #[.slice A n c, .slice G ng cg] W fun e W' => e = .returned (.bool true) ∧ Below W.heap.size W W' := by
  have haw := Lib.hid (fun u => awake_any u)
  have hmx : n ≤ 2 ^ 63 - 1 := Nat.le_trans hc hm
  have hmg2 : ng ≤ 2 ^ 63 - 1 := Nat.le_trans hcg hmg
  have HL1 := Lib.hid (fun u => lightmade_any A n c u (by unfold maxLen at *; omega))
  have HRG := Lib.hid hrg
  have HNG := Lib.hid hng
  have HWG := Lib.hid hwg
  clear hrg hng hwg hcg hmg
  by_cases h600 : n ≤ 600
  · rw [decide_eq_true h600] at HL1
    have HM := Lib.hid (made_p A n c l W hr hn hw (by omega))
    clear hr hn hw hmx
    by_cases h10 : ng ≤ 10
    · go_enter Try.func13, Try.ntmps13
      go_wp2_with fail
      refine (HL1.out _).mono ?_
      rintro e w' ⟨rfl, hw'⟩
      rw [← hw']
      clear hw' w' HL1
      go_wp2_with fail
      refine HM.out.mono ?_
      rintro e w1 ⟨g, rv, v, S, L, rfl, h1⟩
      have H1 := Lib.hid h1
      clear h1 HM
      go_wp2_with fail
      have hxx := HWG.out
      obtain ⟨iB, hiB, hzB, hyB, hbB⟩ := info_parts infoB
      have hMW : MW S L := ⟨H1.out.ok, H1.out.is.bs, H1.out.is.few⟩
      go_loopw [6, 8] (fun va iv wr => ∃ (j : Nat) (rv : Value) (S : Rp) (L : List Bk), j ≤ ng ∧ iv = .int .i64 (j : Int) ∧ RA W.heap.size W wr g rv S ∧ AL W.heap.size wr va L ∧ MW S L) (fun _ iv _ => ng - (intOf iv).toNat)
      case atStart => exact ⟨0, rv, S, L, Nat.zero_le _, rfl, H1.out.ra, H1.out.al, hMW⟩
      case round =>
        clear H1 hMW
        obtain ⟨j, rv, S, L, hj, rfl, hra, hal, hmw⟩ := hrel
        obtain ⟨Av, nv, cv, rfl, hnv, hnc, hcm, -, -⟩ := hal.own.form
        have hlen := hmw.len
        have hfew : nv ≤ 8 := by rw [hnv]; exact hmw.few
        have hcm' : cv ≤ 2 ^ 63 - 1 := hcm
        have HRA := Lib.hid hra
        have HAL := Lib.hid hal
        have HMW := Lib.hid hmw
        have HNV := Lib.hid hnv
        have HLEN := Lib.hid hlen
        clear hra hal hmw hnv hlen hcm
        by_cases hlt : j < ng ∧ 0 < nv
        · obtain ⟨hlt, hnv0⟩ := hlt
          have hjl : j < lg.length := by rw [← HNG.out]; exact hlt
          obtain ⟨a, rfl, hab, hcell⟩ := irow_at (Rd.below HRG.out HRA.out.bel) hjl
          obtain ⟨hx1, hx2⟩ := hxx _ (List.getElem_mem hjl)
          have hj0 : (0 : Int) ≤ (j : Int) := by omega
          have hj1 : (j : Int) < (ng : Int) := by omega
          have hnvi : (0 : Int) < (nv : Int) := by omega
          generalize lg[j] = x at *
          have HM1 := Lib.hid (fun u => mod_any x nv u hx1 hx2 (by omega) (by omega))
          have HIDS := Lib.hid (ids_p HRA.out HMW.out.ok)
          obtain ⟨av, rfl⟩ := HAL.out.some_ (by rw [← HNV.out]; exact hnv0)
          clear hxx hab hjl
          go_wp2_with fail
          refine (HM1.out _).mono ?_
          rintro e w' ⟨⟨k, hk, rfl, -⟩, hw'⟩
          rw [← hw']
          clear hw' w' HM1
          go_wp2_with fail
          refine HIDS.out.mono ?_
          rintro e w2 ⟨vi, rfl, hi2, hb2⟩
          obtain ⟨Ai, ni, ci, rfl, hni, -, -⟩ := hi2.form
          have hni2 : ni = nv := by rw [hni, List.length_map, HLEN.out, ← HNV.out]
          subst hni2
          have hkR : k < S.recs.length := by rw [HLEN.out, ← HNV.out]; exact hk
          obtain ⟨ai, rfl⟩ := hi2.some_ (by rw [List.length_map]; omega)
          have hra2 := HRA.out.step hb2
          have hal2 := HAL.out.step hb2
          have hdr : Below w2.heap.size w2 w2.drew := ⟨rfl, rfl, rfl, Nat.le_refl _, fun _ _ => rfl⟩
          have HID : Hid (∀ V, HOwn wr.heap.size V (.slice (some ai) ni ci) (S.recs.map (·.id)) → V.cell? (ai.add k) = some (.int .u16 (S.recs[k].id : Int))) := Lib.hid fun V hV => hV.cell (k := k) (x := S.recs[k].id) (by rw [List.length_map]; exact hkR) (by simp)
          have hfi := dis_find HMW.out.ok hkR
          have hdl : S.res.delE S.res.resv S.recs[k].id = 0 := by
            unfold Rp.delE
            rw [if_neg (by unfold Rp.valid; simp [Rp.res])]
            exact if_pos (has_iff.2 ⟨_, List.getElem_mem hkR, rfl⟩)
          have HDEL := Lib.hid fun V rvx (hV : RA W.heap.size W V g rvx S.res) => (show Calls Try.prog 65 #[.pointer (some ⟨g, 0, none⟩), .int .u16 (S.res.resv : Int), .int .u16 (S.recs[k].id : Int)] V fun e w' => ∃ rv', e = .returned (.int .i64 0) ∧ RA W.heap.size W w' g rv' (S.res.gone k) ∧ Kp g rvx rv' V w' from by
            have h := del_p hV HMW.out.ok.res S.res.resv S.recs[k].id hdl
            have e : (S.res.recs.findIdx fun r => decide (r.id = S.recs[k].id)) = k := hfi
            rw [e] at h
            exact h)
          have HRES := Lib.hid fun V (hV : RA W.heap.size W V g rv S) => res_p hV HMW.out.ok
          have hcI := HID.out _ (hi2.step hdr)
          have HRA2 := Lib.hid (hra2.step hdr)
          have HAL2 := Lib.hid (hal2.step hdr)
          have HI2 := Lib.hid (hi2.step hdr)
          have m1 : ((ni : Int) != (ni : Int)) = false := by simp
          have mk0 : (0 : Int) ≤ (k : Int) := by omega
          have mk1 : (k : Int) < (ni : Int) := by omega
          clear hra2 hal2 hi2 hb2 hfi hdl hni hdr HIDS HRA HAL
          generalize hX : S.recs[k].id = X at *
          clear hX
          go_wp2_with fail
          have h2 := HRA2.out
          have hal2 := HAL2.out
          have hi2 := HI2.out
          go_region_held3 (fun V => V.cell? (ai.add k) = some (.int .u16 (X : Int))) (first | exact HID.out _ hi4 | exact HID.out _ hi3 | exact HID.out _ hi2)
            (first
              | (go_at_call 60; refine (HRES.out _ h2).mono ?_; rintro e w3 ⟨rfl, h3, k3⟩; have hal3 := hal2.kp h2 k3; have hi3 := hi2.kp h2 k3)
              | (go_at_call 65; refine (HDEL.out _ _ h3).mono ?_; rintro e w4 ⟨rv4, rfl, h4, k4⟩; have hal4 := hal3.kp h3 k4; have hi4 := hi3.kp h3 k4))
          have HA4 := Lib.hid h4
          have HAL4 := Lib.hid hal4
          have HMW4 := Lib.hid (HMW.out.gone k)
          have hrow : Rd w4.heap.size w4 (some av) (bkvs L) := by
            obtain ⟨A', n', c', hv, -, -, -, hr, -⟩ := hal4.own.form
            injection hv with e1
            rw [e1]
            exact hr
          have hbl : (bkvs L).length = ni := by unfold bkvs; rw [List.length_map, ← HNV.out]
          have HR1 : Hid (Rd w4.heap.size w4 (some av) (bkvs (L.take k))) := Lib.hid (by have h := Rd.take hrow k; unfold bkvs at h ⊢; rw [List.map_take]; exact h)
          have HR2 : Hid (∀ V, Below w4.heap.size w4 V → Rd w4.heap.size V (if cv = k + 1 then some av else some (av.add (k + 1))) (bkvs (L.drop (k + 1)))) := Lib.hid fun V hV => by
            have h := Rd.cut (hrow.below hV) (n := k + 1) (cap := cv) (by rw [hbl]; omega) (by rw [hbl]; omega)
            unfold bkvs at h ⊢
            rw [List.map_drop]
            exact h
          have hl1 : (bkvs (L.take k)).length = k := by unfold bkvs; rw [List.length_map, List.length_take, ← HNV.out]; omega
          have hl2 : (bkvs (L.drop (k + 1))).length = ni - (k + 1) := by unfold bkvs; rw [List.length_map, List.length_drop, ← HNV.out]
          have hbase4 : W.heap.size ≤ w4.heap.size := h4.base
          have hkc : k ≤ cv := by omega
          obtain ⟨J, hJ⟩ : ∃ J, J = k + 1 := ⟨_, rfl⟩
          rw [← hJ] at HR2 hl2
          have hwk : IntKind.i64.wrap ((k : Int) + 1) = (J : Int) := by rw [IntWalk.i64_in _ ⟨by omega, by omega⟩]; omega
          have hJn : J ≤ ni := by omega
          have hJi : (J : Int) ≤ (ni : Int) := by omega
          have HJ := Lib.hid hJ
          have hkJ : k ≤ J := by omega
          clear h2 hal2 hi2 h3 k3 hal3 hi3 h4 k4 hal4 hi4 hrow hbl HRES HDEL HID HRA2 HAL2 HI2 HMW hcI hJ
          go_wp2_with fail
          go_region_law (first
            | ((fail_if_success (have hh := hb5)); go_loud (refine step_append_rd _ rfl (.const (.slice none 0 0)) (.tmp 76) 83 rfl w4.heap.size 74 iB _ 24 Try.underlying83 hiB hzB hyB hbB rfl (.slice none 0 0) 0 [] rfl ⟨by simp, .inl ⟨rfl, rfl⟩⟩ _ (some av) k cv (bkvs (L.take k)) (by first | (go_simp; done) | (simp [Act.eval, Act.put]; done) | rfl) hl1 (by exact HR1.out) (fun hh => by cases hh) (bkvs_one _) (by unfold maxLen; omega) (by omega) (Nat.le_refl _) ?_); go_loud (intro v5 w5 ho5 hg5); go_loud (have hb5 : Below w4.heap.size w4 w5 := ⟨hg5.os, hg5.tape, hg5.output, hg5.size, fun i hi => hg5.block i hi (by simp [Value.ownBlock])⟩))
            | ((have hh := hb5); clear hh; go_loud (refine step_append_rd _ rfl (.tmp 77) (.tmp 81) 83 rfl w4.heap.size 74 iB _ 24 Try.underlying83 hiB hzB hyB hbB rfl v5 (0 + k) ([] ++ bkvs (L.take k)) (by first | (go_simp; done) | (simp [Act.eval, Act.put]; done) | rfl) ho5 _ (if cv = J then some av else some (av.add J)) (ni - J) (cv - J) (bkvs (L.drop J)) (by first | (go_simp; done) | (simp [Act.eval, Act.put]; done) | rfl) hl2 (by exact HR2.out _ hb5) (fun hh => by split at hh <;> cases hh) (bkvs_one _) (by unfold maxLen; omega) (by omega) (by exact hb5.size) ?_); go_loud (intro v6 w6 ho6 hg6)))
          have hb46 : Below w4.heap.size w4 w6 := below_grown hb5 ho5 hg6 hb5.size
          have her : L.eraseIdx k = L.take k ++ L.drop J := by rw [List.eraseIdx_eq_take_drop_succ, HJ.out]
          have hown6 : AOwn W.heap.size w6 v6 (L.eraseIdx k) := by
            have h := own_base ho6 hbase4
            have e1 : (L.eraseIdx k).length = 0 + k + (ni - J) := by
              rw [her, List.length_append, List.length_take, List.length_drop, ← HNV.out]
              omega
            have e2 : bkvs (L.eraseIdx k) = [] ++ bkvs (L.take k) ++ bkvs (L.drop J) := by
              rw [her]
              unfold bkvs
              rw [List.map_append, List.nil_append]
            unfold AOwn
            rw [e1, e2]
            exact h
          have hAL6 : AL W.heap.size w6 v6 (L.eraseIdx k) := ⟨hown6, fun x hx => row_step (HAL4.out.rows x ((List.eraseIdx_sublist _ _).subset hx)) hb46⟩
          have hRA6 := HA4.out.step hb46
          have HFIN := Lib.hid (And.intro hRA6 (And.intro hAL6 HMW4.out))
          clear hb46 her hown6 hAL6 hRA6 ho5 hg5 ho6 hg6 hb5 HA4 HAL4 HMW4
          go_wp2_with fail
          first
            | exact ⟨⟨j + 1, _, _, _, by omega, by go_num, HFIN.out.1, HFIN.out.2.1, HFIN.out.2.2⟩, by simp [intOf]; omega⟩
            | (go_goals; fail)
        · have HIDS := Lib.hid (ids_p HRA.out HMW.out.ok)
          rcases (show (j < ng ∧ ¬ 0 < nv) ∨ ¬ j < ng by omega) with ⟨hlj, hn0⟩ | hgj
          all_goals
            (first
              | (have hj1 : (j : Int) < (ng : Int) := by omega
                 have hj2 : ¬ (0 : Int) < (nv : Int) := by omega)
              | have hj1 : ¬ (j : Int) < (ng : Int) := by omega)
            go_wp2_with fail
            refine HIDS.out.mono ?_
            rintro e w2 ⟨vi, rfl, hi2, hb2⟩
            obtain ⟨Ai, ni, ci, rfl, hni, -, -⟩ := hi2.form
            have hni2 : nv = ni := by rw [hni, List.length_map, HLEN.out, ← HNV.out]
            subst hni2
            have HRA2 := Lib.hid (HRA.out.step hb2)
            have HAL2 := Lib.hid (HAL.out.step hb2)
            have HI2 := Lib.hid hi2
            have m1 : ((nv : Int) != (nv : Int)) = false := by simp
            clear hi2 hb2 hni HIDS HRA HAL
            go_wp2_with fail
            go_loopw [12, 13] (fun tv iv w3 => ∃ i : Nat, i ≤ nv ∧ iv = .int .i64 (i : Int) ∧ tv = .int .u16 (atId S.recs i : Int) ∧ RA W.heap.size W w3 g rv S ∧ AL W.heap.size w3 (.slice Av nv cv) L ∧ HOwn wr.heap.size w3 (.slice Ai nv ci) (S.recs.map (·.id))) (fun _ iv _ => nv - (intOf iv).toNat)
            case atStart => exact ⟨0, Nat.zero_le _, rfl, rfl, HRA2.out, HAL2.out, HI2.out⟩
            case round =>
              clear HRA2 HAL2 HI2
              obtain ⟨i, hi, rfl, rfl, hra3, hal3, hi3⟩ := hrel
              have HRA3 := Lib.hid hra3
              have HAL3 := Lib.hid hal3
              have HI3 := Lib.hid hi3
              clear hra3 hal3 hi3
              rcases Nat.lt_or_ge i nv with hin | hin
              · have hiR : i < S.recs.length := by rw [HLEN.out, ← HNV.out]; exact hin
                have hiL : i < L.length := by rw [← HNV.out]; exact hin
                obtain ⟨av, rfl⟩ := HAL3.out.some_ (by omega)
                obtain ⟨ai, rfl⟩ := HI3.out.some_ (by rw [List.length_map]; omega)
                have hii : (i : Int) < (nv : Int) := by omega
                have hi0 : (0 : Int) ≤ (i : Int) := by omega
                have hget : S.get (atId S.recs i) = (L[i].b, nid S.recs i, 0) := by
                  obtain ⟨r, hr, -, he⟩ := get_some (atId_plc HMW.out.ok hiR)
                  rw [he]
                  rw [List.getElem?_eq_getElem hiR] at hr
                  injection hr with hr
                  rw [← hr, HMW.out.b hiR hiL]
                have HGET := Lib.hid fun m => (show Calls Try.prog 61 #[.pointer (some ⟨g, 0, none⟩), .int .u16 (atId S.recs i : Int)] (_root_.Go.World.drewN _ m) (Gives _ (L[i].b, nid S.recs i, 0)) from by
                  have h := get_p (HRA3.out.drewN m) HMW.out.ok (atId S.recs i)
                  rw [hget] at h
                  exact h)
                have HID := Lib.hid fun (k : Nat) (hk : k < S.recs.length) => HI3.out.cell (k := k) (x := S.recs[k].id) (by rw [List.length_map]; exact hk) (by simp)
                have HNE := Lib.hid fun (k : Nat) (hk : k < i) => dis_ne HMW.out.ok hk hiR
                have HNX := Lib.hid (atId_succ S.recs i)
                have HNID : Hid ((i + 1 < nv ∧ 1 ≤ nid S.recs i) ∨ (i + 1 = nv ∧ nid S.recs i = 0)) := Lib.hid (by
                  rcases Nat.lt_or_ge (i + 1) S.recs.length with h | h
                  · refine .inl ⟨by rw [HNV.out, ← HLEN.out]; exact h, ?_⟩
                    rw [nid_more h]
                    exact (HMW.out.ok.rng _ (List.getElem_mem h)).1
                  · exact .inr ⟨by have h1 := HNV.out; have h2 := HLEN.out; omega, nid_last h⟩)
                generalize hT : atId S.recs i = T at *
                clear hget hT
                have hlL : L[i].v = .slice (some ⟨L[i].blk, 0, none⟩) L[i].b.length L[i].cap := rfl
                have HCA := Lib.hid fun V (hV : AL W.heap.size V (.slice (some av) nv cv) L) => hV.cell hiL
                have HOA := Lib.hid fun V (hV : AL W.heap.size V (.slice (some av) nv cv) L) => hV.rows L[i] (List.getElem_mem hiL)
                generalize L[i] = y at *
                obtain ⟨ybk, yck, yb⟩ := y
                dsimp only [Bk.v] at HCA HOA HGET
                clear hlL
                go_wp2_with fail
                go_loopw [14] (fun kv w4 => ∃ q k : Nat, k ≤ i ∧ kv = .int .i64 (k : Int) ∧ w4 = wr.drewN q) (fun kv _ => i - (intOf kv).toNat)
                case atStart => exact ⟨0, 0, Nat.zero_le _, rfl, rfl⟩
                case round =>
                  obtain ⟨q, k, hk, rfl, rfl⟩ := hrel
                  rcases Nat.lt_or_ge k i with hki | hki
                  · have hkk : (k : Int) < (i : Int) := by omega
                    have hk0 : (0 : Int) ≤ (k : Int) := by omega
                    have hkn : (k : Int) < (nv : Int) := by omega
                    have hc1 := HID.out k (by omega)
                    have hc2 := HID.out i hiR
                    have hne := HNE.out k hki
                    have hq : ((S.recs[k].id : Int) == (S.recs[i].id : Int)) = false := by simp; omega
                    generalize S.recs[k].id = X1 at *
                    generalize S.recs[i].id = X2 at *
                    clear hne
                    go_wp2_with fail
                    go_quiet (fail)
                    go_wp2_with fail
                    first
                      | exact ⟨⟨_, k + 1, by omega, by go_num, rfl⟩, by simp [intOf]; omega⟩
                      | (go_goals; fail)
                  · obtain rfl : k = i := Nat.le_antisymm hk hki
                    have hkk : ¬ (k : Int) < (k : Int) := by omega
                    have HG := Lib.hid (HGET.out q)
                    go_wp2_with fail
                    refine HG.out.mono ?_
                    rintro e w5 ⟨A5, n5, c5, rfl, ho5, hb5⟩
                    have hbw : Below wr.heap.size wr w5 := ⟨hb5.os, hb5.tape, hb5.output, hb5.size, hb5.block⟩
                    have hal5 := HAL3.out.step hbw
                    have hcA := HCA.out _ hal5
                    have HSM := Lib.hid (Same.same_yes (sl_own ho5 (by
                      obtain ⟨A', c', hv, -⟩ := ho5.form
                      injection hv with e1 e2)) (sl_own (HOA.out _ hal5) rfl))
                    have HBW := Lib.hid hbw
                    clear ho5 hb5 hbw hal5 HG
                    generalize nid S.recs k = X at *
                    rcases HNID.out with ⟨hx1, hx2⟩ | ⟨hx1, hx2⟩
                    · have p1 : ((X : Int) == 0) = false := by simp; omega
                      have p2 : ((k : Int) + 1 == (nv : Int)) = false := by simp; omega
                      clear HNID
                      go_wp2_with fail
                      refine HSM.out.mono ?_
                      rintro e w6 ⟨rfl, hb6⟩
                      have hb36 := HBW.out.trans (hb6.mono HBW.out.size)
                      have hfin := (show (∃ i' : Nat, i' ≤ nv ∧ Value.int .i64 ((k : Int) + 1) = .int .i64 (i' : Int) ∧ Value.int .u16 (X : Int) = .int .u16 (atId S.recs i' : Int) ∧ RA W.heap.size W w6 g rv S ∧ AL W.heap.size w6 (.slice (some av) nv cv) L ∧ HOwn _ w6 (.slice (some ai) nv ci) (S.recs.map (·.id))) from ⟨k + 1, by omega, by go_num, by rw [HNX.out], HRA3.out.step hb36, HAL3.out.step hb36, HI3.out.step hb36⟩)
                      have HFI := Lib.hid hfin
                      clear hfin hb36 hb6 hcA
                      go_wp2_with fail
                      first
                        | exact ⟨HFI.out, by simp [intOf]; omega⟩
                        | (go_goals; fail)
                    · have p2 : ((k : Int) + 1 == (nv : Int)) = true := by simp; omega
                      subst hx2
                      clear HNID
                      go_wp2_with fail
                      refine HSM.out.mono ?_
                      rintro e w6 ⟨rfl, hb6⟩
                      have hb36 := HBW.out.trans (hb6.mono HBW.out.size)
                      have hfin := (show (∃ i' : Nat, i' ≤ nv ∧ Value.int .i64 ((k : Int) + 1) = .int .i64 (i' : Int) ∧ Value.int .u16 0 = .int .u16 (atId S.recs i' : Int) ∧ RA W.heap.size W w6 g rv S ∧ AL W.heap.size w6 (.slice (some av) nv cv) L ∧ HOwn _ w6 (.slice (some ai) nv ci) (S.recs.map (·.id))) from ⟨k + 1, by omega, by go_num, by rw [HNX.out]; rfl, HRA3.out.step hb36, HAL3.out.step hb36, HI3.out.step hb36⟩)
                      have HFI := Lib.hid hfin
                      clear hfin hb36 hb6 hcA
                      go_wp2_with fail
                      first
                        | exact ⟨HFI.out, by simp [intOf]; omega⟩
                        | (go_goals; fail)
              · have hni : ¬ (i : Int) < (nv : Int) := by omega
                have HG := Lib.hid (get_p HRA3.out HMW.out.ok 0)
                rcases Nat.eq_zero_or_pos nv with h0 | h0
                · have hp : plc S.recs 0 = none := by unfold plc; rw [if_pos rfl, if_pos (by rw [HLEN.out, ← HNV.out, h0])]
                  rw [get_none hp] at HG
                  have HG := Lib.hid (show Calls Try.prog 61 #[.pointer (some ⟨g, 0, none⟩), .int .u16 0] wr _ from HG.out)
                  have z1 : decide ((0 : Int) < (nv : Int)) = false := by simp; omega
                  clear hp
                  go_wp2_with fail
                  refine HG.out.mono ?_
                  rintro e w5 ⟨A5, n5, c5, rfl, -, hb5⟩
                  have H5 := Lib.hid (HRA3.out.step hb5)
                  clear hb5
                  go_wp2_with fail
                  refine (haw.out _).mono ?_
                  rintro e w6 ⟨rfl, hb6⟩
                  go_wp2_with fail
                  go_ret
                  exact ⟨rfl, H5.out.bel.trans (hb6.mono H5.out.base)⟩
                · (try clear hj2)
                  (try clear hn0)
                  have hp : plc S.recs 0 = some 0 := by unfold plc; rw [if_pos rfl, if_neg (by rw [HLEN.out, ← HNV.out]; omega)]
                  obtain ⟨r, -, -, he⟩ := get_some hp
                  rw [he] at HG
                  have HG := Lib.hid (show Calls Try.prog 61 #[.pointer (some ⟨g, 0, none⟩), .int .u16 0] wr _ from HG.out)
                  have z1 : decide ((0 : Int) < (nv : Int)) = true := by simp; omega
                  have z2 : (0 : Int) < (nv : Int) := by omega
                  clear hp he
                  go_wp2_with fail
                  refine HG.out.mono ?_
                  rintro e w5 ⟨A5, n5, c5, rfl, -, hb5⟩
                  have H5 := Lib.hid (HRA3.out.step hb5)
                  clear hb5
                  go_wp2_with fail
                  refine (haw.out _).mono ?_
                  rintro e w6 ⟨rfl, hb6⟩
                  go_wp2_with fail
                  go_ret
                  exact ⟨rfl, H5.out.bel.trans (hb6.mono H5.out.base)⟩
    · go_enter Try.func13, Try.ntmps13
      go_wp2_with fail
      refine (HL1.out _).mono ?_
      rintro e w' ⟨rfl, hw'⟩
      rw [← hw']
      clear hw' w' HL1
      go_wp2_with fail
      refine (haw.out _).mono ?_
      rintro e w2 ⟨rfl, hb⟩
      go_wp2_with fail
      go_ret
      exact ⟨rfl, hb⟩
  · rw [decide_eq_false h600] at HL1
    clear hr hn hw
    go_enter Try.func13, Try.ntmps13
    go_wp2_with fail
    refine (HL1.out _).mono ?_
    rintro e w' ⟨rfl, hw'⟩
    rw [← hw']
    clear hw' w' HL1
    go_wp2_with fail
    refine (haw.out _).mono ?_
    rintro e w2 ⟨rfl, hb⟩
    go_wp2_with fail
    go_ret
    exact ⟨rfl, hb⟩

theorem cells_u8 : Try.prog.cellsOf 5 = 1 := by kernel_rfl
theorem cells_int : Try.prog.cellsOf 3 = 1 := by kernel_rfl
theorem own : ownKnob Try.prog.godebug = none := by kernel_rfl
theorem laidOut : laidOutB Try.prog = true := by kernel_rfl
theorem contract (H : Type) (enc : TypeId × Value → H) (W : World) (base : Nat) (args : Array Value) (ds gs : List (DataW H)) (before : List MemPlace)
    (hval : ∀ (j : Nat) t v, Try.f13.params[j]? = some t → args[j]? = some v → Value.okWide Try.prog W .any base t v)
    (hW : DataW.Whole enc Try.prog Try.f13.params.toList Rows.repositoryWalksSpec.vars false W args.toList ds gs before) :
    Calls Try.prog 13 args W fun e W' => ∃ v, e = .returned v ∧ Rows.repositoryWalksSpec.post enc Try.prog Try.f13 false true false false W args v W' := by
  have hW' := hW
  obtain ⟨p, q, hA0, hV, rfl, hfz, hnd⟩ := hW
  have hA : DataW.TrodAll enc Try.prog W 0 (fun _ => true) true Try.f13.params.toList args.toList ds p := hA0
  rw [Try.params13] at hA hval
  obtain ⟨v0, vs0, d0, ds0, p0, q0, hargs, rfl, rfl, h0, r0⟩ := trodAll_cons hA
  obtain ⟨v1, vs1, d1, ds1, p1, q1, rfl, rfl, rfl, h1, r1⟩ := trodAll_cons r0
  obtain ⟨rfl, rfl, rfl⟩ := trodAll_nil r1
  obtain rfl : args = #[v0, v1] := by cases args; simp_all
  obtain ⟨A0, n0, c0, l0, rfl, hn0, hr0, hw0, hc0, hm0, hk0⟩ := open_int_list Try.underlying22 Try.underlying3 cells_int (hval 0 22 v0 rfl rfl) h0
  obtain ⟨A1, n1, c1, l1, rfl, hn1, hr1, hw1, hc1, hm1, hk1⟩ := open_int_list Try.underlying22 Try.underlying3 cells_int (hval 1 22 v1 rfl rfl) h1
  clear hA0
  refine (walk A0 n0 c0 l0 hn0 hw0 hc0 hm0 hk0 A1 n1 c1 l1 hn1 hw1 hc1 hm1 hk1 W hr0 hr1).mono fun e W' ⟨he, hb⟩ => ?_
  subst he
  exact ⟨_, rfl, law_post laidOut (types_fit (by kernel_rfl)) (by kernel_rfl) Try.underlying4 rfl (fun xs hx => by
    match xs, hx with
    | [_, _], _ => rfl) hW' hb⟩

theorem lifted (os : Os) (started : os.Started) (H : Type) (enc : TypeId × Value → H) :
    ReturnsInHanded {} Try.checked os 13 .any (Rows.repositoryWalksSpec.pre6 enc Try.prog Try.f13 Rows.repositoryWalksRow.domain false) (Rows.repositoryWalksSpec.post enc Try.prog Try.f13 false true false false) := by
  refine returnsInHanded_of_change (C := Try.checked) own started (by kernel_rfl) Try.func13
    (ChangeSpec.witness6 (enc := enc) (C := Try.checked) false ⟨#[], #[.slice none 0 0, .slice none 0 0], []⟩ 8 (by kernel_rfl) (by kernel_rfl) (by kernel_rfl) (by kernel_rfl)) ?_
  intro W base args ds gs before hval hW _ _
  exact contract H enc W base args ds gs before hval hW

theorem proved : Rows.RepositoryWalksSaid :=
  OpenClaim.holds_of_wide 13 Try.f13 rfl rfl rfl rfl rfl rfl rfl ⟨rfl, rfl, rfl, rfl, rfl⟩ rfl rfl rfl rfl rfl (by kernel_rfl) Try.func13 (by kernel_rfl)
    (of_decide_eq_true (by kernel_rfl)) (by unfold Func.isWrapper; first | (rw [if_pos (by decide +kernel)]; kernel_rfl) | (rw [if_neg (by decide +kernel)]; exact ⟨rfl, rfl⟩))
    (fun os started H enc _ => lifted os started H enc)
end Go.Proofs.Ytcjmpogjickplaa.repositoryWalks
