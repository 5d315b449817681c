/- Walks: a repository is made of the dice. -/
import Derived.Test.YtcjmpogjickplaaRk
namespace Go.Proofs.Ytcjmpogjickplaa.R11
open Go.RowKit Go.Proofs.Ytcjmpogjickplaa.Mem Go.Proofs.Ytcjmpogjickplaa.Made
set_option maxRecDepth 100000
set_option maxHeartbeats 1000000

section
variable {B : Nat} {W w w' : World} {g gd n c : Nat} {rv rv' v : Value} {S S' : Rp} {L : List Bk} {A : Option Addr} {l : List Int}
/-- What a call on the repository leaves of the dice. -/
theorem dz_kp (h : Dz w gd A n c l) (hr : IRow B W A l) (low : Below B W w') (hB : B ≤ gd) (hra : RA B W w g rv S) (k : Kp g rv rv' w w') : Dz w' gd A n c l := by
  obtain ⟨a, ha, hd⟩ := h.at_
  refine ⟨h.len, h.bnd, h.few, (Rd.below hr low).more hB, a, ha, (k.block gd h.lt ?_ ?_).1.trans hd⟩
  · exact ne_of_types hd hra.head (by decide)
  · intro e
    obtain ⟨_, c', z', hk⟩ := hra.own.blk e
    exact ne_of_types hd hk (by decide) rfl
theorem dz_ty (h : Dz w gd A n c l) : ∃ c T z, w.heap[gd]? = some (.cells c T z) ∧ T ≠ 74 ∧ T ≠ 5 := by
  obtain ⟨a, ha, hd⟩ := h.at_
  exact ⟨_, _, _, hd, by decide, by decide⟩
theorem dz_far (h : Dz w gd A n c l) (hra : RA B W w g rv S) : Far g rv S gd := by
  obtain ⟨a, ha, hd⟩ := h.at_
  refine ⟨ne_of_types hd hra.head (by decide), fun e => ?_, fun r hr => ?_⟩
  · obtain ⟨_, c', z', hk⟩ := hra.own.blk e
    exact ne_of_types hd hk (by decide) rfl
  · obtain ⟨_, c', z', hk⟩ := own_blk (hra.rows r hr)
    exact ne_of_types hk hd (by decide)
theorem own_kp {base : Nat} {b : List UInt8} (h : Own base w v b) (hra : RA B W w g rv S) (k : Kp g rv rv' w w') : Own base w' v b := row_any h fun i hi => by
  rcases h.2 with ⟨rfl, _⟩ | ⟨g', cap, cur, rfl, hg, hh, _⟩
  · cases hi
  · injection hi with hi
    subst hi
    exact (k.block _ (lt_of_some hh) (ne_of_types hh hra.head (by decide)) (fun e => by
      obtain ⟨_, c', z', hk⟩ := hra.own.blk e
      exact ne_of_types hh hk (by decide) rfl)).1
theorem own_step {base : Nat} {b : List UInt8} (h : Own base w v b) (hb : Below w.heap.size w w') : Own base w' v b := row_any h fun i hi => hb.block i (World.ownsRow.lt h _ hi).2
/-- A row of byte slices grows: the repository, the dice stay. -/
theorem RA.grown_al (h : RA B W w g rv S) (ha : AOwn B w v L) (hg : w.grownBy w' v.ownBlock) : RA B W w' g rv S :=
  h.same ⟨hg.os, hg.tape, hg.output, hg.size, fun i hi => hg.block i (by have := h.base; omega) (fun e => by have := (ha.blk e.symm).1; omega)⟩ fun i hi hc => hg.block i hi (fun e => by
    obtain ⟨_, c, z, hk⟩ := ha.blk e.symm
    rcases hc with hc | hc | ⟨r, hr, hc⟩
    · subst hc; exact ne_of_types hk h.head (by decide) rfl
    · obtain ⟨_, c', z', hk'⟩ := h.own.blk hc
      exact ne_of_types hk hk' (by decide) rfl
    · obtain ⟨_, c', z', hk'⟩ := own_blk (h.rows r hr)
      rw [hc] at hk'
      exact ne_of_types hk hk' (by decide) rfl)
theorem dz_al (h : Dz w gd A n c l) (hr : IRow B W A l) (low : Below B W w') (hB : B ≤ gd) (ha : AOwn B w v L) (hg : w.grownBy w' v.ownBlock) : Dz w' gd A n c l := by
  obtain ⟨a, ha', hd⟩ := h.at_
  refine ⟨h.len, h.bnd, h.few, (Rd.below hr low).more hB, a, ha', (hg.block gd h.lt ?_).trans hd⟩
  intro e
  obtain ⟨_, c', z', hk⟩ := ha.blk e.symm
  exact ne_of_types hd hk (by decide) rfl
theorem own_al {base : Nat} {b : List UInt8} (h : Own base w v b) {v2 : Value} (ha : AOwn B w v2 L) (hg : w.grownBy w' v2.ownBlock) : Own base w' v b := row_any h fun i hi => by
  rcases h.2 with ⟨rfl, _⟩ | ⟨g', cap, cur, rfl, _, hh, _⟩
  · cases hi
  · injection hi with hi
    subst hi
    exact hg.block _ (lt_of_some hh) (fun e => by
      obtain ⟨_, c', z', hk⟩ := ha.blk e.symm
      exact ne_of_types hh hk (by decide) rfl)
theorem AOwn.alloc (h : AOwn B w v L) (o : Obj) : AOwn B (w.alloc o) v L := World.ownsRow.alloc h o
end
/-- What 'made' leaves. -/
structure MadeR (W w : World) (g : Nat) (rv v : Value) (S : Rp) (L : List Bk) : Prop where
  ra : RA W.heap.size W w g rv S
  al : AL W.heap.size w v L
  ok : S.Ok
  is : MadeS S L
  pos : 1 ≤ L.length
theorem made_p (A : Option Addr) (n c : Nat) (l : List Int) (W : World) (hr : IRow W.heap.size W A l) (hn : n = l.length)
    (hl : ∀ x ∈ l, -9223372036854775808 ≤ x ∧ x ≤ 9223372036854775807) (hm : n ≤ 1000000) :
    Calls Try.prog 74 #[.slice A n c] W fun e w' => ∃ g rv v S L, e = .returned (.tuple #[.pointer (some ⟨g, 0, none⟩), v, .bool true]) ∧ MadeR W w' g rv v S L := by
  obtain ⟨i5, hi5, hz5, hy5, hb5⟩ := info_parts info5
  obtain ⟨iB, hiB, hzB, hyB, hbB⟩ := info_parts infoB
  have HR := Lib.hid hr
  have HNL := Lib.hid hn
  have HL := Lib.hid hl
  have HM := Lib.hid hm
  clear hr hn hl hm
  go_enter Try.func74, Try.ntmps74
  go_wp2_with fail
  refine (new_p 2000 W (by omega) (by omega)).mono ?_
  rintro e w1 ⟨rfl, h1⟩
  obtain ⟨g, hg⟩ : ∃ g, g = W.heap.size := ⟨_, rfl⟩
  have hBg : RA W.heap.size W w1 g (.slice none 0 0) (R11.fresh 2000) := by rw [hg]; exact h1
  rw [← hg]
  have H1 := Lib.hid hBg
  clear hg h1 hBg
  go_wp2_with fail
  refine (roll_any A n c w1).mono ?_
  rintro e w2 ⟨rfl, hw2⟩
  have hrow1 : IRow w1.heap.size w1 A l := (Rd.below HR.out H1.out.bel).more H1.out.bel.size
  have hdz := Dz.start A n c l w1 hrow1 HNL.out HL.out HM.out
  have h2 := H1.out.alloc (.cells #[.slice A n c, .int .i64 0] 118)
  rw [← hw2] at hdz h2
  obtain ⟨gd, hgd⟩ : ∃ gd, gd = w1.heap.size := ⟨_, rfl⟩
  have hBd : W.heap.size ≤ gd := by rw [hgd]; exact H1.out.base
  rw [← hgd] at hdz ⊢
  have H2 := Lib.hid h2
  have HBD := Lib.hid hBd
  clear hgd hw2 hrow1 h2 hBd H1
  go_wp2_with fail
  refine (hdz.next 8 (by omega) (by omega)).mono ?_
  rintro e w3 ⟨m0, hm0, rfl, hdz3, hg3⟩
  have H3 := Lib.hid (H2.out.grown_far hg3 (dz_far hdz H2.out) HBD.out)
  have HDZ := Lib.hid hdz3
  clear hdz hdz3 hg3 H2
  go_wp2_with fail
  obtain ⟨m, hm⟩ : ∃ m, m = m0 + 1 := ⟨_, rfl⟩
  rw [show (1 : Int) + (m0 : Int) = (m : Int) by omega]
  have hm1 : 1 ≤ m ∧ m ≤ 8 := by omega
  have HM1 := Lib.hid hm1
  clear hm hm0 hm1
  go_loopw [8, 9] (fun v iv wr => ∃ (q : Nat) (rv : Value) (S : Rp) (L : List Bk), q + L.length = m ∧ iv = .int .i64 (q : Int) ∧ RA W.heap.size W wr g rv S ∧ AL W.heap.size wr v L ∧ S.Ok ∧ MadeS S L ∧ Dz wr gd A n c l) (fun _ iv _ => (intOf iv).toNat)
  case atStart => exact ⟨m, _, _, [], by simp, rfl, H3.out, ⟨AOwn.nil, by simp⟩, fresh_ok (by omega), made_start, HDZ.out⟩
  case round =>
    obtain ⟨q, rv, S, L, hq, rfl, hra, hal, ok, hms, hdz⟩ := hrel
    have HQ := Lib.hid hq
    have HRA := Lib.hid hra
    have HAL := Lib.hid hal
    have HOK := Lib.hid ok
    have HMS := Lib.hid hms
    clear hq hra hal ok hms H3 HDZ
    rcases Nat.eq_zero_or_pos q with h0 | h0
    · subst h0
      go_wp2_with fail
      go_ret3
      exact ⟨g, rv, _, S, L, rfl, HRA.out, HAL.out, HOK.out, HMS.out, by have := HQ.out; have := HM1.out; omega⟩
    · have hq8 : q ≤ 8 := by have := HQ.out; have := HM1.out; omega
      go_wp2_with fail
      refine (hdz.bytes 30 (by omega)).mono ?_
      rintro e w4 ⟨v4, x, rfl, ho4, hx, hdz4, hg4⟩
      have HX := Lib.hid hx
      have HG4 := Lib.hid hg4
      have HO4 := Lib.hid ho4
      have HDZ4 := Lib.hid hdz4
      have HLT := Lib.hid hdz.lt
      have hsz := hg4.size
      clear hx hg4 ho4 hdz4
      go_wp2_with (at_builtin; go_loud (refine wpList_append_rd _ rfl (.tmp 33) (.tmp 36) _ rfl wr.heap.size 5 i5 _ 1 Try.underlying74 hi5 hz5 hy5 hb5 rfl v4 x.length (bvs x) rfl (World.ownsRow.alloc HO4.out _) _ _ 1 1 (bvs [UInt8.ofNat q]) rfl rfl (row_at_new _ _ _ _ _ rfl (by simp [bvs, bv_nat (show q < 256 by omega)]) (Nat.lt_succ_self _)) (fun hh => by cases hh) (bvs_one _) (by have := HX.out; unfold maxLen; omega) (by have := HX.out; omega) (by simp; omega) ?_); intro v5 w5 ho5 hg5)
      have hg45 : w4.grownBy w5 v4.ownBlock := grown_trans (World.grownBy_alloc w4 _ v4.ownBlock) hg5
      have hlo4 : ∀ k, v4.ownBlock = some k → wr.heap.size ≤ k := fun k e => (World.ownsRow.lt HO4.out k e).1
      have hgr5 : wr.grownBy w5 (some gd) := grown_new HG4.out hg45 hlo4
      have hO5 : Own wr.heap.size w5 v5 (x ++ [UInt8.ofNat q]) := own_app ho5
      have hdz5 := HDZ4.out.grown hg45 (fun e => by have := hlo4 gd e; have := HLT.out; omega) (fun k e => by have := hlo4 k e; have := HLT.out; omega)
      have hra5 := HRA.out.grown_far hgr5 (dz_far hdz HRA.out) HBD.out
      have hal5 := HAL.out.grown_far hgr5 (dz_ty hdz)
      obtain ⟨bk, ck, rfl, -, -⟩ := own_full hO5 (by simp)
      have hbl : (x ++ [UInt8.ofNat q]).length = x.length + 1 := by simp
      have hL8 : L.length < 8 := by have := HQ.out; have := HM1.out; omega
      have he := HMS.out.addE hL8 (n := (x ++ [UInt8.ofNat q]).length) (by rw [hbl]; omega) (by rw [hbl]; have := HX.out; omega)
      have hO5B := Own.base_ hO5 (show W.heap.size ≤ wr.heap.size from HRA.out.base)
      have HADD := Lib.hid (add_p hra5 HOK.out _ _ _ _ (sl_own hO5 rfl) (hra5.off hO5) he)
      have HOK6 := Lib.hid fun x' y' => HOK.out.add x' y' (x ++ [UInt8.ofNat q]) he
      have HMS6 := Lib.hid fun x' y' => HMS.out.add hL8 x' y' ⟨bk, ck, x ++ [UInt8.ofNat q]⟩ (by rw [hbl]; omega) (by rw [hbl]; have := HX.out; omega)
      have HRA5 := Lib.hid hra5
      have HAL5 := Lib.hid hal5
      have HDZ5 := Lib.hid hdz5
      have HO5 := Lib.hid hO5B
      obtain ⟨b, hb⟩ : ∃ b, b = x ++ [UInt8.ofNat q] := ⟨_, rfl⟩
      rw [← hb] at HADD HOK6 HMS6 HO5 ⊢
      clear hg45 hlo4 hgr5 hO5 hdz5 hra5 hal5 hbl he hO5B ho5 hg5 HRA HAL HOK HMS HDZ4 HO4 HG4 HX hb hdz hsz
      generalize hI : fid S.recs S.last = I at *
      clear hI
      refine HADD.out.mono ?_
      rintro e w6 ⟨rv6, x', y', rfl, h6, k6, -⟩
      have hal6 := HAL5.out.kp HRA5.out k6
      have hO6 := own_kp HO5.out HRA5.out k6
      have hdz6 := dz_kp HDZ5.out HR.out h6.bel HBD.out HRA5.out k6
      have HRA6 := Lib.hid h6
      have HAL6 := Lib.hid hal6
      have HO6 := Lib.hid hO6
      have HDZ6 := Lib.hid hdz6
      have hbase6 := h6.base
      clear h6 k6 hal6 hO6 hdz6 HADD HAL5 HO5 HDZ5 HRA5
      go_wp2_with (at_builtin; go_loud (refine wpList_append_rd _ rfl (.tmp 46) (.tmp 48) _ rfl W.heap.size 74 iB _ 24 Try.underlying83 hiB hzB hyB hbB rfl u8 L.length (bkvs L) rfl (World.ownsRow.alloc HAL6.out.own _) _ _ 1 1 (bkvs [⟨bk, ck, b⟩]) rfl rfl (Rd.new _ _ _) (fun hh => by cases hh) (bkvs_one _) (by unfold maxLen; omega) (by omega) (by simp; omega) ?_); intro v7 w7 ho7 hg7)
      have hg67 : w6.grownBy w7 u8.ownBlock := grown_trans (World.grownBy_alloc w6 _ u8.ownBlock) hg7
      have h7 := HRA6.out.grown_al HAL6.out.own hg67
      refine ⟨⟨q - 1, rv6, _, L ++ [⟨bk, ck, b⟩], by have := HQ.out; simp; omega, vi (by omega), h7, ⟨?_, fun z hz => ?_⟩, HOK6.out x' y', HMS6.out x' y', dz_al HDZ6.out HR.out h7.bel HBD.out HAL6.out.own hg67⟩, by simp [intOf]; omega⟩
      · unfold AOwn bkvs at *
        rw [List.map_append, List.length_append]
        exact ho7
      · rcases List.mem_append.1 hz with hz | hz
        · exact own_al (HAL6.out.rows z hz) HAL6.out.own hg67
        · rw [List.mem_singleton.1 hz]
          exact own_al HO6.out HAL6.out.own hg67
end Go.Proofs.Ytcjmpogjickplaa.R11
