/- Walks: the reference's lists of fields. -/
import Derived.Test.YtkhdldemhaifpaaFn
import Derived.Test.YtkhdldemhaifpaaF2g
namespace Go.Proofs.Ytkhdldemhaifpaa.Fl
open Go.RowKit Go.Proofs.Ytkhdldemhaifpaa.Mem Go.Proofs.Ytkhdldemhaifpaa.F2p Go.Proofs.Ytkhdldemhaifpaa.Fa
set_option maxRecDepth 100000
set_option maxHeartbeats 1000000

theorem elist_r (A : Option Addr) (n c : Nat) (l : List Fi) (w : World) (h : FSl w A n c l) (hl : ∀ x ∈ l, x.2.size ≤ 100000) (hn : n ≤ 1000) :
    Calls Try.prog 30 #[.slice A n c] w fun e w' => ∃ A' n' c', e = .returned (.tuple #[.slice A' n' c', .int .i64 (elist l).1]) ∧ Sl w' A' n' c' (elist l).2 ∧ Below w.heap.size w w' := by
  obtain ⟨i0, hi, hz0, hz1, hzq⟩ := info_parts info5
  have sl0 : ∀ u : World, Sl u none 0 0 [] := fun u => ⟨rfl, Rd.nil, Nat.le_refl _, by unfold maxLen; omega, fun _ => rfl⟩
  have HL := Lib.hid h.len
  have HH := Lib.hid hl
  have hrow := h.row
  by_cases h16 : n ≤ 16
  · have he : elist l = if okf l then (0, encs l ++ [193]) else (1, []) := by unfold elist; rw [if_neg (by rw [← h.len]; omega)]
    generalize elist l = R at *
    have HE := Lib.hid he
    clear he h hl
    go_enter Try.func30, Try.ntmps30
    go_wp2_with fail
    go_loopw [4, 5] (fun v i wr => ∃ j : Nat, j ≤ n ∧ i = .int .i64 j ∧ okf (l.take j) = true ∧ Own w.heap.size wr v (encs (l.take j)) ∧ (encs (l.take j)).length ≤ 64 * j ∧ Below w.heap.size w wr) (fun _ i _ => n - (intOf i).toNat)
    case atStart => exact ⟨0, Nat.zero_le _, rfl, rfl, Own.nil, Nat.zero_le _, Below.refl _ _⟩
    case round =>
      obtain ⟨j, hj, rfl, hok, hown, hlen, hbel⟩ := hrel
      have HOK := Lib.hid hok
      have HLE := Lib.hid hlen
      clear hok hlen
      have hz := hbel.size
      by_cases hlt : j < n
      · have hjl : j < l.length := by rw [← HL.out]; exact hlt
        obtain ⟨a, rfl, hab, hc0, hc1⟩ := frow_at (Rd.below hrow hbel) hjl
        have hsz := HH.out _ (List.getElem_mem hjl)
        have hcs := Lib.hid (encs_snoc hjl)
        have hos := Lib.hid (okf_snoc hjl)
        have hbd := Lib.hid (fun hv => okf_bad hjl hv)
        generalize hx : l[j] = x at *
        obtain ⟨k, s⟩ := x
        simp only at hc0 hc1 hsz hcs hos hbd
        clear hx
        have hc1' : wr.cell? ⟨(a.add (j * 2)).block, (a.add (j * 2)).off + 1, none⟩ = some (.string s) := by rw [← add_next, add_add]; exact hc1
        go_wp2_with fail
        clear hc0 hc1 hc1'
        rcases hv : vld k (bl s) with _ | _
        · have hno := Lib.hid (hbd.out hv)
          refine (F2s.encode_no k s wr hv hsz).mono ?_
          rintro e w7 ⟨rfl, hb7⟩
          clear hv
          go_wp2_with fail
          go_ret2
          refine ⟨none, 0, 0, ?_, ?_, hbel.trans (hb7.mono hz)⟩
          · rw [HE.out, if_neg (by rw [hno.out]; simp)]; rfl
          · rw [HE.out, if_neg (by rw [hno.out]; simp)]; exact sl0 _
        · refine (F2s.encode_yes k s wr hv hsz).mono ?_
          rintro e w7 ⟨A7, n7, c7, rfl, s7, hb7⟩
          have hown7 : Own w.heap.size w7 u4 (encs (l.take j)) := hown.below hb7 (Nat.le_refl _)
          have hbw7 : Below w.heap.size w w7 := hbel.trans (hb7.mono hz)
          have HV := Lib.hid hv
          have hn7 : n7 ≤ 64 := by rw [s7.len]; exact enc_len64 hv
          have HS7 := Lib.hid s7
          clear hown hv hb7 s7
          go_wp2_with (at_builtin; (refine wpList_append_rd _ rfl _ _ _ rfl w.heap.size 5 i0 _ 1 Try.underlying31 hi hz0 hz1 hzq rfl _ _ _ rfl hown7 _ A7 n7 c7 (bvs (enc k (bl s))) rfl ((len_bvs _).trans HS7.out.len.symm) HS7.out.row HS7.out.nil (bvs_one _) (by have := HLE.out; unfold maxLen; omega) (by have := HLE.out; omega) hbw7.size ?_); intro v8 w8 hown8 hg8)
          have hl7 := HS7.out.len
          have own9 : Own w.heap.size w8 v8 (encs (l.take (j + 1))) := own_of hown8 (by rw [hcs.out, List.length_append, ← hl7]) (by rw [hcs.out, bvs_app])
          refine ⟨⟨j + 1, by omega, by go_num, ?_, own9, ?_, below_grown hbw7 hown7 hg8 hbw7.size⟩, by simp [intOf]; omega⟩
          · rw [hos.out, HOK.out, HV.out]; rfl
          · have := HLE.out
            rw [hcs.out, List.length_append, ← hl7]; omega
      · obtain rfl : j = n := by omega
        have e1 : l.take j = l := by rw [HL.out, List.take_length]
        have hok := HOK.out
        have hle := HLE.out
        rw [e1] at hown hok hle
        have HO := Lib.hid hok
        have HLL := Lib.hid hle
        clear hok hle e1
        go_wp2_with (at_builtin; (refine wpList_append_rd _ rfl _ _ _ rfl w.heap.size 5 i0 _ 1 Try.underlying31 hi hz0 hz1 hzq rfl _ _ _ rfl (World.ownsRow.alloc hown _) _ _ 1 1 (bvs [193]) rfl rfl (Rd.new wr _ _) (fun hh => by cases hh) (bvs_one _) (by have := HLL.out; unfold maxLen; omega) (by have := HLL.out; omega) (by simp; omega) ?_); intro v8 w8 hown8 hg8)
        have own9 : Own w.heap.size w8 v8 (encs l ++ [193]) := own_app hown8
        obtain ⟨A9, n9, c9, rfl, s9⟩ := Sl.of_own own9
        go_ret2
        refine ⟨A9, n9, c9, ?_, ?_, below_grown (hbel.alloc hz _) (World.ownsRow.alloc hown _) hg8 (by simp; omega)⟩
        · rw [HE.out, if_pos HO.out]; rfl
        · rw [HE.out, if_pos HO.out]; exact s9
  · have he : elist l = (3, []) := by unfold elist; rw [if_pos (by rw [← h.len]; omega)]
    rw [he]
    clear he h hl hrow
    go_enter Try.func30, Try.ntmps30
    go_wp2_with fail
    go_ret2
    exact ⟨none, 0, 0, rfl, sl0 _, Below.refl _ _⟩
set_option maxHeartbeats 3000000 in
theorem dlist_r (A : Option Addr) (n c : Nat) (l : List UInt8) (w : World) (h : Sl w A n c l) (hn : n ≤ 100000) :
    Calls Try.prog 32 #[.slice A n c] w fun e w' => ∃ A' n' c', e = .returned (.tuple #[.slice A' n' c', .int .i64 ((dl l 16 0 []).2.1 : Nat), .int .i64 (dl l 16 0 []).1]) ∧ FSl w' A' n' c' (dl l 16 0 []).2.2 ∧ Below w.heap.size w w' := by
  obtain ⟨R, hR⟩ : ∃ R, R = dl l 16 0 [] := ⟨_, rfl⟩
  rw [← hR]
  have HR := Lib.hid hR
  have HS := Lib.hid h
  have hcap := h.cap
  have hmax := h.max
  unfold maxLen at hmax
  have HL := Lib.hid h.len
  clear hR h
  go_enter Try.func32, Try.ntmps32
  go_wp2_with fail
  go_loopw [5, 6] (fun v i wr => ∃ (at_ : Nat) (acc : List Fi), at_ ≤ n ∧ acc.length ≤ 16 ∧ i = .int .i64 at_ ∧ lenOf v = acc.length ∧ FOwn w.heap.size wr v acc ∧ R = dl l (16 - acc.length) at_ acc ∧ Below w.heap.size w wr) (fun v _ _ => 17 - lenOf v)
  case atStart => exact ⟨0, [], Nat.zero_le _, by simp, rfl, rfl, FOwn.nil, HR.out, Below.refl _ _⟩
  case round =>
    obtain ⟨at_, acc, hat, hacc, rfl, hlo, hown, hRR, hbel⟩ := hrel
    have HRR := Lib.hid hRR
    have HLO := Lib.hid hlo
    clear hRR hlo
    have hz := hbel.size
    obtain ⟨A2, n2, c2, rfl, fs2⟩ := hown.sl
    have hn2 : n2 = acc.length := HLO.out
    have HN2 := Lib.hid hn2
    have hsplit : at_ = c ∨ ¬ (c = at_) := by omega
    rcases hsplit with hca | hca
    · obtain rfl := hca
      skip
      have slA : Sl wr (if at_ = at_ then A else A.map (·.add at_)) (n - at_) (at_ - at_) (l.drop at_) := by
        have h := HS.out.step hbel
        have hl := h.len
        have r1 := row_cut (n := at_) (cap := at_) h.row (by omega) (by omega)
        refine ⟨by rw [List.length_drop]; omega, r1, by omega, by unfold maxLen; omega, fun hh => ?_⟩
        split at hh
        · have := h.nil hh; omega
        · cases A with
          | none => have := h.nil rfl; omega
          | some a => cases hh
      have hcall := fun (A' : Option Addr) (hA : A' = if at_ = at_ then A else A.map (·.add at_)) (c' : Nat) (hc' : c' = at_ - at_) (m' : Nat) (hm' : m' = n - at_) => (show Calls Try.prog 23 #[.slice A' m' c'] wr fun e w' => e = out (dec (l.drop at_)).k (dec (l.drop at_)).v (dec (l.drop at_)).n (dec (l.drop at_)).z (dec (l.drop at_)).c ∧ Below wr.heap.size wr w' from by
        subst hA hc' hm'
        exact F2g.dec_r _ (n - at_) (at_ - at_) (l.drop at_) wr slA (by omega))
      have d1 := dl_err (b := l) (f := 16 - acc.length) (at_ := at_) (acc := acc)
      have d2 := dl_end (b := l) (f := 16 - acc.length) (at_ := at_) (acc := acc)
      have d3 := dl_many (b := l) (at_ := at_) (acc := acc)
      have d4 := dl_next (b := l) (f := 15 - acc.length) (at_ := at_) (acc := acc)
      have hle := dec_le (l.drop at_)
      rw [List.length_drop, ← HL.out] at hle
      generalize dec (l.drop at_) = D at *
      obtain ⟨k, v, m, z, x⟩ := D
      simp only at hcall d1 d2 d3 d4 hle
      have HC := Lib.hid hcall
      have D1 := Lib.hid d1
      have D2 := Lib.hid d2
      have D3 := Lib.hid d3
      have D4 := Lib.hid d4
      clear hcall slA d1 d2 d3 d4 hn2
      by_cases hx : x = 0
      · subst hx
        cases z
        · by_cases h16 : acc.length = 16
          · have hRx : R = (3, 0, []) := by have := HRR.out; rw [h16] at this; rw [this]; exact D3.out rfl rfl
            have HRx := Lib.hid hRx
            have t16 : ((n2 : Int) == 16) = true := by rw [beq_iff_eq]; have := HN2.out; omega
            clear hRx h16
            go_wp2_with fail
            all_goals
              refine (HC.out _ (by simp) _ (by omega) _ (by omega)).mono ?_
              rintro e w2 ⟨rfl, hb2⟩
              unfold out
              go_wp2_with fail
              go_ret3
              refine ⟨none, 0, 0, ?_, ?_, (hbel.trans (hb2.mono hz)).alloc (Nat.le_trans hz hb2.size) _⟩
              · rw [HRx.out]; rfl
              · rw [HRx.out]; exact FSl.none
          · have hRx : R = dl l (15 - acc.length) (at_ + m) (acc ++ [(k, ⟨v.toArray⟩)]) := by
              have := HRR.out
              rw [show 16 - acc.length = (15 - acc.length) + 1 by omega] at this
              rw [this]; exact D4.out rfl rfl
            have HRx := Lib.hid hRx
            have t16 : ((n2 : Int) == 16) = false := by rw [beq_eq_false_iff_ne]; have := HN2.out; omega
            have ha15 : acc.length ≤ 15 := by omega
            clear hRx h16
            go_wp2_with fail
            all_goals
              refine (HC.out _ (by simp) _ (by omega) _ (by omega)).mono ?_
              rintro e w2 ⟨rfl, hb2⟩
              unfold out
              have hbw2 : Below w.heap.size w w2 := hbel.trans (hb2.mono hz)
              have hown2 : FOwn w.heap.size w2 (.slice A2 n2 c2) acc := World.ownsRow.kept hown (⟨hb2.os, hb2.tape, hb2.output, hb2.size, fun i hi _ => hb2.block i hi⟩ : wr.grownBy w2 none) (by cases Value.ownBlock (.slice A2 n2 c2) <;> simp)
              have hst2 : (w2.alloc (.cells #[.int .i64 k, .string ⟨v.toArray⟩] 23)).heap[w2.heap.size]? = some (.cells #[.int .i64 k, .string ⟨v.toArray⟩] 23 (0, 0)) := heap_alloc_new w2 _
              have hb3 : Below w.heap.size w (w2.alloc (.cells #[.int .i64 k, .string ⟨v.toArray⟩] 23)) := hbw2.alloc hbw2.size _
              have hown3 : FOwn w.heap.size (w2.alloc (.cells #[.int .i64 k, .string ⟨v.toArray⟩] 23)) (.slice A2 n2 c2) acc := World.ownsRow.alloc hown2 _
              go_wp2_with (at_builtin; go_loud (refine wpList_append_f _ rfl _ _ rfl w.heap.size _ acc rfl (World.ownsRow.alloc hown3 _) k ⟨v.toArray⟩ _ 1 rfl (new_pair _ _ (by simp) _ _ _).1 (new_pair _ _ (by simp) _ _ _).2 (by omega) (by have := hbw2.size; simp; omega) ?_); intro v1 w5 hown5 hg5)
              have hbw5 := below_grown' (hb3.alloc (by have := hbw2.size; simp; omega) _) (World.ownsRow.alloc hown3 _) hg5 (by have := hbw2.size; simp; omega)
              have hlen5 : lenOf v1 = acc.length + 1 := by
                obtain ⟨A5, n5, c5, rfl, fs5⟩ := hown5.sl
                have := fs5.len
                rw [List.length_append] at this
                exact this
              refine ⟨⟨at_ + m, acc ++ [(k, ⟨v.toArray⟩)], by omega, by simp; omega, vi (by omega), by rw [hlen5, List.length_append]; rfl, hown5, ?_, hbw5⟩, ?_⟩
              · rw [HRx.out, List.length_append, show 16 - (acc.length + [(k, (⟨v.toArray⟩ : ByteArray))].length) = 15 - acc.length by simp <;> omega]
              · rw [hlen5, show lenOf (.slice A2 n2 _) = acc.length from HN2.out]; omega
        · have hRx : R = (0, at_ + m, acc) := by rw [HRR.out]; exact D2.out rfl rfl
          have HRx := Lib.hid hRx
          clear hRx
          go_wp2_with fail
          all_goals
            refine (HC.out _ (by simp) _ (by omega) _ (by omega)).mono ?_
            rintro e w2 ⟨rfl, hb2⟩
            unfold out
            have fs3 := (fs2.step hb2).step ((Below.refl _ _).alloc (Nat.le_refl _) (.cells #[.int .i64 k, .string ⟨v.toArray⟩] 23))
            go_wp2_with fail
            go_ret3
            refine ⟨A2, n2, c2, ?_, ?_, (hbel.trans (hb2.mono hz)).alloc (Nat.le_trans hz hb2.size) _⟩
            · rw [HRx.out]; rfl
            · rw [HRx.out]; exact fs3
      · have hxx : (x != 0) = true := by simpa using hx
        have hRx : R = (x, 0, []) := by rw [HRR.out]; exact D1.out hx
        have HRx := Lib.hid hRx
        clear hRx hx
        go_wp2_with fail
        all_goals
          refine (HC.out _ (by simp) _ (by omega) _ (by omega)).mono ?_
          rintro e w2 ⟨rfl, hb2⟩
          unfold out
          go_wp2_with fail
          go_ret3
          refine ⟨none, 0, 0, ?_, ?_, (hbel.trans (hb2.mono hz)).alloc (Nat.le_trans hz hb2.size) _⟩
          · rw [HRx.out]; rfl
          · rw [HRx.out]; exact FSl.none
    · skip
      have slA : Sl wr (if c = at_ then A else A.map (·.add at_)) (n - at_) (c - at_) (l.drop at_) := by
        have h := HS.out.step hbel
        have hl := h.len
        have r1 := row_cut (n := at_) (cap := c) h.row (by omega) (by omega)
        refine ⟨by rw [List.length_drop]; omega, r1, by omega, by unfold maxLen; omega, fun hh => ?_⟩
        split at hh
        · have := h.nil hh; omega
        · cases A with
          | none => have := h.nil rfl; omega
          | some a => cases hh
      have hcall := fun (A' : Option Addr) (hA : A' = if c = at_ then A else A.map (·.add at_)) (c' : Nat) (hc' : c' = c - at_) (m' : Nat) (hm' : m' = n - at_) => (show Calls Try.prog 23 #[.slice A' m' c'] wr fun e w' => e = out (dec (l.drop at_)).k (dec (l.drop at_)).v (dec (l.drop at_)).n (dec (l.drop at_)).z (dec (l.drop at_)).c ∧ Below wr.heap.size wr w' from by
        subst hA hc' hm'
        exact F2g.dec_r _ (n - at_) (c - at_) (l.drop at_) wr slA (by omega))
      have d1 := dl_err (b := l) (f := 16 - acc.length) (at_ := at_) (acc := acc)
      have d2 := dl_end (b := l) (f := 16 - acc.length) (at_ := at_) (acc := acc)
      have d3 := dl_many (b := l) (at_ := at_) (acc := acc)
      have d4 := dl_next (b := l) (f := 15 - acc.length) (at_ := at_) (acc := acc)
      have hle := dec_le (l.drop at_)
      rw [List.length_drop, ← HL.out] at hle
      generalize dec (l.drop at_) = D at *
      obtain ⟨k, v, m, z, x⟩ := D
      simp only at hcall d1 d2 d3 d4 hle
      have HC := Lib.hid hcall
      have D1 := Lib.hid d1
      have D2 := Lib.hid d2
      have D3 := Lib.hid d3
      have D4 := Lib.hid d4
      clear hcall slA d1 d2 d3 d4 hn2
      by_cases hx : x = 0
      · subst hx
        cases z
        · by_cases h16 : acc.length = 16
          · have hRx : R = (3, 0, []) := by have := HRR.out; rw [h16] at this; rw [this]; exact D3.out rfl rfl
            have HRx := Lib.hid hRx
            have t16 : ((n2 : Int) == 16) = true := by rw [beq_iff_eq]; have := HN2.out; omega
            clear hRx h16
            go_wp2_with fail
            all_goals
              refine (HC.out _ (by simp_all) _ (by omega) _ (by omega)).mono ?_
              rintro e w2 ⟨rfl, hb2⟩
              unfold out
              go_wp2_with fail
              go_ret3
              refine ⟨none, 0, 0, ?_, ?_, (hbel.trans (hb2.mono hz)).alloc (Nat.le_trans hz hb2.size) _⟩
              · rw [HRx.out]; rfl
              · rw [HRx.out]; exact FSl.none
          · have hRx : R = dl l (15 - acc.length) (at_ + m) (acc ++ [(k, ⟨v.toArray⟩)]) := by
              have := HRR.out
              rw [show 16 - acc.length = (15 - acc.length) + 1 by omega] at this
              rw [this]; exact D4.out rfl rfl
            have HRx := Lib.hid hRx
            have t16 : ((n2 : Int) == 16) = false := by rw [beq_eq_false_iff_ne]; have := HN2.out; omega
            have ha15 : acc.length ≤ 15 := by omega
            clear hRx h16
            go_wp2_with fail
            all_goals
              refine (HC.out _ (by simp_all) _ (by omega) _ (by omega)).mono ?_
              rintro e w2 ⟨rfl, hb2⟩
              unfold out
              have hbw2 : Below w.heap.size w w2 := hbel.trans (hb2.mono hz)
              have hown2 : FOwn w.heap.size w2 (.slice A2 n2 c2) acc := World.ownsRow.kept hown (⟨hb2.os, hb2.tape, hb2.output, hb2.size, fun i hi _ => hb2.block i hi⟩ : wr.grownBy w2 none) (by cases Value.ownBlock (.slice A2 n2 c2) <;> simp)
              have hst2 : (w2.alloc (.cells #[.int .i64 k, .string ⟨v.toArray⟩] 23)).heap[w2.heap.size]? = some (.cells #[.int .i64 k, .string ⟨v.toArray⟩] 23 (0, 0)) := heap_alloc_new w2 _
              have hb3 : Below w.heap.size w (w2.alloc (.cells #[.int .i64 k, .string ⟨v.toArray⟩] 23)) := hbw2.alloc hbw2.size _
              have hown3 : FOwn w.heap.size (w2.alloc (.cells #[.int .i64 k, .string ⟨v.toArray⟩] 23)) (.slice A2 n2 c2) acc := World.ownsRow.alloc hown2 _
              go_wp2_with (at_builtin; go_loud (refine wpList_append_f _ rfl _ _ rfl w.heap.size _ acc rfl (World.ownsRow.alloc hown3 _) k ⟨v.toArray⟩ _ 1 rfl (new_pair _ _ (by simp) _ _ _).1 (new_pair _ _ (by simp) _ _ _).2 (by omega) (by have := hbw2.size; simp; omega) ?_); intro v1 w5 hown5 hg5)
              have hbw5 := below_grown' (hb3.alloc (by have := hbw2.size; simp; omega) _) (World.ownsRow.alloc hown3 _) hg5 (by have := hbw2.size; simp; omega)
              have hlen5 : lenOf v1 = acc.length + 1 := by
                obtain ⟨A5, n5, c5, rfl, fs5⟩ := hown5.sl
                have := fs5.len
                rw [List.length_append] at this
                exact this
              refine ⟨⟨at_ + m, acc ++ [(k, ⟨v.toArray⟩)], by omega, by simp; omega, vi (by omega), by rw [hlen5, List.length_append]; rfl, hown5, ?_, hbw5⟩, ?_⟩
              · rw [HRx.out, List.length_append, show 16 - (acc.length + [(k, (⟨v.toArray⟩ : ByteArray))].length) = 15 - acc.length by simp <;> omega]
              · rw [hlen5, show lenOf (.slice A2 n2 _) = acc.length from HN2.out]; omega
        · have hRx : R = (0, at_ + m, acc) := by rw [HRR.out]; exact D2.out rfl rfl
          have HRx := Lib.hid hRx
          clear hRx
          go_wp2_with fail
          all_goals
            refine (HC.out _ (by simp_all) _ (by omega) _ (by omega)).mono ?_
            rintro e w2 ⟨rfl, hb2⟩
            unfold out
            have fs3 := (fs2.step hb2).step ((Below.refl _ _).alloc (Nat.le_refl _) (.cells #[.int .i64 k, .string ⟨v.toArray⟩] 23))
            go_wp2_with fail
            go_ret3
            refine ⟨A2, n2, c2, ?_, ?_, (hbel.trans (hb2.mono hz)).alloc (Nat.le_trans hz hb2.size) _⟩
            · rw [HRx.out]; rfl
            · rw [HRx.out]; exact fs3
      · have hxx : (x != 0) = true := by simpa using hx
        have hRx : R = (x, 0, []) := by rw [HRR.out]; exact D1.out hx
        have HRx := Lib.hid hRx
        clear hRx hx
        go_wp2_with fail
        all_goals
          refine (HC.out _ (by simp_all) _ (by omega) _ (by omega)).mono ?_
          rintro e w2 ⟨rfl, hb2⟩
          unfold out
          go_wp2_with fail
          go_ret3
          refine ⟨none, 0, 0, ?_, ?_, (hbel.trans (hb2.mono hz)).alloc (Nat.le_trans hz hb2.size) _⟩
          · rw [HRx.out]; rfl
          · rw [HRx.out]; exact FSl.none
end Go.Proofs.Ytkhdldemhaifpaa.Fl
