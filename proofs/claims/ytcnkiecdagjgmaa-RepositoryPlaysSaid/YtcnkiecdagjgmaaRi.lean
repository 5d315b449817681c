/- Walks: a record is deleted; Clear; the IDs. -/
import Derived.Test.YtcnkiecdagjgmaaRh
import Derived.Lib.SliceRun
namespace Go.Proofs.Ytcnkiecdagjgmaa.R11
open Go.RowKit Go.Proofs.Ytcnkiecdagjgmaa.Mem
set_option maxRecDepth 100000
set_option maxHeartbeats 1000000

def zeroK : Array Value := #[.int .u16 0, .slice none 0 0]
def flatK (n : Nat) : List Value := (Builtin.zeroCells zeroK n).toList
theorem flat_len (n : Nat) : (flatK n).length = n * 2 := by
  unfold flatK Builtin.zeroCells
  simp [zeroK]
theorem run_clear_k (w : World) (ty : TypeId) (b o n c : Nat) (ht : w.there b o (n * 2)) :
    (Builtin.clear_ #[127] ty #[.slice (some ⟨b, o, none⟩) n c]).run Try.prog w = .ok (.tuple #[]) (w.setCells b o (flatK n)) := by
  have hone : ∀ v ∈ flatK n, v.oneCell' = true := fun v hv => by
    unfold flatK Builtin.zeroCells at hv
    simp only [Array.toList_map, List.mem_map] at hv
    obtain ⟨i, -, rfl⟩ := hv
    have hlt : i % zeroK.size < zeroK.size := Nat.mod_lt _ (by decide)
    rw [getElem!_pos zeroK _ hlt]
    exact Array.all_eq_true_iff_forall_mem.1 (by simp [zeroK, Value.oneCell']) _ (Array.getElem_mem hlt)
  have hst := run_storeCells_cells (P := Try.prog) b o (flatK n) 0 w (by rw [flat_len]; exact fun j hj => by simpa using (ht j hj).1) (by rw [flat_len]; exact fun j hj => by simpa using (ht j hj).2) hone
  simp only [Nat.add_zero] at hst
  have hv : ∀ u : World, (zeroValue 134).run Try.prog u = .ok (.agg zeroK) u := fun u => by
    obtain ⟨i, hi, hz0, hz1, hz2⟩ := info_parts infoK
    simp [zeroValue, typeInfo, hi, hz0, zeroK]
  have hzc : (Value.agg zeroK).cells = zeroK := rfl
  rcases Nat.eq_zero_or_pos n with rfl | hn
  · have h0 : flatK 0 = [] := List.eq_nil_of_length_eq_zero (by rw [flat_len])
    rw [h0]
    simp [Builtin.clear_, run_underlying Try.underlying127]
    rfl
  · obtain ⟨m, rfl⟩ : ∃ m, n = m + 1 := ⟨n - 1, by omega⟩
    have hst' : (storeCells ⟨b, o, none⟩ (Builtin.zeroCells zeroK (m + 1)).toList).run Try.prog w = .ok () (w.setCells b o (flatK (m + 1))) := hst
    simp [Builtin.clear_, run_underlying Try.underlying127, hv, hzc, hst']
/-! Several cells of a row of the call's own. -/
def sets (xs : List Value) : Nat → List Value → List Value
  | _, [] => xs
  | o, v :: r => sets (xs.set o v) (o + 1) r
section
variable {base e size n g cap : Nat}
theorem grown_refl (w : World) (b : Option Nat) : w.grownBy w b := ⟨rfl, rfl, rfl, Nat.le_refl _, fun _ _ _ => rfl⟩
theorem own_sets : ∀ (vs : List Value) (o : Nat) (w : World) (xs : List Value), w.ownsRow base e size (.slice (some ⟨g, 0, none⟩) n cap) n xs →
    (w.setCells g o vs).ownsRow base e size (.slice (some ⟨g, 0, none⟩) n cap) n (sets xs o vs) ∧ w.grownBy (w.setCells g o vs) (some g)
  | [], _, w, _, h => ⟨h, grown_refl w _⟩
  | v :: r, o, w, xs, h => by
    obtain ⟨h1, h2⟩ := World.ownsRow.stored h o v
    obtain ⟨h3, h4⟩ := own_sets r (o + 1) _ _ h1
    exact ⟨h3, grown_trans h2 h4⟩
theorem own_there {w : World} {xs : List Value} (h : w.ownsRow base e size (.slice (some ⟨g, 0, none⟩) n cap) n xs) (o k : Nat) (hk : o + k ≤ xs.length) : w.there g o k := fun j hj => by
  refine ⟨?_, World.ownsRow.frozenAt h (o + j)⟩
  have := World.ownsRow.cells h (g := g) rfl (o + j) _ (List.getElem?_eq_getElem (by omega : o + j < xs.length))
  rw [show (⟨g, o + j, none⟩ : Addr) = (⟨g, 0, none⟩ : Addr).add (o + j) by rw [Addr.add_mid, Nat.zero_add], this]
  rfl
theorem own_trunc {w : World} {xs : List Value} (h : w.ownsRow base e size (.slice (some ⟨g, 0, none⟩) n cap) n xs) (i : Nat) (hi : i ≤ n) : w.ownsRow base e size (.slice (some ⟨g, 0, none⟩) i cap) i (xs.take (i * size)) := by
  have hle : i * size ≤ n * size := Nat.mul_le_mul_right _ hi
  rcases h.2 with ⟨hv, _⟩ | ⟨g', cap', cur, hv, h1, h2, h3, h4, h5, h6⟩
  · cases hv
  · injection hv with e1 e2 e3
    injection e1 with e1
    injection e1 with e1
    subst e1 e3
    refine ⟨by rw [List.length_take, h.1]; omega, .inr ⟨g, cap, cur, rfl, h1, h2, by omega, h4, h5, ?_⟩⟩
    rw [← h6, List.take_take, Nat.min_eq_left hle]
end
theorem sets_len : ∀ (vs : List Value) (xs : List Value) (o : Nat), (sets xs o vs).length = xs.length
  | [], _, _ => rfl
  | v :: r, xs, o => by rw [sets, sets_len r, List.length_set]
theorem sets_take : ∀ (vs : List Value) (xs : List Value) (o k : Nat), k ≤ o → (sets xs o vs).take k = xs.take k
  | [], _, _, _, _ => rfl
  | v :: r, xs, o, k, h => by rw [sets, sets_take r _ _ _ (by omega), List.take_set_of_le h]
theorem sets_shift : ∀ (vs : List Value) (a xs : List Value) (o : Nat), sets (a ++ xs) (a.length + o) vs = a ++ sets xs o vs
  | [], _, _, _ => rfl
  | v :: r, a, xs, o => by
    rw [sets, List.set_append_right _ _ (by omega), Nat.add_sub_cancel_left, Nat.add_assoc, sets_shift r, sets]
theorem sets_front : ∀ (vs : List Value) (a xs : List Value), a.length = vs.length → sets (a ++ xs) 0 vs = vs ++ xs
  | [], a, xs, h => by rw [List.length_eq_zero_iff.1 h]; rfl
  | v :: r, a, xs, h => by
    obtain ⟨b, a', rfl⟩ : ∃ b a', a = b :: a' := by
      cases a with
      | nil => cases h
      | cons b a' => exact ⟨b, a', rfl⟩
    rw [sets]
    show sets ((v :: a') ++ xs) (0 + 1) r = _
    have h1 := sets_shift r [v] (a' ++ xs) 0
    have h2 := sets_front r a' xs (by simpa using h)
    rw [h2] at h1
    exact h1
theorem sets_out : ∀ (vs : List Value) (xs : List Value) (o : Nat), xs.length ≤ o → sets xs o vs = xs
  | [], _, _, _ => rfl
  | v :: r, xs, o, h => by rw [sets, List.set_eq_of_length_le h, sets_out r _ _ (by omega)]
/-- Cells of the block, behind the slice's length too. -/
theorem own_there2 {base e size n g cap : Nat} {w : World} {xs : List Value} (h : w.ownsRow base e size (.slice (some ⟨g, 0, none⟩) n cap) n xs) (o k : Nat) (hk : o + k ≤ cap * size) : w.there g o k := fun j hj => by
  refine ⟨?_, World.ownsRow.frozenAt h (o + j)⟩
  rcases h.2 with ⟨hv, _⟩ | ⟨g', cap', cur, hv, h1, h2, h3, h4, h5, h6⟩
  · cases hv
  · injection hv with e1 e2 e3
    injection e1 with e1
    injection e1 with e1
    subst e1 e3
    rw [cell_of_row w g (o + j) _ _ _ h2, Array.getElem?_eq_getElem (by rw [h5]; omega)]
    rfl
/-- The append for which there is room, as one step of a region that draws. -/
theorem step_append_kfit (w : World) {ops : Array Oper} {o : Oper} {a : Act} {K : Act → World → Prop} {Q : Exit → Act → World → Prop} {E : Prop} (hgd : o.guard = none) (s x : Operand)
    (ho : o.op = .call { callee := .builtin .append, args := #[s, x], argTypes := #[127, 127] })
    (base g k cap : Nat) (l : List Rk) (hs : a.eval s = .slice (some ⟨g, 0, none⟩) k cap) (hown : w.ownsRow base 134 2 (.slice (some ⟨g, 0, none⟩) k cap) k (kvs l)) (m : List Rk) (p : Addr) (n c : Nat) (hx : a.eval x = .slice (some p) n c) (hn : n = m.length) (hm : KsAt w p m)
    (hroom : k + n ≤ cap)
    (h : ∀ w', w'.ownsRow base 134 2 (.slice (some ⟨g, 0, none⟩) (k + n) cap) (k + n) (kvs (l ++ m)) → w.grownBy w' (some g) → K (a.put o.dst (.slice (some ⟨g, 0, none⟩) (k + n) cap)) w') : if Region.wanted o (yielded ops a.tmps) = true then Oper.wp Try.prog o a w K Q else E := by
  have hw : Region.wanted o (yielded ops a.tmps) = true := by simp [Region.wanted, hgd]
  rw [if_pos hw]
  obtain ⟨i, hi, hz0, hz1, hz2⟩ := info_parts infoK
  obtain ⟨w', hrun, h2, h3⟩ := run_append_fits (P := Try.prog) w base 127 o.type 134 i 2 Try.underlying127 hi hz1 g k cap (kvs l) hown p n c (kvs m) (by rw [kvs_len, hn]) hm (kvs_one m) hroom
  rw [← kvs_app] at h2
  unfold Oper.wp execOp
  simp only [ho, resolve, invoke, builtin, Sem.run_bind, Sem.run_pure, Result.andThen_ok, List.map_toArray, List.map_cons, List.map_nil, hs, hx, hrun]
  exact h w' h2 h3
theorem kvs_take (l : List Rk) (k : Nat) (hk : k ≤ l.length) : (kvs l).take (k * 2) = kvs (l.take k) := by
  have h := kvs_app (l.take k) (l.drop k)
  rw [List.take_append_drop] at h
  rw [h, List.take_left' (by rw [kvs_len, List.length_take, Nat.min_eq_left hk])]
theorem kvs_drop (l : List Rk) (k : Nat) (hk : k ≤ l.length) : (kvs l).drop (k * 2) = kvs (l.drop k) := by
  have h := kvs_app (l.take k) (l.drop k)
  rw [List.take_append_drop] at h
  rw [h, List.drop_left' (by rw [kvs_len, List.length_take, Nat.min_eq_left hk])]
theorem sdel_p (base g i c n : Nat) (l : List Rk) (w : World) (hn : n = l.length) (hown : w.ownsRow base 134 2 (.slice (some ⟨g, 0, none⟩) n c) n (kvs l)) (hi : i < n) (hc : n ≤ c) (hm : c ≤ maxLen) (hl : n ≤ 1000) :
    Calls Try.prog 112 #[.slice (some ⟨g, 0, none⟩) n c, .int .i64 (i : Int), .int .i64 ((i : Int) + 1)] w fun e w' =>
      ∃ n' c', e = .returned (.slice (some ⟨g, 0, none⟩) n' c') ∧ KOwn base w' (.slice (some ⟨g, 0, none⟩) n' c') (l.eraseIdx i) ∧ w.grownBy w' (some g) := by
  have hcm : c ≤ 2 ^ 63 - 1 := hm
  obtain ⟨j, hj⟩ : ∃ j : Nat, j = i + 1 := ⟨_, rfl⟩
  rw [show ((i : Int) + 1) = (j : Int) by omega]
  have e0 : ((i : Int) == (j : Int)) = false := by simp; omega
  have hjn : j ≤ n := by omega
  have hij : i ≤ j := by omega
  have htr := own_trunc hown i (by omega)
  rw [kvs_take l i (by omega)] at htr
  have hsrc : KsAt w ⟨g, j * 2, none⟩ (l.drop j) := fun q v hv => by
    rw [← kvs_drop l j (by omega), List.getElem?_drop] at hv
    have h2 := World.ownsRow.cells hown (g := g) rfl (j * 2 + q) v hv
    rw [Addr.add_mid, Nat.zero_add] at h2
    rw [Addr.add_mid]
    exact h2
  have hdl : n - j = (l.drop j).length := by rw [List.length_drop, hn]
  have her : l.eraseIdx i = l.take i ++ l.drop j := by rw [List.eraseIdx_eq_take_drop_succ, hj]
  have hlen2 : (l.eraseIdx i).length = i + (n - j) := by rw [her, List.length_append, List.length_take, ← hdl]; omega
  have hroom : i + (n - j) ≤ c := by omega
  have htl : (l.take i).length = i := by rw [List.length_take]; omega
  have HTR := Lib.hid htr
  have HSRC := Lib.hid hsrc
  have HDL := Lib.hid hdl
  have HER := Lib.hid her
  have HL2 := Lib.hid hlen2
  have hsm : i + (n - j) + 1 = n := by omega
  have HSM := Lib.hid hsm
  have HJ := Lib.hid hj
  have HNL := Lib.hid hn
  clear htr hsrc hdl her hlen2 hown hn htl hsm hj
  have hic : i ≤ c := by omega
  rcases Nat.lt_or_ge j c with hjc | hjc
  · have hcj : ¬ c = j := by omega
    go_enter Try.func112, Try.ntmps112
    go_wp2_with fail
    go_region_law (first
      | (go_loud (refine step_append_kfit _ rfl (.tmp 22) (.tmp 25) rfl base g i c (l.take i) rfl (by exact HTR.out) (l.drop j) ⟨g, j * 2, none⟩ (n - j) (c - j) rfl HDL.out (by exact HSRC.out) hroom ?_); intro w5 ho5 hg5))
    all_goals
      generalize hM : i + (n - j) = M at *
      have hMn : M + 1 = n := by have := HSM.out; omega
      have hcM : ¬ c = M := by omega
      have hMc : M ≤ n := by omega
      have hth := own_there2 ho5 (M * 2) ((n - M) * 2) (by omega)
      have hclr := run_clear_k w5 0 g (M * 2) (n - M) (c - M) hth
      have hst := own_sets (flatK (n - M)) (M * 2) _ _ ho5
      rw [sets_out _ _ _ (by rw [kvs_len, List.length_append, List.length_take, List.length_drop]; have := HNL.out; have := HJ.out; omega), ← HER.out] at hst
      have HST := Lib.hid hst
      have HMQ := Lib.hid (show (l.eraseIdx i).length = M from HL2.out)
      clear hth hst hM
      go_wp2_with fail
      go_ret
      refine ⟨M, c, rfl, ?_, grown_trans (show w.grownBy w5 (some g) from ⟨hg5.os, hg5.tape, hg5.output, hg5.size, hg5.block⟩) HST.out.2⟩
      unfold KOwn
      rw [HMQ.out]
      exact HST.out.1
  · obtain rfl : j = c := by omega
    obtain rfl : n = j := by omega
    go_enter Try.func112, Try.ntmps112
    go_wp2_with fail
    go_region_law (first | (fail))
    have hMn : i + 1 = n := by have := HJ.out; omega
    have hcM : ¬ n = i := by omega
    have hMc : i ≤ n := by omega
    have ho5 : (w.drew).ownsRow base 134 2 (.slice (some ⟨g, 0, none⟩) i n) i (kvs (l.take i)) := HTR.out
    have hth := own_there2 ho5 (i * 2) ((n - i) * 2) (by omega)
    have hclr := run_clear_k w.drew 0 g (i * 2) (n - i) (n - i) hth
    have hst := own_sets (flatK (n - i)) (i * 2) _ _ ho5
    have hee : l.eraseIdx i = l.take i := by rw [HER.out, List.drop_of_length_le (by have := HNL.out; omega), List.append_nil]
    rw [sets_out _ _ _ (by rw [kvs_len, List.length_take]; omega), ← hee] at hst
    have HST := Lib.hid hst
    have HMQ := Lib.hid (show (l.eraseIdx i).length = i from HL2.out.trans (by omega))
    clear hth hst ho5 hee
    go_wp2_with fail
    go_ret
    refine ⟨i, n, rfl, ?_, ⟨HST.out.2.os, HST.out.2.tape, HST.out.2.output, HST.out.2.size, HST.out.2.block⟩⟩
    unfold KOwn
    rw [HMQ.out]
    exact HST.out.1
section
variable {B : Nat} {W w w' : World} {g : Nat} {rv rv' : Value} {S S' : Rp}
/-- What Delete answers. -/
def Rp.delE (S : Rp) (v i : Nat) : Nat := if S.valid v = false then 11 else if has S.recs i then 0 else 8
theorem del_no (h : RA B W w g rv S) (v i : Nat) (he : S.delE v i ≠ 0) : Calls Try.prog 59 #[.pointer (some ⟨g, 0, none⟩), .int .u16 (v : Int), .int .u16 (i : Int)] w fun e w' => e = .returned (.int .i64 (S.delE v i : Int)) ∧ Below w.heap.size w w' := by
  have HV := valid_p h v
  have HF := find_p h i
  unfold Rp.delE at *
  by_cases hv : S.valid v = false
  · rw [if_pos hv]
    rw [hv] at HV
    have HV := Lib.hid HV
    clear h HF he hv
    go_enter Try.func59, Try.ntmps59
    go_wp2_with fail
    refine HV.out.mono ?_
    rintro e w1 ⟨rfl, hw1⟩
    rw [hw1]
    clear hw1 w1
    go_wp2_with fail
    go_ret
    exact ⟨rfl, Below.refl _ _⟩
  · rw [if_neg hv] at he ⊢
    rw [Bool.not_eq_false] at hv
    rw [hv] at HV
    have hh : has S.recs i = false := by
      rcases hq : has S.recs i with _ | _
      · rfl
      · rw [hq] at he; exact absurd rfl he
    rw [hh]
    rw [ixOf_no hh] at HF
    have HV := Lib.hid HV
    have HF := Lib.hid HF
    clear h he hv hh
    go_enter Try.func59, Try.ntmps59
    go_wp2_with fail
    refine HV.out.mono ?_
    rintro e w1 ⟨rfl, hw1⟩
    rw [hw1]
    clear hw1 w1
    go_wp2_with fail
    refine HF.out.mono ?_
    rintro e w1 ⟨rfl, hb1⟩
    go_wp2_with fail
    go_ret
    exact ⟨rfl, hb1⟩
theorem del_p (h : RA B W w g rv S) (ok : S.Ok) (v i : Nat) (he : S.delE v i = 0) : Calls Try.prog 59 #[.pointer (some ⟨g, 0, none⟩), .int .u16 (v : Int), .int .u16 (i : Int)] w fun e w' => ∃ rv', e = .returned (.int .i64 0) ∧ RA B W w' g rv' (S.gone (S.recs.findIdx fun r => decide (r.id = i))) ∧ Kp g rv rv' w w' := by
  have HV := valid_p h v
  have HF := find_p h i
  unfold Rp.delE at he
  have hv : S.valid v = true := by
    rcases hq : S.valid v with _ | _
    · rw [hq] at he; cases he
    · rfl
  rw [if_neg (by rw [hv]; decide)] at he
  have hh : has S.recs i = true := by
    rcases hq : has S.recs i with _ | _
    · rw [hq] at he; cases he
    · rfl
  obtain ⟨k, hk1, hk2, hk3⟩ := ixOf_yes hh
  rw [← hk3]
  rw [hk2] at HF
  rw [hv] at HV
  have HV := Lib.hid HV
  have HF := Lib.hid HF
  have HH := Lib.hid h
  obtain ⟨g1, cc, rfl, hg1, hc1, hc2⟩ := h.own.form (by omega)
  have hlen := ok.len
  obtain ⟨n, hn⟩ : ∃ n, n = S.recs.length := ⟨_, rfl⟩
  have HD := Lib.hid fun V (hV : RA B W V g (.slice (some ⟨g1, 0, none⟩) S.recs.length cc) S) => sdel_p B g1 k cc S.recs.length S.recs V rfl hV.own hk1 hc1 hc2 (by omega)
  rw [← hn] at HD HH hk1 hc1 hlen ⊢
  have hlg := h.lg
  have HKN := Lib.hid hk1
  have hcm : n ≤ 2 ^ 63 - 1 := by omega
  clear h ok he hv hh hk2 hk3 hc2 hg1 hn
  go_enter Try.func59, Try.ntmps59
  go_wp2_with fail
  refine HV.out.mono ?_
  rintro e w1 ⟨rfl, hw1⟩
  rw [hw1]
  clear hw1 w1 HV
  go_wp2_with fail
  refine HF.out.mono ?_
  rintro e w1 ⟨rfl, hb1⟩
  have H1 := HH.out.step hb1
  have c1 := H1.c1
  have HB1 := Lib.hid hb1
  have HH1 := Lib.hid H1
  clear hb1 H1 HH HF
  go_wp2_with fail
  refine (HD.out _ HH1.out).mono ?_
  rintro e w2 ⟨n', c', rfl, ho2, hg2⟩
  have hcg := hg2.block g HH1.out.lg (fun e => (HH1.out.r1 e.symm).1 rfl)
  have c1 := (World.cell?_of_block (a := ⟨g, 1, none⟩) hcg).trans HH1.out.c1
  have f1 := frozen_of_row w2 g 1 _ _ (hcg.trans HH1.out.head)
  have hfin := HH1.out.recs (S' := { S with recs := S.recs.eraseIdx k }) hg2 ho2 (fun r hr => HH1.out.rows r ((List.eraseIdx_sublist _ _).subset hr)) rfl
  have kfin := (Kp.of_below (g := g) (rv := .slice (some ⟨g1, 0, none⟩) n cc) HB1.out (Nat.le_refl _)).trans (HH1.out.kprecs (rv' := .slice (some ⟨g1, 0, none⟩) n' c') hg2 (.inl rfl))
  have hfin := Lib.hid hfin
  have kfin := Lib.hid kfin
  have c4 := hfin.out.c4
  have f4 := hfin.out.fz 4
  dsimp only at c4
  clear ho2 hg2 hcg HD HB1 HH1
  go_wp2_with fail
  go_ret
  exact ⟨_, rfl, hfin.out.put0 4 (.bool false) rfl rfl, kfin.out.trans (Kp.put _ 4)⟩
theorem clr_no (h : RA B W w g rv S) (v : Nat) (hv : S.valid v = false) : Calls Try.prog 61 #[.pointer (some ⟨g, 0, none⟩), .int .u16 (v : Int)] w fun e w' => e = .returned (.int .i64 11) ∧ w' = w := by
  have HV := valid_p h v
  rw [hv] at HV
  have HV := Lib.hid HV
  clear h hv
  go_enter Try.func61, Try.ntmps61
  go_wp2_with fail
  refine HV.out.mono ?_
  rintro e w1 ⟨rfl, hw1⟩
  rw [hw1]
  clear hw1 w1
  go_wp2_with fail
  go_ret
  exact ⟨rfl, rfl⟩
theorem clr_p (h : RA B W w g rv S) (v : Nat) (hv : S.valid v = true) : Calls Try.prog 61 #[.pointer (some ⟨g, 0, none⟩), .int .u16 (v : Int)] w fun e w' => e = .returned (.int .i64 0) ∧ RA B W w' g (.slice none 0 0) S.clr ∧ Kp g rv (.slice none 0 0) w w' := by
  have HV := valid_p h v
  rw [hv] at HV
  have HV := Lib.hid HV
  have c1 := h.c1
  have c4 := h.c4
  have f1 := h.fz 1
  have f4 := h.fz 4
  have hlg := h.lg
  have p1 := h.put 1 (.slice none 0 0) (.slice none 0 0) (S' := { S with recs := [] }) rfl KOwn.nil (fun r hr => by cases hr)
  have p2 := p1.put0 4 (.bool false) (S' := S.clr) rfl rfl
  have k1 : Kp g rv (.slice none 0 0) w (w.setCell ⟨g, 1, none⟩ (.slice none 0 0)) := by
    have hs := set_grown w g 1 (.slice none 0 0)
    exact ⟨hs.os, hs.tape, hs.output, hs.size, fun j hj e f => ⟨hs.block j hj (fun x => e (by injection x)), fun e => by cases e⟩⟩
  have H := Lib.hid (And.intro p2 (k1.trans (Kp.put (.bool false) 4)))
  obtain ⟨A1, n1, cc1, rfl, -⟩ := h.own.sl
  clear h hv p1 p2 k1
  go_enter Try.func61, Try.ntmps61
  go_wp2_with fail
  refine HV.out.mono ?_
  rintro e w1 ⟨rfl, hw1⟩
  rw [hw1]
  clear hw1 w1
  go_wp2_with fail
  go_ret
  exact ⟨rfl, H.out⟩
end
theorem rd_new_at (w : World) (g : Nat) (cs : Array Value) (t : TypeId) (xs : List Value) (hg : g = w.heap.size) (h : cs.toList = xs) (fr : Nat × Nat := (0, 0)) : Rd (g + 1) (w.alloc (.cells cs t fr)) (some ⟨g, 0, none⟩) xs := by
  subst hg h
  exact Rd.new w cs t fr
/-! A row of Go's uint16 of the call's own. -/
def hvs (l : List Nat) : List Value := l.map fun (x : Nat) => Value.int .u16 (x : Int)
def HOwn (base : Nat) (w : World) (v : Value) (l : List Nat) : Prop := w.ownsRow base 30 1 v l.length (hvs l)
theorem info16 : (Try.prog.info? 30).map (fun i => (i.zero, i.size, i.bytes)) = some (some (.int .u16 0), 1, 2) := by kernel_rfl
theorem hvs_one (l : List Nat) : ∀ u ∈ hvs l, u.oneCell' = true := by
  intro u hu
  obtain ⟨x, _, rfl⟩ := List.mem_map.1 hu
  rfl
theorem HOwn.nil {base : Nat} {w : World} : HOwn base w (.slice none 0 0) [] := ⟨by simp [hvs], .inl ⟨rfl, by simp⟩⟩
section
variable {B : Nat} {W w w' : World} {g : Nat} {rv rv' : Value} {S S' : Rp}
theorem ids_p (h : RA B W w g rv S) (ok : S.Ok) : Calls Try.prog 66 #[.pointer (some ⟨g, 0, none⟩)] w fun e w' => ∃ v, e = .returned v ∧ HOwn w.heap.size w' v (S.recs.map (·.id)) ∧ Below w.heap.size w w' := by
  obtain ⟨i0, hi, hz0, hz1, hz2⟩ := info_parts info16
  have c1 := h.c1
  have hlen := ok.len
  have hlg := h.lg
  obtain ⟨A, n, c, rfl, hs⟩ := h.own.sl
  have HS := Lib.hid hs
  have HN := Lib.hid hs.len
  have hn64 : n ≤ 64 := by rw [hs.len]; exact hlen
  have hcm : n ≤ 2 ^ 63 - 1 := Nat.le_trans hs.cap hs.max
  clear h hs ok
  generalize S.recs = l at *
  go_enter Try.func66, Try.ntmps66
  go_wp2_with fail
  clear c1
  go_loopw [3, 11] (fun v jv wr => ∃ j : Nat, j ≤ n ∧ jv = .int .i64 (j : Int) ∧ HOwn w.heap.size wr v ((l.take j).map (·.id)) ∧ Below w.heap.size w wr) (fun _ jv _ => n - (intOf jv).toNat)
  case atStart => exact ⟨0, Nat.zero_le _, rfl, by simpa using HOwn.nil, Below.refl _ _⟩
  case round =>
    obtain ⟨j, hj, rfl, hown, hbel⟩ := hrel
    rcases Nat.lt_or_ge j n with hlt | hge
    · have n1 : (j : Int) < (n : Int) := by omega
      have n2 : (0 : Int) ≤ (j : Int) := by omega
      have hjl : j < l.length := by have := HN.out; omega
      obtain ⟨a, rfl, hab, k0⟩ := krow_k (HS.out.step hbel).row hjl
      have hsn : (l.take (j + 1)).map (·.id) = (l.take j).map (·.id) ++ [l[j].id] := by rw [List.take_succ_eq_append_getElem hjl, List.map_append]; rfl
      have HSN := Lib.hid hsn
      have hln : ((l.take j).map (·.id)).length ≤ 64 := by rw [List.length_map, List.length_take]; omega
      have HK := Lib.hid k0
      clear hsn k0
      generalize l[j] = r at *
      generalize (l.take j).map (·.id) = D at *
      have hal : Below w.heap.size w (wr.alloc (.cells r.cells 134)) := hbel.alloc hbel.size _
      have ho1 : HOwn w.heap.size (wr.alloc (.cells r.cells 134)) u3 D := World.ownsRow.alloc hown _
      obtain ⟨rid, rblk, rcap, rb⟩ := r
      dsimp only [Rk.cells] at hal ho1
      have HAL := Lib.hid hal
      have HO1 := Lib.hid ho1
      clear hal ho1
      go_wp2_with (refine wpList_load_k rfl (.tmp 13) rfl (a.add (j * 2)) _ rfl HK.out ?_; refine Hid.out ?_)
      dsimp only [Rk.v, Rk.cells]
      refine Lib.hid ?_
      go_wp2_with (first
        | (at_builtin; go_loud (refine wpList_append_rd _ rfl (.tmp 15) (.tmp 18) _ rfl w.heap.size 30 i0 _ 2 Try.underlying99 hi hz0 hz1 hz2 rfl u3 D.length (hvs D) rfl (World.ownsRow.alloc HO1.out _) _ _ 1 1 (hvs [rid]) rfl rfl (rd_new_at _ _ _ _ _ (by simp) rfl) (fun hh => by cases hh) (hvs_one _) (by unfold maxLen; omega) (by omega) (by have := HAL.out.size; simp at this ⊢; omega) ?_); intro v' w1 hown1 hg1))
      have hbel1 : Below w.heap.size w w1 := below_grown ((HAL.out).alloc HAL.out.size _) (World.ownsRow.alloc HO1.out _) hg1 (by have := HAL.out.size; simp at this ⊢; omega)
      go_roundw
      case rel => exact ⟨j + 1, by omega, by go_num, by rw [HSN.out]; unfold HOwn hvs at *; rw [List.map_append, List.length_append]; exact hown1, hbel1⟩
      case measure => simp [intOf]; omega
    · have n1 : ¬ (j : Int) < (n : Int) := by omega
      obtain rfl : j = n := Nat.le_antisymm hj hge
      have htk : l.take j = l := List.take_of_length_le (by have := HN.out; omega)
      rw [htk] at hown
      have HO := Lib.hid hown
      clear hown htk hge hj
      go_wp2_with fail
      go_ret
      exact ⟨_, rfl, HO.out, hbel⟩
end
end Go.Proofs.Ytcnkiecdagjgmaa.R11
