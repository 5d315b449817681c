/- Walks: the program's Reconcile. -/
import Derived.Test.YtncpbgmbneobiaaV9r
namespace Go.Proofs.Ytncpbgmbneobiaa.V9
open Go.RowKit Go.Proofs.Ytncpbgmbneobiaa.Mem Go.Proofs.Ytncpbgmbneobiaa.F2p Go.Proofs.Ytncpbgmbneobiaa.V7
set_option maxRecDepth 100000
set_option maxHeartbeats 4000000

/-- A row of Go's int64 of the call's own. -/
def LOwn (base : Nat) (w : World) (v : Value) (l : List Int) : Prop := w.ownsRow base 2 1 v l.length (ivs l)
section
variable {base g n c : Nat} {w : World} {l : List Int} (h : LOwn base w (.slice (some ⟨g, 0, none⟩) n c) l) (hn : n = l.length)
include h hn
theorem lown_cell {i : Nat} (hi : i < l.length) : w.cell? ⟨g, i, none⟩ = some (.int .i64 l[i]) := by
  subst hn
  rw [World.ownsRow.cellAt h i (by omega)]
  simp [ivs, List.getElem?_eq_getElem hi]
theorem lown_frozen (i : Nat) : w.frozen? ⟨g, i, none⟩ = false := by
  subst hn
  exact World.ownsRow.frozenAt h i
theorem lown_store (i : Nat) (x : Int) : LOwn base (w.setCell ⟨g, i, none⟩ (.int .i64 x)) (.slice (some ⟨g, 0, none⟩) n c) (l.set i x) ∧ w.grownBy (w.setCell ⟨g, i, none⟩ (.int .i64 x)) (some g) := by
  subst hn
  have hst := World.ownsRow.stored h i (.int .i64 x)
  refine ⟨?_, hst.2⟩
  have := hst.1
  unfold LOwn ivs
  rwa [List.length_set, List.map_set]
end
theorem lown_below {base : Nat} {w w' : World} {v : Value} {l : List Int} (h : LOwn base w v l) (hb : Below w.heap.size w w') : LOwn base w' v l :=
  World.ownsRow.kept (row := none) h ⟨hb.os, hb.tape, hb.output, hb.size, fun i hi _ => hb.block i hi⟩ (Classical.em _)
theorem LOwn.nil {base : Nat} {w : World} : LOwn base w (.slice .none 0 0) [] := ⟨by simp [ivs], .inl ⟨rfl, by simp⟩⟩
theorem infoL : (Try.prog.info? 2).map (fun i => (i.zero, i.size, i.bytes)) = some (some (.int .i64 0), 1, 8) := by kernel_rfl
theorem make_l (m : Nat) (hm : m ≤ 1000000) : ∃ M : Array Value, M.toList = ivs (List.replicate m 0) ∧ ∀ u : World,
    (Instr.makeSlice 42 (.int .i64 (m : Int)) (.int .i64 (m : Int))).run Try.prog u = .ok (.slice (some ⟨u.heap.size, 0, none⟩) m m) (u.alloc (.cells M 2)) := by
  obtain ⟨i0, hi, hz0, hz1, hz2⟩ := info_parts infoL
  refine ⟨madeCells #[.int .i64 0] m, ?_, fun u => ?_⟩
  · have := toList_madeCells_one (.int .i64 0) m
    rw [this]
    simp [ivs]
  · have h := run_make (P := Try.prog) u 42 2 i0 (.int .i64 0) Try.underlying42 hi hz0 .i64 .i64 (m : Int) (m : Int) (by omega) (Int.le_refl _) (by rw [hz2]; omega) (by omega)
    rw [h, hz1]
    simp [Value.cells]
theorem fill_step (ts : List Int) (j : Nat) (h : j < ts.length) : (List.replicate (j + 1) 0 ++ ts.drop (j + 1)).set j ts[j] = List.replicate j 0 ++ ts.drop j := by
  rw [List.drop_eq_getElem_cons h, List.replicate_succ', List.append_assoc, List.set_append_right _ _ (by simp)]
  simp
/-- What the loop from the end carries. -/
def shf (l : List Ev) (k : Nat) : Int := sf (l.getD (k - 1) Ev.none) (l.drop k)
theorem shf_end (l : List Ev) : shf l l.length = 0 := by unfold shf; rw [List.drop_length]; rfl
theorem shf_step (l : List Ev) (j : Nat) (h : j + 1 < l.length) : shf l (j + 1) = (if mk l[j + 1] = 2 then (l[j + 1].time : Int) - (l[j].time : Int) else 0) + shf l (j + 2) := by
  unfold shf
  rw [show j + 1 - 1 = j from rfl, show j + 2 - 1 = j + 1 from rfl, getD_at l j (by omega), getD_at l (j + 1) h, sf_step l j h]
theorem shf_first (l : List Ev) (h : 0 < l.length) (h0 : mk l[0] ≠ 2) : shf l 0 = shf l 1 := by
  unfold shf
  rw [show 0 - 1 = 0 from rfl, getD_at l 0 h, List.drop_zero]
  match l, h with
  | e :: l, _ =>
    simp only [List.getElem_cons_zero] at h0
    simp [sf, h0]
theorem shf_out (l : List Ev) (j : Nat) (h : j < l.length) : (l[j].time : Int) + shf l (j + 1) = (tms l)[j]'(by rw [tms_len]; exact h) := by
  unfold shf
  rw [tms_get l j h, show j + 1 - 1 = j from rfl, getD_at l j h]
theorem shf_bound (l : List Ev) (hf : ∀ e ∈ l, e.Fit) (k : Nat) (hl : l.length ≤ 1000) : -4294967296000 ≤ shf l k ∧ shf l k ≤ 4294967296000 := by
  have hp : (l.getD (k - 1) Ev.none).time < 4294967296 := by
    rcases Nat.lt_or_ge (k - 1) l.length with h | h
    · rw [getD_at l _ h]; exact (hf _ (List.getElem_mem h)).time
    · rw [List.getD, List.getElem?_eq_none h]; decide
  have := sf_bound (l.drop k) (fun e he => (hf e (List.mem_of_mem_drop he)).time) _ hp
  have hl2 : (l.drop k).length ≤ 1000 := by rw [List.length_drop]; omega
  unfold shf
  omega
/-- What Reconcile answers. -/
def rec (l : List Ev) : List Int × Int := if paired false l then (tms l, 0) else ([], 6)
theorem rec_p {w : World} {A : Option Addr} {n c : Nat} {l : List Ev} (h : ESl w A n c l) (hf : ∀ e ∈ l, e.Fit) (hn : n ≤ 1000) :
    Calls Try.prog 17 #[.slice A n c] w fun e w' => ∃ v, e = .returned (.tuple #[v, .int .i64 (rec l).2]) ∧ LOwn w.heap.size w' v (rec l).1 ∧ Below w.heap.size w w' := by
  have hpp := Lib.hid (paired_p h hf hn)
  unfold rec
  rcases hk : paired false l with _ | _
  · rw [hk] at hpp
    rw [if_neg (by simp)]
    clear h hf hk
    go_enter Try.func17, Try.ntmps17
    go_wp2_with fail
    refine hpp.out.mono ?_
    rintro e w1 ⟨rfl, hb1⟩
    go_wp2_with fail
    go_ret2
    exact ⟨_, rfl, LOwn.nil, hb1⟩
  · rw [hk] at hpp
    rw [if_pos rfl]
    have HL := Lib.hid h.len
    have hrow := h.row
    have HF := Lib.hid hf
    obtain ⟨M, hM, hmk⟩ := make_l n (by omega)
    clear h hf
    go_enter Try.func17, Try.ntmps17
    go_wp2_with fail
    refine hpp.out.mono ?_
    rintro e w1 ⟨rfl, hb1⟩
    go_wp2_with fail
    have hown0 : LOwn w.heap.size (w1.alloc (.cells M 2)) (.slice (some ⟨w1.heap.size, 0, none⟩) n n) (List.replicate n 0) := by
      have := World.ownsRow_lit (base := w.heap.size) (size := 1) (e := 2) w1 M n hb1.size (by unfold maxLen; omega) (by rw [Nat.mul_one, ← Array.length_toList, hM, len_ivs, List.length_replicate])
      unfold LOwn
      rw [List.length_replicate, ← hM]
      exact this
    have hbe := hb1.alloc hb1.size (.cells M 2)
    have hgz : w.heap.size ≤ w1.heap.size := hb1.size
    clear hmk hb1 hM
    generalize w1.alloc (.cells M 2) = w2 at *
    obtain ⟨g, hg⟩ : ∃ g, w1.heap.size = g := ⟨_, rfl⟩
    rw [hg] at hown0 hgz ⊢
    clear hg hpp
    have HSB := Lib.hid (fun k => shf_bound l HF.out k (by rw [← HL.out]; exact hn))
    have HK := Lib.hid hk
    clear hk
    have hown0 : LOwn w.heap.size w2 (.slice (some ⟨g, 0, none⟩) n n) (List.replicate n 0 ++ (tms l).drop n) := by
      rw [List.drop_eq_nil_of_le (by rw [tms_len, ← HL.out]; exact Nat.le_refl n), List.append_nil]; exact hown0
    have hw0 : wrap64 ((n : Int) - 1) = (n : Int) - 1 := by unfold wrap64; omega
    replace hown0 := Lib.hid hown0
    replace hbe := Lib.hid hbe
    have hlen0 : shf l n = 0 := by rw [HL.out]; exact shf_end l
    go_loopw [5, 6] (fun s i wr => ∃ k : Nat, k ≤ n ∧ i = .int .i64 ((k : Int) - 1) ∧ s = .int .i64 (shf l k) ∧ LOwn w.heap.size wr (.slice (some ⟨g, 0, none⟩) n n) (List.replicate k 0 ++ (tms l).drop k) ∧ Below w.heap.size w wr) (fun _ i _ => ((intOf i) + 1).toNat)
    case atStart => exact ⟨n, Nat.le_refl _, by first | rfl | rw [hw0], by rw [hlen0], hown0.out, hbe.out⟩
    case round =>
      obtain ⟨k, hkn, rfl, rfl, hown, hbel⟩ := hrel
      rcases k with _ | j
      · simp only [List.replicate_zero, List.nil_append, List.drop_zero] at hown
        go_wp2_with fail
        go_ret2
        exact ⟨_, rfl, hown, hbel⟩
      · rw [show ((j + 1 : Nat) : Int) - 1 = (j : Int) by omega]
        have hjl : j < l.length := by rw [← HL.out]; omega
        obtain ⟨a, rfl, hab, ha⟩ := erow_at (Rd.below hrow hbel) hjl
        have hfit := HF.out _ (List.getElem_mem hjl)
        have hsb := HSB.out (j + 1)
        have hout := shf_out l j hjl
        have htm := hfit.time
        have hsn := second_p l[j] hfit
        obtain ⟨S, hS⟩ : ∃ S, shf l (j + 1) = S := ⟨_, rfl⟩
        rw [hS] at hsb hout ⊢
        have hlen : n = (List.replicate (j + 1) (0 : Int) ++ (tms l).drop (j + 1)).length := by
          rw [List.length_append, List.length_replicate, List.length_drop, tms_len, ← HL.out]; omega
        obtain ⟨yj, cj⟩ : ∃ y, wr.cell? ⟨g, j, none⟩ = some (.int .i64 y) := ⟨_, lown_cell hown hlen (i := j) (by omega)⟩
        have fj := lown_frozen hown hlen j
        have hst := lown_store hown hlen j ((l[j].time : Int) + S)
        have hz := hbel.size
        have hgw : g < wr.heap.size := (World.ownsRow.lt hown g rfl).2
        have hbel2 : Below w.heap.size w (wr.setCell ⟨g, j, none⟩ (.int .i64 ((l[j].time : Int) + S))) := hbel.grown hst.2 hz (fun k hk => by injection hk; omega)
        obtain ⟨a', ha', -, hev⟩ := erow_at (Rd.below hrow hbel2) hjl
        obtain rfl := Option.some.inj ha'
        have hown2 := hst.1
        rw [hout, fill_step (tms l) j (by rw [tms_len]; exact hjl), ← hout] at hown2
        have hbo := Lib.hid hbel2
        have hwo := Lib.hid hown2
        have t1 := ha.c1
        clear hst hown hbel2 hown2 hout ha' ha
        have b0 : (0 : Int) ≤ (j : Int) := by omega
        have b1 : (j : Int) < (n : Int) := by omega
        obtain ⟨T, hT⟩ : ∃ T, l[j].time = T := ⟨_, rfl⟩
        have hT' := Lib.hid hT
        rw [hT] at t1 hbo hwo hev htm
        clear hT hlen
        have hwT : wrap64 ((T : Int) + S) = (T : Int) + S := by unfold wrap64; omega
        by_cases hm : mk l[j] = 2
        · rw [decide_eq_true hm] at hsn
          replace hsn := Lib.hid hsn
          obtain ⟨i, rfl⟩ : ∃ i, j = i + 1 := by
            rcases j with _ | i
            · exact absurd hm (paired_head HK.out hjl)
            · exact ⟨i, rfl⟩
          have hstp := shf_step l i hjl
          rw [if_pos hm] at hstp
          have hil : i < l.length := by omega
          obtain ⟨b, hbA, -, hev0⟩ := erow_at (Rd.below hrow hbo.out) hil
          obtain rfl := Option.some.inj hbA
          have htm0 := (HF.out _ (List.getElem_mem hil)).time
          rw [show (i + 1 + 1) = i + 2 from rfl] at hS
          rw [hS, hT'.out] at hstp
          obtain ⟨T0, hT0⟩ : ∃ T0, l[i].time = T0 := ⟨_, rfl⟩
          rw [hT0] at hstp htm0
          have z1 := hev0.c1
          rw [hT0] at z1
          replace hstp := Lib.hid hstp
          clear hev0 hbA hS
          go_upto_region 9 with fail
          generalize wr.setCell ⟨g, i + 1, none⟩ (.int .i64 ((T : Int) + S)) = w4 at *
          have a0 := hev.c0; have a1 := hev.c1; have a2 := hev.c2; have a3 := hev.c3; have a4 := hev.c4; have a5 := hev.c5; have a6 := hev.c6; have a7 := hev.c7; have a8 := hev.c8; have a9 := hev.c9
          clear hev cj fj t1
          generalize hx : l[i + 1] = x at *
          obtain ⟨id, time, gen, st, sn, ty, de, d0, d1, d2⟩ := x
          dsimp only [Ev.v, Ev.cells] at *
          have hTe := hT'.out
          subst hTe
          have b2 : (0 : Int) ≤ (i : Int) := by omega
          have b3 : (i : Int) < (n : Int) := by omega
          go_wp2_with fail
          refine (hsn.out _).mono ?_
          rintro e w5 ⟨rfl, hb5⟩
          have hwo5 := Lib.hid (lown_below hwo.out hb5)
          have hbo5 := Lib.hid (hbo.out.trans (hb5.mono hbo.out.size))
          clear a0 a1 a2 a3 a4 a5 a6 a7 a8 a9 hb5 hwo hbo
          obtain ⟨b1', hb1A, -, hev1⟩ := erow_at (Rd.below hrow hbo5.out) hjl
          obtain rfl := Option.some.inj hb1A
          obtain ⟨b2', hb2A, -, hev2⟩ := erow_at (Rd.below hrow hbo5.out) hil
          obtain rfl := Option.some.inj hb2A
          have d1 := hev1.c1
          have z1 := hev2.c1
          rw [hx] at d1
          rw [hT0] at z1
          clear hev1 hev2 hb1A hb2A hT0 hx hT'
          have hix : wrap64 ((i : Int) + 1 - 1) = (i : Int) := by unfold wrap64; omega
          have hwd : wrap64 ((time : Int) - (T0 : Int)) = (time : Int) - (T0 : Int) := by unfold wrap64; omega
          have hws : wrap64 (S + ((time : Int) - (T0 : Int))) = S + ((time : Int) - (T0 : Int)) := by unfold wrap64; omega
          go_wp2_with fail
          go_quiet (fail)
          go_wp2_with fail
          have hd : Below w5.heap.size w5 (w5.drewN nq) := ⟨rfl, rfl, rfl, Nat.le_refl _, fun _ _ => rfl⟩
          refine ⟨⟨i + 1, by omega, by go_num, by rw [hstp.out, Int.add_comm], lown_below hwo5.out hd, hbo5.out.trans (hd.mono hbo5.out.size)⟩, ?_⟩
          simp only [intOf]
          omega
        · rw [decide_eq_false hm] at hsn
          replace hsn := Lib.hid hsn
          have hsj : shf l j = S := by
            rcases j with _ | i
            · rw [shf_first l hjl hm]; exact hS
            · have := shf_step l i hjl
              rw [if_neg hm, Int.zero_add] at this
              rw [this]; exact hS
          replace hsj := Lib.hid hsj
          clear hS
          go_upto_region 9 with fail
          generalize wr.setCell ⟨g, j, none⟩ (.int .i64 ((T : Int) + S)) = w4 at *
          have a0 := hev.c0; have a1 := hev.c1; have a2 := hev.c2; have a3 := hev.c3; have a4 := hev.c4; have a5 := hev.c5; have a6 := hev.c6; have a7 := hev.c7; have a8 := hev.c8; have a9 := hev.c9
          clear hev cj fj t1
          generalize hx : l[j] = x at *
          obtain ⟨id, time, gen, st, sn, ty, de, d0, d1, d2⟩ := x
          dsimp only [Ev.v, Ev.cells] at *
          have hTe := hT'.out
          subst hTe
          go_wp2_with fail
          refine (hsn.out _).mono ?_
          rintro e w5 ⟨rfl, hb5⟩
          have hwo5 := Lib.hid (lown_below hwo.out hb5)
          have hbo5 := Lib.hid (hbo.out.trans (hb5.mono hbo.out.size))
          clear a0 a1 a2 a3 a4 a5 a6 a7 a8 a9 hb5 hwo hbo
          go_wp2_with fail
          refine ⟨⟨j, by omega, by go_num, by rw [hsj.out], hwo5.out, hbo5.out⟩, ?_⟩
          simp only [intOf]
          omega
end Go.Proofs.Ytncpbgmbneobiaa.V9
