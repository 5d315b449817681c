/- Walks: bytes.Clone; a record is added. -/
import Derived.Test.YtcnkiecdagjgmaaRe
namespace Go.Proofs.Ytcnkiecdagjgmaa.R11
open Go.RowKit Go.Proofs.Ytcnkiecdagjgmaa.Mem
set_option maxRecDepth 100000
set_option maxHeartbeats 1000000

theorem bclone_p (A : Option Addr) (m c : Nat) (l : List UInt8) (w : World) (hm : m = l.length) (h : Row w.heap.size w A l) (hl : m ≤ 4611686018427387904) (hb : m ≤ 140737488355328) :
    Calls Try.prog 104 #[.slice A m c] w fun e w' => ∃ v, e = .returned v ∧ Own w.heap.size w' v l ∧ Below w.heap.size w w' := by
  subst hm
  obtain ⟨i0, hi, hz0, hz1, hz2⟩ := info_parts info5
  have hnil := fun w => Lib.run_eql_slice_nil (P := Try.prog) w 42 5 A l.length c 0 0 Try.underlying42
  rcases A with _ | a
  · go_enter Try.func104, Try.ntmps104
    go_wp2
    go_ret
    have hl0 := h.empty
    subst hl0
    exact ⟨_, rfl, Own.nil, Below.refl _ _⟩
  · go_enter Try.func104, Try.ntmps104
    go_wp2_with (at_builtin; go_loud (refine wpList_append_rd _ rfl (.tmp 5) (.tmp 6) _ rfl w.heap.size 5 i0 _ 1 Try.underlying42 hi hz0 hz1 hz2 rfl _ 0 [] rfl (World.ownsRow_lit w #[] 0 (Nat.le_refl _) (by unfold maxLen; omega) (by simp)) w.heap.size (some a) l.length c (bvs l) rfl (len_bvs l) (Rd.alloc h (Nat.le_refl _) _) (fun hh => by cases hh) (bvs_one l) (by unfold maxLen; omega) (by omega) (by simp) ?_); intro v' w1 hown1 hg1)
    go_ret
    exact ⟨_, rfl, own_of hown1 (by simp) (by simp), ((Below.refl _ _).alloc (Nat.le_refl _) _).grown hg1 (by simp) (fun k hk => by cases hk; exact Nat.le_refl _)⟩
section
variable {B : Nat} {W w w' : World} {g : Nat} {rv rv' : Value} {S S' : Rp}
theorem add_no (h : RA B W w g rv S) (ok : S.Ok) (A : Option Addr) (n c : Nat) (hn : n ≤ 100000) (he : S.addE n ≠ 0) : Calls Try.prog 51 #[.pointer (some ⟨g, 0, none⟩), .slice A n c] w fun e w' => e = .returned (.tuple #[.int .u16 0, .int .i64 (S.addE n : Int)]) ∧ Below w.heap.size w w' := by
  have c1 := h.c1
  have hlg := h.lg
  have HF := Lib.hid (free_p h ok)
  have hlen := ok.len
  obtain ⟨A1, n1, c1', rfl, hs⟩ := h.own.sl
  have hn1 : n1 = S.recs.length := hs.len
  have hcm : n1 ≤ 2 ^ 63 - 1 := Nat.le_trans hs.cap hs.max
  unfold Rp.addE at *
  have HE := Lib.hid he
  generalize hq : S.recs.length = q at *
  subst hn1
  clear h ok hs he hq
  generalize S.free = F at *
  by_cases h1 : n = 0 ∨ 160 < n
  · rw [if_pos h1]
    rcases h1 with rfl | h1
    all_goals
      go_enter Try.func51, Try.ntmps51
      go_wp2_with fail
      go_ret2
      exact ⟨rfl, Below.refl _ _⟩
  · rw [if_neg h1] at HE ⊢
    have n0 : n ≠ 0 := fun e => h1 (.inl e)
    have n2 : n ≤ 160 := Nat.le_of_not_lt fun e => h1 (.inr e)
    have q1 : ((n : Int) == 0) = false := by simp; exact n0
    have q2 : decide (160 < (n : Int)) = false := by simp; omega
    clear h1
    by_cases h2 : 64 ≤ n1
    · rw [if_pos h2]
      go_enter Try.func51, Try.ntmps51
      go_wp2_with fail
      go_ret2
      exact ⟨rfl, Below.refl _ _⟩
    · rw [if_neg h2] at HE ⊢
      by_cases h3 : F < n
      · rw [if_pos h3]
        go_enter Try.func51, Try.ntmps51
        go_wp2_with fail
        refine HF.out.mono ?_
        rintro e w1 ⟨rfl, hb1⟩
        go_wp2_with fail
        go_ret2
        exact ⟨rfl, hb1⟩
      · exact absurd (by rw [if_neg h3]) HE.out
/-- Bytes that do not lie in the repository's own blocks. -/
def Off (g : Nat) (rv : Value) (A : Option Addr) (l : List UInt8) : Prop := 0 < l.length → ∀ a, A = some a → a.block ≠ g ∧ rv.ownBlock ≠ some a.block
theorem Kp.row {A : Option Addr} {l : List UInt8} (k : Kp g rv rv' w w') (h : Row w.heap.size w A l) (hf : Off g rv A l) : Row w'.heap.size w' A l := fun hl => by
  obtain ⟨a, e, hb, hc⟩ := h hl
  obtain ⟨h1, h2⟩ := hf (by rwa [len_bvs] at hl) a e
  refine ⟨a, e, Nat.lt_of_lt_of_le hb k.size, fun q hq => ?_⟩
  rw [← hc q hq]
  exact World.cell?_of_block (k.block _ (by rw [add_block]; exact hb) (by rw [add_block]; exact h1) (by rw [add_block]; exact h2)).1
theorem RA.off (h : RA B W w g rv S) {base : Nat} {A : Option Addr} {n c : Nat} {l : List UInt8} (ho : Own base w (.slice A n c) l) : Off g rv A l := fun hl a ha => by
  subst ha
  obtain ⟨b, he, -, -⟩ := own_some ho hl
  injection he with he
  subst he
  have hn := (own_some ho hl)
  have h1 := ho.form
  obtain ⟨A', c', hv, -⟩ := h1
  injection hv with e1 e2 e3
  subst e2
  obtain ⟨_, cs, z, hk⟩ := own_blk ho
  refine ⟨ne_of_types hk h.head (by decide), fun e => ?_⟩
  obtain ⟨_, c', z', hr'⟩ := h.own.blk e
  exact ne_of_types hk hr' (by decide) rfl
theorem own_full {base : Nat} {w : World} {v : Value} {l : List UInt8} (h : Own base w v l) (hl : 0 < l.length) : ∃ b c, v = .slice (some ⟨b, 0, none⟩) l.length c ∧ base ≤ b ∧ b < w.heap.size := by
  obtain ⟨A, n, c, rfl, hs⟩ := Sl.of_own h
  have hn := hs.len
  obtain ⟨g, rfl, h1, h2⟩ := own_some h hl
  exact ⟨g, c, by rw [hn], h1, h2⟩
/-- The append of records, as one step of a region that draws. -/
theorem step_append_k (w : World) {ops : Array Oper} {o : Oper} {a : Act} {K : Act → World → Prop} {Q : Exit → Act → World → Prop} {E : Prop} (hgd : o.guard = none) (s x : Operand)
    (ho : o.op = .call { callee := .builtin .append, args := #[s, x], argTypes := #[127, 127] })
    (base : Nat) (v : Value) (l : List Rk) (hs : a.eval s = v) (hown : KOwn base w v l) (m : List Rk) (p : Addr) (n c : Nat) (hx : a.eval x = .slice (some p) n c) (hn : n = m.length) (hm : KsAt w p m)
    (hl : l.length + m.length ≤ 1000) (hbase : base ≤ w.heap.size)
    (h : ∀ v' w', KOwn base w' v' (l ++ m) → w.grownBy w' v.ownBlock → (v'.ownBlock = v.ownBlock ∨ v'.ownBlock = some w.heap.size) → K (a.put o.dst v') w') : if Region.wanted o (yielded ops a.tmps) = true then Oper.wp Try.prog o a w K Q else E := by
  have hw : Region.wanted o (yielded ops a.tmps) = true := by simp [Region.wanted, hgd]
  rw [if_pos hw]
  obtain ⟨v', w', hrun, h2, h3, h4⟩ := run_append_k w base o.type v l hown m p n c hn hm hl hbase
  unfold Oper.wp execOp
  simp only [ho, resolve, invoke, builtin, Sem.run_bind, Sem.run_pure, Result.andThen_ok, List.map_toArray, List.map_cons, List.map_nil, hs, hx, hrun]
  exact h v' w' h2 h3 h4
theorem add_p (h : RA B W w g rv S) (ok : S.Ok) (A : Option Addr) (n c : Nat) (b : List UInt8) (hb : Sl w A n c b) (hoff : Off g rv A b) (he : S.addE b.length = 0) : Calls Try.prog 51 #[.pointer (some ⟨g, 0, none⟩), .slice A n c] w fun e w' =>
    ∃ rv' blk cap, e = .returned (.tuple #[.int .u16 (fid S.recs S.last : Int), .int .i64 0]) ∧ RA B W w' g rv' (S.add blk cap b) ∧ Kp g rv rv' w w' ∧ w.heap.size ≤ blk := by
  obtain ⟨h1, h2, h3, h4⟩ := addE_zero he
  have hn := hb.len
  have c1 := h.c1
  have hlg := h.lg
  have HF := Lib.hid (free_p h ok)
  have HN := Lib.hid hn
  have HID := Lib.hid fun V (hV : RA B W V g rv S) => freeid_p hV ok
  have q1 : ((n : Int) == 0) = false := by simp; omega
  have q2 : decide (160 < (n : Int)) = false := by simp; omega
  have q3 : n ≤ 160 := by omega
  have HCL := Lib.hid fun V rv2 (hV : Kp g rv rv2 w V) => bclone_p A n c b V hn (hV.row hb.row hoff) (by omega) (by omega)
  have HB0 := Lib.hid h1
  obtain ⟨A1, n1, cc1, rfl, hs⟩ := h.own.sl
  have hn1 : n1 = S.recs.length := hs.len
  have hcm : n1 ≤ 2 ^ 63 - 1 := Nat.le_trans hs.cap hs.max
  have hn64 : n1 < 64 := by omega
  have hfr : n ≤ S.free := by omega
  have H := Lib.hid h
  have HLEN : Hid (S.recs.length + 1 ≤ 1000) := Lib.hid (by omega)
  clear h ok hs hb hn h1 h2 h3 h4 hn1 he hoff
  generalize hFq : S.free = F at *
  clear hFq
  go_enter Try.func51, Try.ntmps51
  go_wp2_with fail
  refine HF.out.mono ?_
  rintro e w1 ⟨rfl, hb1⟩
  have H1 := Lib.hid (H.out.step hb1)
  have HB1 := Lib.hid hb1
  clear hb1 HF
  go_wp2_with fail
  refine (HID.out _ H1.out).mono ?_
  rintro e w2 ⟨rfl, hb2⟩
  have h2 := H1.out.step hb2
  have c2 := h2.c2
  have f2 := h2.fz 2
  have p2 := h2.put0 2 (.int .u16 (fid S.recs S.last : Int)) (S' := { S with last := fid S.recs S.last }) rfl rfl
  have k2 : Kp g (.slice A1 n1 cc1) (.slice A1 n1 cc1) w (w2.setCell ⟨g, 2, none⟩ (.int .u16 (fid S.recs S.last : Int))) := ((Kp.of_below HB1.out (Nat.le_refl _)).trans (Kp.of_below hb2 (Nat.le_refl _))).trans (Kp.put _ 2)
  have P2 := Lib.hid p2
  have K2 := Lib.hid k2
  have HLG2 := Lib.hid h2.lg
  clear h2 p2 k2 hb2 HB1 H1 HID
  generalize hI : fid S.recs S.last = I at *
  have HI := Lib.hid hI
  clear hI
  go_wp2_with fail
  clear c2 f2
  generalize w2.setCell ⟨g, 2, none⟩ (.int .u16 (I : Int)) = w3 at *
  have HV := P2.out.drew
  have KV := K2.out.drew
  have c1 := HV.c1
  have c2 := HV.c2
  have hlg := HV.lg
  dsimp only at c2
  go_region_law (first
    | (go_simp; go_at_call 104; go_loud (refine (HCL.out _ _ (by exact KV)).mono ?_); go_loud (rintro e w4 ⟨v4, rfl, ho4, hb4⟩); go_loud (obtain ⟨bk, ck, rfl, hbk, -⟩ := own_full ho4 HB0.out); go_loud (have HV4 := HV.step (by exact hb4)); go_loud (have KV4 := KV.trans (Kp.of_below (by exact hb4) (Nat.le_refl _))); go_loud (have c1 := HV4.c1); go_loud (have c2 := HV4.c2); go_loud (have hlg := HV4.lg); go_loud (dsimp only at c2))
    | (go_loud (refine step_append_k _ rfl (.tmp 37) (.tmp 45) rfl B (.slice A1 n1 cc1) S.recs rfl (by exact (HV4.alloc _).own) [⟨I, bk, ck, b⟩] ⟨w4.heap.size, 0, none⟩ 1 1 rfl rfl (KsAt.one (cell_of_row _ _ 0 _ _ _ (heap_alloc_new w4 _)) (cell_of_row _ _ 1 _ _ _ (heap_alloc_new w4 _))) HLEN.out (by exact (HV4.alloc _).base) ?_); intro v5 w5 ho5 hg5 hk5; go_loud (obtain ⟨A5, n5, cc5, rfl, -⟩ := ho5.sl); go_loud (have hc5 := hg5.block g (by exact (HV4.alloc _).lg) (fun e => ((HV4.alloc (.cells #[] 134)).r1 e.symm).1 rfl)); go_loud (have c1n := (World.cell?_of_block (a := ⟨g, 1, none⟩) hc5).trans ((HV4.alloc _).c1)); go_loud (have f1n := frozen_of_row w5 g 1 _ _ (hc5.trans (HV4.alloc _).head))))
  all_goals
    have HV5 := HV4.alloc (.cells #[.int .u16 (I : Int), .slice (some ⟨bk, 0, none⟩) b.length ck] 134)
    have hfin := HV5.recs (S' := { S with last := I, recs := S.recs ++ [⟨I, bk, ck, b⟩] }) (by exact hg5) (by exact ho5) (fun r hr => by
      rcases List.mem_append.1 hr with hr | hr
      · exact HV5.rows r hr
      · rw [List.mem_singleton.1 hr]
        exact World.ownsRow.alloc (Own.base_ ho4 HV.base) _) rfl
    have kfin := (KV4.trans (Kp.of_below (B := w4.heap.size) ((Below.refl _ _).alloc (Nat.le_refl _) (.cells #[.int .u16 (I : Int), .slice (some ⟨bk, 0, none⟩) b.length ck] 134)) (Nat.le_refl _))).trans (HV5.kprecs (by exact hg5) (by exact hk5))
    have hfin := Lib.hid hfin
    have kfin := Lib.hid kfin
    have c4 := hfin.out.c4
    have f4 := hfin.out.fz 4
    have c2 := hfin.out.c2
    dsimp only at c4 c2
    clear hg5 ho5 hk5 HV5 c1n f1n hc5
    generalize w5.setCell ⟨g, 1, none⟩ (.slice A5 n5 cc5) = w6 at *
    go_wp2_with fail
    go_ret2
    have he : S.add bk ck b = { S with last := I, recs := S.recs ++ [⟨I, bk, ck, b⟩], rsvd := false } := by unfold Rp.add; rw [HI.out]
    rw [HI.out]
    exact ⟨_, bk, ck, rfl, (by rw [he]; exact hfin.out.put0 4 (.bool false) rfl rfl), kfin.out.trans (Kp.put _ 4), Nat.le_trans K2.out.size hbk⟩
end
end Go.Proofs.Ytcnkiecdagjgmaa.R11
