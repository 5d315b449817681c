/- Walks: the reference's Add. -/
import Derived.Test.YtcnkiecdagjgmaaRp
namespace Go.Proofs.Ytcnkiecdagjgmaa.R12
open Go.RowKit Go.Proofs.Ytcnkiecdagjgmaa.Mem
open Go.Proofs.Ytcnkiecdagjgmaa.R11 (Rk Rp sum sum_nil sum_app sum_cons sum_one fresh has has_iff nxt nth nth_zero nxt_nth nth_rng nxt_rng steps steps_is fid ixOf ixOf_no ixOf_yes plc nid lt_of_some ne_of_types own_blk addE_zero own_full)
set_option maxRecDepth 100000
set_option maxHeartbeats 1000000

theorem rcopy_p (A : Option Addr) (n c : Nat) (l : List UInt8) (w : World) (hn : n = l.length) (h : Row w.heap.size w A l) (hb : n ≤ 140737488355328) :
    Calls Try.prog 95 #[.slice A n c] w fun e w' => ∃ v, e = .returned v ∧ Own w.heap.size w' v l ∧ Below w.heap.size w w' := by
  subst hn
  obtain ⟨i0, hi, hz0, hz1, hz2⟩ := info_parts info5
  go_enter Try.func95, Try.ntmps95
  go_wp2
  go_loopw [3, 4] (fun v i wr => ∃ k : Nat, k ≤ l.length ∧ i = .int .i64 k ∧ Own w.heap.size wr v (l.take k) ∧ Below w.heap.size w wr) (fun _ i _ => l.length - (intOf i).toNat)
  case atStart => exact ⟨0, Nat.zero_le _, rfl, ⟨by simp [bvs], .inl ⟨rfl, by simp⟩⟩, Below.refl _ _⟩
  case round =>
    obtain ⟨k, hk, rfl, hown, hbel⟩ := hrel
    by_cases hlt : k < l.length
    · obtain ⟨a, rfl, hb, hc⟩ := row_at (h.below hbel) hlt
      go_wp2_with (at_builtin; (refine wpList_append_rd _ rfl (.tmp 11) (.tmp 16) _ rfl w.heap.size 5 i0 _ 1 Try.underlying42 hi hz0 hz1 hz2 rfl _ (l.take k).length (bvs (l.take k)) rfl (World.ownsRow.alloc hown _) _ _ 1 1 (bvs [l[k]]) rfl rfl (Rd.new wr _ _) (fun hh => by cases hh) (bvs_one _) (by unfold maxLen; simp; omega) (by simp; omega) (by have := hbel.size; simp; omega) ?_); intro v' w1 hown1 hg1)
      have hbel1 : Below w.heap.size w w1 := below_grown (hbel.alloc hbel.size _) (World.ownsRow.alloc hown _) hg1 (by have := hbel.size; simp; omega)
      go_roundw
      case rel => exact ⟨k + 1, by omega, by go_num, by rw [take_snoc hlt]; exact own_app hown1, hbel1⟩
      case measure => simp [intOf]; omega
    · go_wp2
      go_ret
      exact ⟨_, rfl, by rw [List.take_of_length_le (by omega)] at hown; exact hown, hbel⟩

section
variable {B : Nat} {W w w' : World} {g : Nat} {rv rv' : Value} {S S' : Rp}
theorem radd_no (h : RA B W w g rv S) (ok : S.Ok) (A : Option Addr) (n c : Nat) (hn : n ≤ 100000) (he : S.addE n ≠ 0) : Calls Try.prog 52 #[.pointer (some ⟨g, 0, none⟩), .slice A n c] w fun e w' => e = .returned (.tuple #[.int .u16 0, .int .i64 (S.addE n : Int)]) ∧ Below w.heap.size w w' := by
  have c1 := h.c1
  have hlg := h.lg
  have HF := Lib.hid (rfree_p h ok)
  have hlen := ok.len
  obtain ⟨A1, n1, c1', rfl, hs⟩ := h.own.sl
  have hn1 : n1 = S.recs.length := hs.len
  have hcm : n1 ≤ 2 ^ 63 - 1 := Nat.le_trans hs.cap hs.max
  unfold Rp.addE at *
  have HE := Lib.hid he
  generalize hq : S.recs.length = q at *
  subst hn1
  clear h ok hs he hq
  generalize S.free = F at *
  by_cases h1 : n = 0 ∨ 160 < n
  · rw [if_pos h1]
    rcases h1 with rfl | h1
    all_goals
      go_enter Try.func52, Try.ntmps52
      go_wp2_with fail
      go_ret2
      exact ⟨rfl, Below.refl _ _⟩
  · rw [if_neg h1] at HE ⊢
    have n0 : n ≠ 0 := fun e => h1 (.inl e)
    have n2 : n ≤ 160 := Nat.le_of_not_lt fun e => h1 (.inr e)
    have q1 : ((n : Int) == 0) = false := by simp; exact n0
    have q2 : decide (160 < (n : Int)) = false := by simp; omega
    clear h1
    by_cases h2 : 64 ≤ n1
    · rw [if_pos h2]
      go_enter Try.func52, Try.ntmps52
      go_wp2_with fail
      go_ret2
      exact ⟨rfl, Below.refl _ _⟩
    · rw [if_neg h2] at HE ⊢
      by_cases h3 : F < n
      · rw [if_pos h3]
        go_enter Try.func52, Try.ntmps52
        go_wp2_with fail
        refine HF.out.mono ?_
        rintro e w1 ⟨rfl, hb1⟩
        go_wp2_with fail
        go_ret2
        exact ⟨rfl, Below.refl _ _⟩
      · exact absurd (by rw [if_neg h3]) HE.out
/-- Bytes that do not lie in the repository's own blocks. -/
def Off' (g : Nat) (rv : Value) (A : Option Addr) (l : List UInt8) : Prop := 0 < l.length → ∀ a, A = some a → a.block ≠ g ∧ rv.ownBlock ≠ some a.block
theorem Kp.row {A : Option Addr} {l : List UInt8} (k : Kp g rv rv' w w') (h : Row w.heap.size w A l) (hf : Off' g rv A l) : Row w'.heap.size w' A l := fun hl => by
  obtain ⟨a, e, hb, hc⟩ := h hl
  obtain ⟨h1, h2⟩ := hf (by rwa [len_bvs] at hl) a e
  refine ⟨a, e, Nat.lt_of_lt_of_le hb k.size, fun q hq => ?_⟩
  rw [← hc q hq]
  exact World.cell?_of_block (k.block _ (by rw [add_block]; exact hb) (by rw [add_block]; exact h1) (by rw [add_block]; exact h2)).1
theorem RA.off (h : RA B W w g rv S) {base : Nat} {A : Option Addr} {n c : Nat} {l : List UInt8} (ho : Own base w (.slice A n c) l) : Off' g rv A l := fun hl a ha => by
  subst ha
  obtain ⟨b, he, -, -⟩ := own_some ho hl
  injection he with he
  subst he
  have hn := (own_some ho hl)
  have h1 := ho.form
  obtain ⟨A', c', hv, -⟩ := h1
  injection hv with e1 e2 e3
  subst e2
  obtain ⟨_, cs, z, hk⟩ := own_blk ho
  refine ⟨ne_of_types hk h.head (by decide), fun e => ?_⟩
  obtain ⟨_, c', z', hr'⟩ := h.own.blk e
  exact ne_of_types hk hr' (by decide) rfl
/-- The append of records, as one step of a region that draws. -/
theorem step_append_k (w : World) {ops : Array Oper} {o : Oper} {a : Act} {K : Act → World → Prop} {Q : Exit → Act → World → Prop} {E : Prop} (hgd : o.guard = none) (s x : Operand)
    (ho : o.op = .call { callee := .builtin .append, args := #[s, x], argTypes := #[130, 130] })
    (base : Nat) (v : Value) (l : List Rk) (hs : a.eval s = v) (hown : KOwn base w v l) (m : List Rk) (p : Addr) (n c : Nat) (hx : a.eval x = .slice (some p) n c) (hn : n = m.length) (hm : KsAt w p m)
    (hl : l.length + m.length ≤ 1000) (hbase : base ≤ w.heap.size)
    (h : ∀ v' w', KOwn base w' v' (l ++ m) → w.grownBy w' v.ownBlock → (v'.ownBlock = v.ownBlock ∨ v'.ownBlock = some w.heap.size) → K (a.put o.dst v') w') : if Region.wanted o (yielded ops a.tmps) = true then Oper.wp Try.prog o a w K Q else E := by
  have hw : Region.wanted o (yielded ops a.tmps) = true := by simp [Region.wanted, hgd]
  rw [if_pos hw]
  obtain ⟨v', w', hrun, h2, h3, h4⟩ := run_append_k w base o.type v l hown m p n c hn hm hl hbase
  unfold Oper.wp execOp
  simp only [ho, resolve, invoke, builtin, Sem.run_bind, Sem.run_pure, Result.andThen_ok, List.map_toArray, List.map_cons, List.map_nil, hs, hx, hrun]
  exact h v' w' h2 h3 h4
theorem radd_p (h : RA B W w g rv S) (ok : S.Ok) (A : Option Addr) (n c : Nat) (b : List UInt8) (hb : Sl w A n c b) (hoff : Off' g rv A b) (he : S.addE b.length = 0) : Calls Try.prog 52 #[.pointer (some ⟨g, 0, none⟩), .slice A n c] w fun e w' =>
    ∃ rv' blk cap, e = .returned (.tuple #[.int .u16 (fid S.recs S.last : Int), .int .i64 0]) ∧ RA B W w' g rv' (S.add blk cap b) ∧ Kp g rv rv' w w' ∧ w.heap.size ≤ blk := by
  obtain ⟨h1, h2, h3, h4⟩ := addE_zero he
  have hn := hb.len
  have c1 := h.c1
  have c4 := h.c4
  have f4 := h.fz 4
  have hlg := h.lg
  have HF := Lib.hid (rfree_p h ok)
  have HN := Lib.hid hn
  have q1 : ((n : Int) == 0) = false := by simp; omega
  have q2 : decide (160 < (n : Int)) = false := by simp; omega
  have q3 : n ≤ 160 := by omega
  have HCL := Lib.hid fun V rv2 (hV : Kp g rv rv2 w V) => rcopy_p A n c b V hn (hV.row hb.row hoff) (by omega)
  have HB0 := Lib.hid h1
  have HFIND := Lib.hid fun (i : Nat) => rfind_p h ok i
  have hst := steps_is S.recs (nxt S.last) (by have := ok.len; omega)
  have hr := nxt_rng S.last ok.last
  have HST := Lib.hid hst
  have HR := Lib.hid hr
  have hll := ok.last
  have hln := ok.len
  obtain ⟨A1, n1, cc1, rfl, hs⟩ := h.own.sl
  have hn1 : n1 = S.recs.length := hs.len
  have hcm : n1 ≤ 2 ^ 63 - 1 := Nat.le_trans hs.cap hs.max
  have hn64 : n1 < 64 := by omega
  have hfr : n ≤ S.free := by omega
  have H := Lib.hid h
  have HLEN : Hid (S.recs.length + 1 ≤ 1000) := Lib.hid (by omega)
  have HNS : Hid (S.recs.length ≤ 64) := Lib.hid ok.len
  have hnx : (S.last : Int) % 65534 + 1 = (nth (nxt S.last) 0 : Int) := by unfold nth nxt; split <;> omega
  have HNX := Lib.hid hnx
  obtain ⟨K, hK⟩ : ∃ K, K = steps S.recs (nxt S.last) := ⟨_, rfl⟩
  have HI : Hid (fid S.recs S.last = nth (nxt S.last) K) := Lib.hid (by unfold fid; rw [hK])
  rw [← hK] at HST
  clear h ok hs hb hn h1 h2 h3 h4 hn1 he hoff hst hr hnx hln hK
  generalize hFq : S.free = F at *
  clear hFq
  have q4 : ¬ F < n := by omega
  have q5 : decide (F < n) = false := by simp; omega
  go_enter Try.func52, Try.ntmps52
  go_wp2_with fail
  refine HF.out.mono ?_
  rintro e w1 ⟨rfl, hw1⟩
  rw [hw1]
  clear hw1 w1 HF
  go_wp2_with fail
  rw [HNX.out]
  go_loopw [6] (fun v wr => ∃ j : Nat, j ≤ K ∧ v = .int .i64 (nth (nxt S.last) j : Int) ∧ wr = w) (fun v _ => K - ((intOf v).toNat + 65534 - nxt S.last) % 65534)
  case atStart => exact ⟨0, Nat.zero_le _, rfl, rfl⟩
  case round =>
    obtain ⟨j, hj, rfl, rfl⟩ := hrel
    have hrg := nth_rng (nxt S.last) j
    rcases Nat.lt_or_ge j K with hlt | hge
    · obtain ⟨k, hk1, hk2, -⟩ := ixOf_yes (HST.out.2.2 j hlt)
      have HFN := HFIND.out (nth (nxt S.last) j)
      rw [hk2] at HFN
      have HFN := Lib.hid HFN
      have HME : Hid (K - (((nth (nxt S.last) (j + 1) : Int)).toNat + 65534 - nxt S.last) % 65534 < K - (((nth (nxt S.last) j : Int)).toNat + 65534 - nxt S.last) % 65534) := by
        refine Lib.hid ?_
        have h1 := HR.out
        have h2 := HST.out.1
        have h3 := HNS.out
        have e1 : (((nth (nxt S.last) (j + 1) : Int)).toNat + 65534 - nxt S.last) % 65534 = j + 1 := by
          unfold nth
          rw [Int.toNat_natCast]
          omega
        have e2 : (((nth (nxt S.last) j : Int)).toNat + 65534 - nxt S.last) % 65534 = j := by
          unfold nth
          rw [Int.toNat_natCast]
          omega
        rw [e1, e2]
        omega
      have hnn : (nth (nxt S.last) j : Int) % 65534 + 1 = (nth (nxt S.last) (j + 1) : Int) := by unfold nth; omega
      have HNN := Lib.hid hnn
      clear hk2 hnn
      generalize hI : nth (nxt S.last) j = I at *
      clear hI
      go_wp2_with fail
      refine HFN.out.mono ?_
      rintro e w1 ⟨rfl, hw1⟩
      rw [hw1]
      clear hw1 w1
      go_wp2_with fail
      rw [HNN.out]
      first
        | exact ⟨⟨j + 1, by omega, rfl, rfl⟩, HME.out⟩
        | exact ⟨⟨j + 1, by omega, rfl, trivial⟩, HME.out⟩
        | exact ⟨⟨_, _, _, _, _, _, _, _, ⟨j + 1, by omega, rfl, trivial⟩, rfl⟩, HME.out⟩
        | (go_goals; fail)
    · obtain rfl : j = K := Nat.le_antisymm hj hge
      have HFN := HFIND.out (nth (nxt S.last) j)
      rw [ixOf_no HST.out.2.1] at HFN
      have HFN := Lib.hid HFN
      clear hge hj HFIND HST
      generalize hI : nth (nxt S.last) j = I at *
      clear hI
      go_wp2_with fail
      refine HFN.out.mono ?_
      rintro e w1 ⟨rfl, hw1⟩
      rw [hw1]
      clear hw1 w1
      have p2 := H.out.put0 4 (.int .i64 (I : Int)) (S' := { S with last := I }) rfl rfl
      have k2 : Kp g (.slice A1 n1 cc1) (.slice A1 n1 cc1) wr (wr.setCell ⟨g, 4, none⟩ (.int .i64 (I : Int))) := Kp.put _ 4
      have P2 := Lib.hid p2
      have K2 := Lib.hid k2
      clear p2 k2 HFN
      go_wp2_with fail
      clear c4 f4 c1
      generalize wr.setCell ⟨g, 4, none⟩ (.int .i64 (I : Int)) = w3 at *
      have HV := P2.out.drew
      have KV := K2.out.drew
      have c1 := HV.c1
      have hlg := HV.lg
      go_region_law (first
        | (go_simp; go_at_call 95; go_loud (refine (HCL.out _ _ (by exact KV)).mono ?_); go_loud (rintro e w4 ⟨v4, rfl, ho4, hb4⟩); go_loud (obtain ⟨bk, ck, rfl, hbk, -⟩ := own_full ho4 HB0.out); go_loud (have HV4 := HV.step (by exact hb4)); go_loud (have KV4 := KV.trans (Kp.of_below (by exact hb4) (Nat.le_refl _))); go_loud (have c1 := HV4.c1); go_loud (have hlg := HV4.lg))
        | (go_loud (refine step_append_k _ rfl (.tmp 47) (.tmp 52) rfl B (.slice A1 n1 cc1) S.recs (by first | (go_simp; done) | rfl) (by exact (HV4.alloc _).own) [⟨I, bk, ck, b⟩] ⟨w4.heap.size, 0, none⟩ 1 1 (by first | (go_simp; done) | rfl) rfl (KsAt.one (cell_of_row _ _ 0 _ _ _ (heap_alloc_new w4 _)) (cell_of_row _ _ 1 _ _ _ (heap_alloc_new w4 _))) HLEN.out (by exact (HV4.alloc _).base) ?_); intro v5 w5 ho5 hg5 hk5; go_loud (obtain ⟨A5, n5, cc5, rfl, -⟩ := ho5.sl); go_loud (have hc5 := hg5.block g (by exact (HV4.alloc _).lg) (fun e => ((HV4.alloc (.cells #[] 136)).r1 e.symm).1 rfl)); go_loud (have c1n := (World.cell?_of_block (a := ⟨g, 1, none⟩) hc5).trans ((HV4.alloc _).c1)); go_loud (have f1n := frozen_of_row w5 g 1 _ _ (hc5.trans (HV4.alloc _).head))))
      all_goals
        have HV5 := HV4.alloc (.cells #[.int .i64 (I : Int), .slice (some ⟨bk, 0, none⟩) b.length ck] 136)
        have hfin := HV5.recs (S' := { S with last := I, recs := S.recs ++ [⟨I, bk, ck, b⟩] }) (by exact hg5) (by exact ho5) (fun r hr => by
          rcases List.mem_append.1 hr with hr | hr
          · exact HV5.rows r hr
          · rw [List.mem_singleton.1 hr]
            exact World.ownsRow.alloc (Own.base_ ho4 HV.base) _) rfl
        have kfin := (KV4.trans (Kp.of_below (B := w4.heap.size) ((Below.refl _ _).alloc (Nat.le_refl _) (.cells #[.int .i64 (I : Int), .slice (some ⟨bk, 0, none⟩) b.length ck] 136)) (Nat.le_refl _))).trans (HV5.kprecs (by exact hg5) (by exact hk5))
        have hfin := Lib.hid hfin
        have kfin := Lib.hid kfin
        have c3 := hfin.out.c3
        have f3 := hfin.out.fz 3
        dsimp only at c3
        clear hg5 ho5 hk5 HV5 c1n f1n hc5
        generalize w5.setCell ⟨g, 1, none⟩ (.slice A5 n5 cc5) = w6 at *
        go_wp2_with fail
        go_ret2
        have he : S.add bk ck b = { S with last := I, recs := S.recs ++ [⟨I, bk, ck, b⟩], rsvd := false } := by unfold Rp.add; rw [HI.out]
        rw [HI.out]
        exact ⟨_, bk, ck, rfl, (by rw [he]; exact hfin.out.put0 3 (.bool false) rfl rfl), kfin.out.trans (Kp.put _ 3), Nat.le_trans K2.out.size hbk⟩
end
end Go.Proofs.Ytcnkiecdagjgmaa.R12
