/- Walks: the program's thresholds: which sensors have them; the next state, what is reached. -/
import Derived.Test.YtafoaonkjcfbaaaK45
import Derived.Deep.RegionHeld3
import Derived.OwnWalk
namespace Go.Proofs.Ytafoaonkjcfbaaa.Ya
open Go.RowKit Go.Proofs.Ytafoaonkjcfbaaa.Mem Go.Proofs.Ytafoaonkjcfbaaa.F2p Go.Proofs.Ytafoaonkjcfbaaa.C4l Go.Proofs.Ytafoaonkjcfbaaa.Ta Go.Proofs.Ytafoaonkjcfbaaa.Tb
set_option maxRecDepth 100000
set_option maxHeartbeats 1000000

theorem isan_q (s : Sn) (A : Option Addr) (n cp : Nat) (w : World) (hsl : PSl w A n cp s.c.p) (hnm : s.nm.size ≤ maxLen) :
    Calls Try.prog 84 #[.agg (cells s (.slice A n cp))] w fun e w' => e = .returned (.bool (vs s && !s.d)) ∧ Below w.heap.size w w' := by
  have hb0 : Below w.heap.size w (w.alloc (.cells (cells s (.slice A n cp)) 59)) := (Below.refl _ _).alloc (Nat.le_refl _) _
  have hx0 : Bx (w.alloc (.cells (cells s (.slice A n cp)) 59)) w.heap.size s (.slice A n cp) := heap_alloc_new w _
  have HV := Lib.hid (valid_p s A n cp _ (hsl.step hb0) hnm)
  generalize vs s = R at *
  have hc6 : (cells s (.slice A n cp))[6]? = some (.bool s.d) := rfl
  generalize s.d = d at *
  have HC6 := Lib.hid hc6
  clear hsl hnm hc6
  go_enter Try.func84, Try.ntmps84
  go_wp2_with (refine wpList_load_bx rfl (.tmp 1) rfl _ _ _ rfl hx0 ?_)
  refine HV.out.mono ?_
  rintro e w2 ⟨rfl, hb2⟩
  have c6 : w2.cell? ⟨w.heap.size, 6, none⟩ = some (.bool d) := ((hx0.below hb2).c 6).trans HC6.out
  have hbb := hb0.trans (hb2.mono hb0.size)
  clear hx0 hb0 hb2 HV
  cases R
  all_goals
    go_wp2_with fail
    go_ret
    exact ⟨rfl, hbb⟩
/-- What Step answers. -/
def StepOut (s : Sn) (st : Nat) (raw : UInt8) (w0 : World) (e : Ending) (w' : World) : Prop :=
  Below w0.heap.size w0 w' ∧
  if (vs s && !s.d) = false then e = .returned (.tuple #[.int .u8 0, .slice none 0 0, .int .i64 1])
  else if andn8 st s.mx.toNat ≠ 0 then e = .returned (.tuple #[.int .u8 0, .slice none 0 0, .int .i64 2])
  else ∃ v, e = .returned (.tuple #[.int .u8 (nxt s (C4p.num s.c.s raw) st : Nat), v, .int .i64 0]) ∧ KOwn w0.heap.size w' v (chs st (nxt s (C4p.num s.c.s raw) st) 6)
theorem exec_load_bx2 {o : Oper} {a : Act} {w : World} {r : Nat} {s : Sn} {V : Value} (x : Operand) (ho : o.op = .load 59 x) (hx : a.eval x = .pointer (some ⟨r, 0, none⟩)) (hb : Bx w r s V) : (execOp a.eval o).run Try.prog w = .ok (.value (.agg (cells s V))) w := by
  unfold execOp
  simp only [ho, hx, Instr.loadAt, Instr.sureAddr, Sem.run_bind, Sem.run_pure, Result.andThen_ok, run_loadVar_row w r _ _ _ _ _ hb Try.underlying59 rfl (by kernel_rfl)]
theorem kown_base {base base' : Nat} {w : World} {v : Value} {l : List Ch} (h : KOwn base w v l) (hb : base' ≤ base) : KOwn base' w v l := by
  rcases h with ⟨h1, h2⟩
  refine ⟨h1, ?_⟩
  rcases h2 with h2 | ⟨g, cap, cur, e, hg, h3⟩
  · exact .inl h2
  · exact .inr ⟨g, cap, cur, e, Nat.le_trans hb hg, h3⟩
theorem step_q (s : Sn) (A : Option Addr) (n cp : Nat) (st : Nat) (hst : st < 256) (raw : UInt8) (w : World) (hsl : PSl w A n cp s.c.p) (hnm : s.nm.size ≤ maxLen) :
    Calls Try.prog 48 #[.agg (cells s (.slice A n cp)), .int .u8 (st : Int), .int .u8 (raw.toNat : Int)] w fun e w' => StepOut s st raw w e w' := by
  have hb0 : Below w.heap.size w (w.alloc (.cells (cells s (.slice A n cp)) 59)) := (Below.refl _ _).alloc (Nat.le_refl _) _
  have hx0 : Bx (w.alloc (.cells (cells s (.slice A n cp)) 59)) w.heap.size s (.slice A n cp) := heap_alloc_new w _
  have HV := Lib.hid (isan_q s A n cp _ (hsl.step hb0) hnm)
  unfold StepOut
  obtain ⟨N, hN⟩ : ∃ N, N = nxt s (C4p.num s.c.s raw) st := ⟨_, rfl⟩
  rw [← hN]
  have HNN := Lib.hid hN
  have hN2 : N < 64 := by rw [hN]; exact nxt_lt _ _ _
  have ha := andn_u8 st s.mx.toNat
  have hbi : bits .or .u8 ((wth s (C4p.num s.c.s raw) 0 0 : Nat) : Int) (bits .and .u8 (st : Int) ((wth s (C4p.num s.c.s raw) s.hl.toNat s.hu.toNat : Nat) : Int)) = (N : Int) := by
    have h1 := wth_lt s (C4p.num s.c.s raw) 0 0
    have h2 := wth_lt s (C4p.num s.c.s raw) s.hl.toNat s.hu.toNat
    have h3 : st &&& wth s (C4p.num s.c.s raw) s.hl.toNat s.hu.toNat < 2 ^ 6 := Nat.and_lt_two_pow _ h2
    rw [and_u8 _ _ hst (by omega), or_u8 _ _ (by omega) (by omega), hN]; rfl
  have HBI := Lib.hid hbi
  clear hbi
  generalize andn8 st s.mx.toNat = AN at *
  generalize (vs s && !s.d) = R at *
  clear hsl hnm
  go_enter Try.func48, Try.ntmps48
  go_wp2_with (refine wpList_load_bx rfl (.tmp 3) rfl _ _ _ rfl hx0 ?_)
  refine HV.out.mono ?_
  rintro e w2 ⟨rfl, hb2⟩
  have hx2 := hx0.below hb2
  have hbb := hb0.trans (hb2.mono hb0.size)
  clear hx0 hb0 hb2 HV
  cases R
  · go_wp2_with fail
    go_ret3
    exact ⟨hbb, rfl⟩
  have c14 : w2.cell? ⟨w.heap.size, 14, none⟩ = some (.int .u8 (s.mx.toNat : Int)) := hx2.c 14
  by_cases hz : AN = 0
  · subst hz
    go_wp2_with fail
    clear c14 ha
    have HW0 := Lib.hid fun (u : World) => within_q s (.slice A n cp) raw 0 0 u
    have HW1 := Lib.hid fun (u : World) => within_q s (.slice A n cp) raw s.hl s.hu u
    have hx2 : Bx w2.drew w.heap.size s (.slice A n cp) := hx2
    have hbb := below_drew hbb
    refine wp_region_held_drew (S := (fun W => Bx W w.heap.size s (.slice A n cp))) (by kernel_rfl) ?_ (fun hHeld => ?_)
    · (try dsimp only); exact hx2
    refine wpAnyH_take (i := 0) (oi := _) (v := ?vq1_0) rfl (by kernel_rfl) (by kernel_rfl) (by kernel_rfl) (fun _ _ _ h => h) (Or.inl ⟨rfl, ?yq1_0⟩) (by assumption) ?_
    case yq1_0 => intro w hSw; (try dsimp only at hSw); ((refine exec_load_bx2 (.tmp 3) ?_ ?_ hSw) <;> rfl)
    (try simp only [Act.put, List.getElem_toArray, List.getElem_cons_zero, List.setIfInBounds_toArray, List.set_cons_zero, List.set_cons_succ])
    refine wpAnyH_take (i := 1) (oi := _) (v := ?vq2_1) rfl (by kernel_rfl) (by kernel_rfl) (by kernel_rfl) (fun _ _ _ h => h) (Or.inl ⟨rfl, ?yq2_1⟩) (by assumption) ?_
    case yq2_1 => intro w hSw; (try dsimp only at hSw); go_simp; (try with_reducible rfl)
    (try simp only [Act.put, List.getElem_toArray, List.getElem_cons_succ, List.getElem_cons_zero, List.setIfInBounds_toArray, List.set_cons_zero, List.set_cons_succ])
    refine wpAnyH_take (i := 3) (oi := _) (v := ?vq3_3) rfl (by kernel_rfl) (by kernel_rfl) (by kernel_rfl) (fun _ _ _ h => h) (Or.inl ⟨rfl, ?yq3_3⟩) (by assumption) ?_
    case yq3_3 => intro w hSw; (try dsimp only at hSw); go_simp; (try with_reducible rfl)
    (try simp only [Act.put, List.getElem_toArray, List.getElem_cons_succ, List.getElem_cons_zero, List.setIfInBounds_toArray, List.set_cons_zero, List.set_cons_succ])
    refine wpAnyH_take (i := 4) (oi := _) (v := ?vq4_4) rfl (by kernel_rfl) (by kernel_rfl) (by kernel_rfl) (fun _ _ _ h => h) (Or.inl ⟨rfl, ?yq4_4⟩) (by assumption) ?_
    case yq4_4 => intro w hSw; (try dsimp only at hSw); ((refine exec_load_bx2 (.tmp 3) ?_ ?_ hSw) <;> rfl)
    (try simp only [Act.put, List.getElem_toArray, List.getElem_cons_succ, List.getElem_cons_zero, List.setIfInBounds_toArray, List.set_cons_zero, List.set_cons_succ])
    refine wpAnyH_take (i := 5) (oi := _) (v := ?vq5_5) rfl (by kernel_rfl) (by kernel_rfl) (by kernel_rfl) (fun _ _ _ h => h) (Or.inl ⟨rfl, ?yq5_5⟩) (by assumption) ?_
    case yq5_5 => intro w hSw; (try dsimp only at hSw); go_simp; (try with_reducible rfl)
    (try simp only [Act.put, List.getElem_toArray, List.getElem_cons_succ, List.getElem_cons_zero, List.setIfInBounds_toArray, List.set_cons_zero, List.set_cons_succ])
    refine wpAnyH_take (i := 6) (oi := _) (v := ?vq6_6) rfl (by kernel_rfl) (by kernel_rfl) (by kernel_rfl) (fun _ _ _ h => h) (Or.inl ⟨rfl, ?yq6_6⟩) (by assumption) ?_
    case yq6_6 => intro w hSw; (try dsimp only at hSw); go_simp; (try with_reducible rfl)
    (try simp only [Act.put, List.getElem_toArray, List.getElem_cons_succ, List.getElem_cons_zero, List.setIfInBounds_toArray, List.set_cons_zero, List.set_cons_succ])
    refine wpAnyH_take (i := 7) (oi := _) (v := ?vq7_7) rfl (by kernel_rfl) (by kernel_rfl) (by kernel_rfl) (fun _ _ _ h => h) (Or.inl ⟨rfl, ?yq7_7⟩) (by assumption) ?_
    case yq7_7 => intro w hSw; have hSw := (hSw.c 21).trans (show (cells s (.slice A n cp))[21]? = some (.int .u8 (s.hl.toNat : Int)) from rfl); (try dsimp only at hSw); go_simp; (try with_reducible rfl)
    (try simp only [Act.put, List.getElem_toArray, List.getElem_cons_succ, List.getElem_cons_zero, List.setIfInBounds_toArray, List.set_cons_zero, List.set_cons_succ])
    refine wpAnyH_take (i := 8) (oi := _) (v := ?vq8_8) rfl (by kernel_rfl) (by kernel_rfl) (by kernel_rfl) (fun _ _ _ h => h) (Or.inl ⟨rfl, ?yq8_8⟩) (by assumption) ?_
    case yq8_8 => intro w hSw; (try dsimp only at hSw); go_simp; (try with_reducible rfl)
    (try simp only [Act.put, List.getElem_toArray, List.getElem_cons_succ, List.getElem_cons_zero, List.setIfInBounds_toArray, List.set_cons_zero, List.set_cons_succ])
    refine wpAnyH_take (i := 9) (oi := _) (v := ?vq9_9) rfl (by kernel_rfl) (by kernel_rfl) (by kernel_rfl) (fun _ _ _ h => h) (Or.inl ⟨rfl, ?yq9_9⟩) (by assumption) ?_
    case yq9_9 => intro w hSw; have hSw := (hSw.c 22).trans (show (cells s (.slice A n cp))[22]? = some (.int .u8 (s.hu.toNat : Int)) from rfl); (try dsimp only at hSw); go_simp; (try with_reducible rfl)
    (try simp only [Act.put, List.getElem_toArray, List.getElem_cons_succ, List.getElem_cons_zero, List.setIfInBounds_toArray, List.set_cons_zero, List.set_cons_succ])
    refine wpAnyH_ready (rs := [2]) (by kernel_rfl) (by simp) ?_
    refine AllReadyH.cons (o := _) rfl (fun K hK => ?_) AllReadyH.nil
    go_simp
    go_at_call 85; refine (HW0.out _).mono ?_; rintro e u2 ⟨rfl, hbu⟩; have hx2 := hx2.below hbu; have hbb := hbb.trans (hbu.mono hbb.size); clear hbu
    refine hK.out _ _ ?_ (fun hHeld => ?_)
    · (try dsimp only); exact hx2
    clear hK K
    (try simp only [Act.put, List.getElem_toArray, List.getElem_cons_succ, List.getElem_cons_zero, List.setIfInBounds_toArray, List.set_cons_zero, List.set_cons_succ])
    refine wpAnyH_ready (rs := [10]) (by kernel_rfl) (by simp) ?_
    refine AllReadyH.cons (o := _) rfl (fun K hK => ?_) AllReadyH.nil
    go_simp
    go_at_call 85; refine (HW1.out _).mono ?_; rintro e u10 ⟨rfl, hbu⟩; have hx2 := hx2.below hbu; have hbb := hbb.trans (hbu.mono hbb.size); clear hbu
    refine hK.out _ _ ?_ (fun hHeld => ?_)
    · (try dsimp only); exact hx2
    clear hK K
    (try simp only [Act.put, List.getElem_toArray, List.getElem_cons_succ, List.getElem_cons_zero, List.setIfInBounds_toArray, List.set_cons_zero, List.set_cons_succ])
    refine wpAnyH_take (i := 11) (oi := _) (v := ?vq10_11) rfl (by kernel_rfl) (by kernel_rfl) (by kernel_rfl) (fun _ _ _ h => h) (Or.inl ⟨rfl, ?yq10_11⟩) (by assumption) ?_
    case yq10_11 => intro w hSw; (try dsimp only at hSw); go_simp; (try with_reducible rfl)
    (try simp only [Act.put, List.getElem_toArray, List.getElem_cons_succ, List.getElem_cons_zero, List.setIfInBounds_toArray, List.set_cons_zero, List.set_cons_succ])
    refine wpAnyH_take (i := 12) (oi := _) (v := ?vq11_12) rfl (by kernel_rfl) (by kernel_rfl) (by kernel_rfl) (fun _ _ _ h => h) (Or.inl ⟨rfl, ?yq11_12⟩) (by assumption) ?_
    case yq11_12 => intro w hSw; (try dsimp only at hSw); go_simp; (try with_reducible rfl)
    (try simp only [Act.put, List.getElem_toArray, List.getElem_cons_succ, List.getElem_cons_zero, List.setIfInBounds_toArray, List.set_cons_zero, List.set_cons_succ])
    refine wpAnyH_take (i := 13) (oi := _) (v := ?vq12_13) rfl (by kernel_rfl) (by kernel_rfl) (by kernel_rfl) (fun _ _ _ h => h) (Or.inl ⟨rfl, ?yq12_13⟩) (by assumption) ?_
    case yq12_13 => intro w hSw; (try dsimp only at hSw); go_simp; (try with_reducible rfl)
    (try simp only [Act.put, List.getElem_toArray, List.getElem_cons_succ, List.getElem_cons_zero, List.setIfInBounds_toArray, List.set_cons_zero, List.set_cons_succ])
    refine wpAnyH_done (by kernel_rfl) ?_ _
    go_wp2_with fail
    rw [HBI.out]
    refine (changes_q st N hst (by omega) _).mono ?_
    rintro e u2 ⟨v, rfl, hown, hbu⟩
    have hown : KOwn w.heap.size u2 v (chs st N 6) := kown_base hown hbb.size
    have hbb := hbb.trans (hbu.mono hbb.size)
    clear hbu
    go_wp2_with fail
    go_ret3
    exact ⟨hbb, v, by rw [← HNN.out]; rfl, by rw [← HNN.out]; exact hown⟩
  · have hnz : ((AN : Int) != 0) = true := by rw [bne_iff_ne]; omega
    go_wp2_with fail
    go_ret3
    refine ⟨hbb, ?_⟩
    first | rfl | (trace_state; fail)
end Go.Proofs.Ytafoaonkjcfbaaa.Ya
