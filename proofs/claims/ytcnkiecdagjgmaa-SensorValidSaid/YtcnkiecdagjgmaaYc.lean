/- Walks: the program's thresholds: what a reading reaches. Walks: the program's thresholds: which sensors have them; the next state, what is reached. Walks: the program's thresholds: what is reached, severity; the example of layer 12. Walks: the sanity check of layer 12. -/
import Derived.Test.YtcnkiecdagjgmaaYa
import Derived.Test.YtcnkiecdagjgmaaTkk
import Derived.Deep.RegionHeld3
import Derived.OwnWalk
namespace Go.Proofs.Ytcnkiecdagjgmaa.Ya
open Go.RowKit Go.Proofs.Ytcnkiecdagjgmaa.Mem Go.Proofs.Ytcnkiecdagjgmaa.F2p Go.Proofs.Ytcnkiecdagjgmaa.C4l Go.Proofs.Ytcnkiecdagjgmaa.Ta Go.Proofs.Ytcnkiecdagjgmaa.Tb
set_option maxRecDepth 100000
set_option maxHeartbeats 1000000

theorem pow_mod (j : Nat) (h : 2 ^ j < 64) : (2 : Int) ^ j % 256 = ((2 ^ j : Nat) : Int) := by
  have e : (2 : Int) ^ j = ((2 ^ j : Nat) : Int) := by rw [Int.natCast_pow]; rfl
  rw [e]
  generalize 2 ^ j = q at *
  omega
theorem within_q (s : Sn) (V : Value) (raw lo hi : UInt8) (w : World) :
    Calls Try.prog 73 #[.agg (cells s V), .int .u8 (raw.toNat : Int), .int .u8 (lo.toNat : Int), .int .u8 (hi.toNat : Int)] w fun e w' => e = .returned (.int .u8 (wth s (C4p.num s.c.s raw) lo.toNat hi.toNat : Nat)) ∧ Below w.heap.size w w' := by
  have hHN := fun (j : Nat) (u : World) => P4.number_p s.c.s (s.raw.getD j 0) u
  have hHX := fun (u : World) => P4.number_p s.c.s raw u
  obtain ⟨x, hx⟩ : ∃ x, x = C4p.num s.c.s raw := ⟨_, rfl⟩
  rw [← hx]
  have hxb : -128 ≤ x ∧ x ≤ 255 := by
    rw [hx]; unfold C4p.num; have := raw.toNat_lt; split <;> omega
  have hnb : ∀ j, -128 ≤ C4p.num s.c.s (s.raw.getD j 0) ∧ C4p.num s.c.s (s.raw.getD j 0) ≤ 255 := fun j => by
    have := (s.raw.getD j 0).toNat_lt; unfold C4p.num; split <;> omega
  have hrch : ∀ j, rch s x lo.toNat hi.toNat j = (has s.mx.toNat j && (if j ≤ 2 then decide (x ≤ C4p.num s.c.s (s.raw.getD j 0) + (lo.toNat : Int)) else decide (C4p.num s.c.s (s.raw.getD j 0) - (hi.toNat : Int) ≤ x))) := fun j => rfl
  have hfin : wth s x lo.toNat hi.toNat = pk (rch s x lo.toNat hi.toNat) 6 := rfl
  have HFIN := Lib.hid hfin
  have hpk := fun j => pk_lt (rch s x lo.toNat hi.toNat) j
  have hpo := fun j => pk_or (rch s x lo.toNat hi.toNat) j
  have hps : ∀ j, pk (rch s x lo.toNat hi.toNat) (j + 1) = pk (rch s x lo.toNat hi.toNat) j + (if rch s x lo.toNat hi.toNat j = true then 2 ^ j else 0) := fun j => rfl
  have HX := Lib.hid hx
  generalize rch s x lo.toNat hi.toNat = f at *
  have HPK := Lib.hid hpk
  have HPO := Lib.hid hpo
  have HPS := Lib.hid hps
  have HRC := Lib.hid hrch
  have HNB := Lib.hid hnb
  have HN := Lib.hid hHN
  have HHX := Lib.hid hHX
  rw [hfin]
  clear hpk hpo hps hrch hnb hHN hHX hx hfin
  have hb0 : Below w.heap.size w (w.alloc (.cells (cells s V) 32)) := (Below.refl _ _).alloc (Nat.le_refl _) _
  have hx0 : Bx (w.alloc (.cells (cells s V) 32)) w.heap.size s V := heap_alloc_new w _
  have hd0 : s.raw = [s.r0, s.r1, s.r2, s.r3, s.r4, s.r5] := rfl
  have c8 : (w.alloc (.cells (cells s V) 32)).cell? ⟨w.heap.size, 8, none⟩ = some (.bool s.c.s) := hx0.c 8
  have c14 : (w.alloc (.cells (cells s V) 32)).cell? ⟨w.heap.size, 14, none⟩ = some (.int .u8 (s.mx.toNat : Int)) := hx0.c 14
  have c15 : (w.alloc (.cells (cells s V) 32)).cell? ⟨w.heap.size, 15, none⟩ = some (.int .u8 (s.r0.toNat : Int)) := hx0.c 15
  have c16 : (w.alloc (.cells (cells s V) 32)).cell? ⟨w.heap.size, 16, none⟩ = some (.int .u8 (s.r1.toNat : Int)) := hx0.c 16
  have c17 : (w.alloc (.cells (cells s V) 32)).cell? ⟨w.heap.size, 17, none⟩ = some (.int .u8 (s.r2.toNat : Int)) := hx0.c 17
  have c18 : (w.alloc (.cells (cells s V) 32)).cell? ⟨w.heap.size, 18, none⟩ = some (.int .u8 (s.r3.toNat : Int)) := hx0.c 18
  have c19 : (w.alloc (.cells (cells s V) 32)).cell? ⟨w.heap.size, 19, none⟩ = some (.int .u8 (s.r4.toNat : Int)) := hx0.c 19
  have c20 : (w.alloc (.cells (cells s V) 32)).cell? ⟨w.heap.size, 20, none⟩ = some (.int .u8 (s.r5.toNat : Int)) := hx0.c 20
  have hhx := HHX.out
  rw [← HX.out] at hhx
  have HHX := Lib.hid hhx
  have hn := HN.out; have hrc := HRC.out; have hnb := HNB.out
  rw [hd0] at hn hrc hnb
  have HN := Lib.hid hn; have HRC := Lib.hid hrc; have HNB := Lib.hid hnb
  clear hhx hx0 hn hrc hnb hd0 HX
  generalize s.r0 = r0 at *; generalize s.r1 = r1 at *; generalize s.r2 = r2 at *; generalize s.r3 = r3 at *; generalize s.r4 = r4 at *; generalize s.r5 = r5 at *
  generalize s.c.s = sg at *; generalize s.mx = mx at *
  generalize cells s V = CS at *
  clear HFIN
  have hlo := lo.toNat_lt
  have hhi := hi.toNat_lt
  have hmx := mx.toNat_lt
  have hix : ∀ j : Nat, j < 6 → ∀ W, Sem.run Try.prog (Instr.index 27 (.agg #[.int .u8 (r0.toNat : Int), .int .u8 (r1.toNat : Int), .int .u8 (r2.toNat : Int), .int .u8 (r3.toNat : Int), .int .u8 (r4.toNat : Int), .int .u8 (r5.toNat : Int)]) (.int .i64 (j : Int))) W = .ok (Value.int .u8 (([r0, r1, r2, r3, r4, r5].getD j 0).toNat : Int)) W := fun j hj W => by
    rcases (show j = 0 ∨ j = 1 ∨ j = 2 ∨ j = 3 ∨ j = 4 ∨ j = 5 by omega) with rfl | rfl | rfl | rfl | rfl | rfl <;> first | rfl | (go_simp; rfl) | go_simp
  have HIX := Lib.hid hix
  clear hix
  go_enter Try.func73, Try.ntmps73
  go_wp2_with fail
  refine (HHX.out _).mono ?_
  rintro e w2 ⟨rfl, rfl⟩
  go_wp2_with fail
  generalize w.alloc (.cells CS 32) = w1 at *
  go_loopw [10, 22] (fun v i wr => ∃ j : Nat, j ≤ 6 ∧ i = .int .i64 (j : Int) ∧ v = .int .u8 (pk f j : Nat) ∧ wr = w1) (fun _ i _ => 6 - (intOf i).toNat)
  case atStart => exact ⟨0, by omega, rfl, rfl, rfl⟩
  case round =>
    obtain ⟨j, hj, rfl, rfl, rfl⟩ := hrel
    by_cases hj6 : j < 6
    · have k6 : decide ((j : Int) < 6) = true := by simp; omega
      have e1 := Tb.and_one _ (Nat.lt_of_le_of_lt (Nat.div_le_self mx.toNat (2 ^ j)) hmx)
      rw [← shr_n] at e1
      have hix := HIX.out j hj6
      have hrc := HRC.out j
      have hnb := HNB.out j
      have HNJ := Lib.hid (HN.out j)
      have hps := HPS.out j
      unfold has at hrc
      have hq : mx.toNat / 2 ^ j % 2 < 2 := Nat.mod_lt _ (by omega)
      generalize [r0, r1, r2, r3, r4, r5].getD j 0 = xj at *
      generalize C4p.num sg xj = t at *
      generalize mx.toNat / 2 ^ j % 2 = q at *
      have hpj : pk f j < 64 := Nat.lt_of_lt_of_le (HPK.out j) (by have : 2 ^ j ≤ 2 ^ 6 := Nat.pow_le_pow_right (by omega) hj; omega)
      have HPS2 := Lib.hid hps
      have HRC2 := Lib.hid hrc
      clear hps hrc
      rcases (show q = 0 ∨ q = 1 by omega) with rfl | rfl
      · go_wp2_with fail
        refine ⟨⟨j + 1, by omega, by go_num, ?_, trivial⟩, by simp [intOf]; omega⟩
        have := HRC2.out
        rw [HPS2.out, this]; rfl
      · go_wp2_with fail
        refine (HNJ.out _).mono ?_
        rintro e w2 ⟨rfl, rfl⟩
        go_wp2_with fail
        all_goals
          refine ⟨⟨j + 1, by omega, by go_num, ?_, trivial⟩, by simp [intOf]; omega⟩
          have hr := HRC2.out
          have hs := HPS2.out
          simp only [decide_true, Bool.true_and] at hr
          rw [hs]
          cases hfj : f j
          · first
              | (rw [if_neg Bool.false_ne_true]; rfl)
              | (exfalso
                 rw [hfj] at hr
                 split at hr <;> (have hr := of_decide_eq_false hr.symm; omega))
          · first
              | (exfalso
                 rw [hfj] at hr
                 split at hr <;> (have hr := of_decide_eq_true hr.symm; omega))
              | (have h2 : 2 ^ j < 64 := by have : 2 ^ j ≤ 2 ^ 5 := Nat.pow_le_pow_right (by omega) (by omega); omega
                 rw [if_pos rfl, ← HPO.out j, pow_mod j h2, or_u8 _ _ (by omega) (by omega)])
    · obtain rfl : j = 6 := by omega
      go_wp2_with fail
      go_ret
      exact ⟨rfl, hb0⟩
end Go.Proofs.Ytcnkiecdagjgmaa.Ya
namespace Go.Proofs.Ytcnkiecdagjgmaa.Ya
open Go.RowKit Go.Proofs.Ytcnkiecdagjgmaa.Mem Go.Proofs.Ytcnkiecdagjgmaa.F2p Go.Proofs.Ytcnkiecdagjgmaa.C4l Go.Proofs.Ytcnkiecdagjgmaa.Ta Go.Proofs.Ytcnkiecdagjgmaa.Tb
set_option maxRecDepth 100000
set_option maxHeartbeats 1000000

theorem isan_q (s : Sn) (A : Option Addr) (n cp : Nat) (w : World) (hsl : PSl w A n cp s.c.p) (hnm : s.nm.size ≤ maxLen) :
    Calls Try.prog 72 #[.agg (cells s (.slice A n cp))] w fun e w' => e = .returned (.bool (vs s && !s.d)) ∧ Below w.heap.size w w' := by
  have hb0 : Below w.heap.size w (w.alloc (.cells (cells s (.slice A n cp)) 32)) := (Below.refl _ _).alloc (Nat.le_refl _) _
  have hx0 : Bx (w.alloc (.cells (cells s (.slice A n cp)) 32)) w.heap.size s (.slice A n cp) := heap_alloc_new w _
  have HV := Lib.hid (valid_p s A n cp _ (hsl.step hb0) hnm)
  generalize vs s = R at *
  have hc6 : (cells s (.slice A n cp))[6]? = some (.bool s.d) := rfl
  generalize s.d = d at *
  have HC6 := Lib.hid hc6
  clear hsl hnm hc6
  go_enter Try.func72, Try.ntmps72
  go_wp2_with (refine wpList_load_bx rfl (.tmp 1) rfl _ _ _ rfl hx0 ?_)
  refine HV.out.mono ?_
  rintro e w2 ⟨rfl, hb2⟩
  have c6 : w2.cell? ⟨w.heap.size, 6, none⟩ = some (.bool d) := ((hx0.below hb2).c 6).trans HC6.out
  have hbb := hb0.trans (hb2.mono hb0.size)
  clear hx0 hb0 hb2 HV
  cases R
  all_goals
    go_wp2_with fail
    go_ret
    exact ⟨rfl, hbb⟩
/-- What Step answers. -/
def StepOut (s : Sn) (st : Nat) (raw : UInt8) (w0 : World) (e : Ending) (w' : World) : Prop :=
  Below w0.heap.size w0 w' ∧
  if (vs s && !s.d) = false then e = .returned (.tuple #[.int .u8 0, .slice none 0 0, .int .i64 1])
  else if andn8 st s.mx.toNat ≠ 0 then e = .returned (.tuple #[.int .u8 0, .slice none 0 0, .int .i64 2])
  else ∃ v, e = .returned (.tuple #[.int .u8 (nxt s (C4p.num s.c.s raw) st : Nat), v, .int .i64 0]) ∧ KOwn w0.heap.size w' v (chs st (nxt s (C4p.num s.c.s raw) st) 6)
theorem exec_load_bx2 {o : Oper} {a : Act} {w : World} {r : Nat} {s : Sn} {V : Value} (x : Operand) (ho : o.op = .load 32 x) (hx : a.eval x = .pointer (some ⟨r, 0, none⟩)) (hb : Bx w r s V) : (execOp a.eval o).run Try.prog w = .ok (.value (.agg (cells s V))) w := by
  unfold execOp
  simp only [ho, hx, Instr.loadAt, Instr.sureAddr, Sem.run_bind, Sem.run_pure, Result.andThen_ok, run_loadVar_row w r _ _ _ _ _ hb Try.underlying32 rfl (by kernel_rfl)]
theorem kown_base {base base' : Nat} {w : World} {v : Value} {l : List Ch} (h : KOwn base w v l) (hb : base' ≤ base) : KOwn base' w v l := by
  rcases h with ⟨h1, h2⟩
  refine ⟨h1, ?_⟩
  rcases h2 with h2 | ⟨g, cap, cur, e, hg, h3⟩
  · exact .inl h2
  · exact .inr ⟨g, cap, cur, e, Nat.le_trans hb hg, h3⟩
theorem step_q (s : Sn) (A : Option Addr) (n cp : Nat) (st : Nat) (hst : st < 256) (raw : UInt8) (w : World) (hsl : PSl w A n cp s.c.p) (hnm : s.nm.size ≤ maxLen) :
    Calls Try.prog 21 #[.agg (cells s (.slice A n cp)), .int .u8 (st : Int), .int .u8 (raw.toNat : Int)] w fun e w' => StepOut s st raw w e w' := by
  have hb0 : Below w.heap.size w (w.alloc (.cells (cells s (.slice A n cp)) 32)) := (Below.refl _ _).alloc (Nat.le_refl _) _
  have hx0 : Bx (w.alloc (.cells (cells s (.slice A n cp)) 32)) w.heap.size s (.slice A n cp) := heap_alloc_new w _
  have HV := Lib.hid (isan_q s A n cp _ (hsl.step hb0) hnm)
  unfold StepOut
  obtain ⟨N, hN⟩ : ∃ N, N = nxt s (C4p.num s.c.s raw) st := ⟨_, rfl⟩
  rw [← hN]
  have HNN := Lib.hid hN
  have hN2 : N < 64 := by rw [hN]; exact nxt_lt _ _ _
  have ha := andn_u8 st s.mx.toNat
  have hbi : bits .or .u8 ((wth s (C4p.num s.c.s raw) 0 0 : Nat) : Int) (bits .and .u8 (st : Int) ((wth s (C4p.num s.c.s raw) s.hl.toNat s.hu.toNat : Nat) : Int)) = (N : Int) := by
    have h1 := wth_lt s (C4p.num s.c.s raw) 0 0
    have h2 := wth_lt s (C4p.num s.c.s raw) s.hl.toNat s.hu.toNat
    have h3 : st &&& wth s (C4p.num s.c.s raw) s.hl.toNat s.hu.toNat < 2 ^ 6 := Nat.and_lt_two_pow _ h2
    rw [and_u8 _ _ hst (by omega), or_u8 _ _ (by omega) (by omega), hN]; rfl
  have HBI := Lib.hid hbi
  clear hbi
  generalize andn8 st s.mx.toNat = AN at *
  generalize (vs s && !s.d) = R at *
  clear hsl hnm
  go_enter Try.func21, Try.ntmps21
  go_wp2_with (refine wpList_load_bx rfl (.tmp 3) rfl _ _ _ rfl hx0 ?_)
  refine HV.out.mono ?_
  rintro e w2 ⟨rfl, hb2⟩
  have hx2 := hx0.below hb2
  have hbb := hb0.trans (hb2.mono hb0.size)
  clear hx0 hb0 hb2 HV
  cases R
  · go_wp2_with fail
    go_ret3
    exact ⟨hbb, rfl⟩
  have c14 : w2.cell? ⟨w.heap.size, 14, none⟩ = some (.int .u8 (s.mx.toNat : Int)) := hx2.c 14
  by_cases hz : AN = 0
  · subst hz
    go_wp2_with fail
    clear c14 ha
    have HW0 := Lib.hid fun (u : World) => within_q s (.slice A n cp) raw 0 0 u
    have HW1 := Lib.hid fun (u : World) => within_q s (.slice A n cp) raw s.hl s.hu u
    have hx2 : Bx w2.drew w.heap.size s (.slice A n cp) := hx2
    have hbb := below_drew hbb
    refine wp_region_held_drew (S := (fun W => Bx W w.heap.size s (.slice A n cp))) (by kernel_rfl) ?_ (fun hHeld => ?_)
    · (try dsimp only); exact hx2
    refine wpAnyH_take (i := 0) (oi := _) (v := ?vq1_0) rfl (by kernel_rfl) (by kernel_rfl) (by kernel_rfl) (fun _ _ _ h => h) (Or.inl ⟨rfl, ?yq1_0⟩) (by assumption) ?_
    case yq1_0 => intro w hSw; (try dsimp only at hSw); ((refine exec_load_bx2 (.tmp 3) ?_ ?_ hSw) <;> rfl)
    (try simp only [Act.put, List.getElem_toArray, List.getElem_cons_zero, List.setIfInBounds_toArray, List.set_cons_zero, List.set_cons_succ])
    refine wpAnyH_take (i := 1) (oi := _) (v := ?vq2_1) rfl (by kernel_rfl) (by kernel_rfl) (by kernel_rfl) (fun _ _ _ h => h) (Or.inl ⟨rfl, ?yq2_1⟩) (by assumption) ?_
    case yq2_1 => intro w hSw; (try dsimp only at hSw); go_simp; (try with_reducible rfl)
    (try simp only [Act.put, List.getElem_toArray, List.getElem_cons_succ, List.getElem_cons_zero, List.setIfInBounds_toArray, List.set_cons_zero, List.set_cons_succ])
    refine wpAnyH_take (i := 3) (oi := _) (v := ?vq3_3) rfl (by kernel_rfl) (by kernel_rfl) (by kernel_rfl) (fun _ _ _ h => h) (Or.inl ⟨rfl, ?yq3_3⟩) (by assumption) ?_
    case yq3_3 => intro w hSw; (try dsimp only at hSw); go_simp; (try with_reducible rfl)
    (try simp only [Act.put, List.getElem_toArray, List.getElem_cons_succ, List.getElem_cons_zero, List.setIfInBounds_toArray, List.set_cons_zero, List.set_cons_succ])
    refine wpAnyH_take (i := 4) (oi := _) (v := ?vq4_4) rfl (by kernel_rfl) (by kernel_rfl) (by kernel_rfl) (fun _ _ _ h => h) (Or.inl ⟨rfl, ?yq4_4⟩) (by assumption) ?_
    case yq4_4 => intro w hSw; (try dsimp only at hSw); ((refine exec_load_bx2 (.tmp 3) ?_ ?_ hSw) <;> rfl)
    (try simp only [Act.put, List.getElem_toArray, List.getElem_cons_succ, List.getElem_cons_zero, List.setIfInBounds_toArray, List.set_cons_zero, List.set_cons_succ])
    refine wpAnyH_take (i := 5) (oi := _) (v := ?vq5_5) rfl (by kernel_rfl) (by kernel_rfl) (by kernel_rfl) (fun _ _ _ h => h) (Or.inl ⟨rfl, ?yq5_5⟩) (by assumption) ?_
    case yq5_5 => intro w hSw; (try dsimp only at hSw); go_simp; (try with_reducible rfl)
    (try simp only [Act.put, List.getElem_toArray, List.getElem_cons_succ, List.getElem_cons_zero, List.setIfInBounds_toArray, List.set_cons_zero, List.set_cons_succ])
    refine wpAnyH_take (i := 6) (oi := _) (v := ?vq6_6) rfl (by kernel_rfl) (by kernel_rfl) (by kernel_rfl) (fun _ _ _ h => h) (Or.inl ⟨rfl, ?yq6_6⟩) (by assumption) ?_
    case yq6_6 => intro w hSw; (try dsimp only at hSw); go_simp; (try with_reducible rfl)
    (try simp only [Act.put, List.getElem_toArray, List.getElem_cons_succ, List.getElem_cons_zero, List.setIfInBounds_toArray, List.set_cons_zero, List.set_cons_succ])
    refine wpAnyH_take (i := 7) (oi := _) (v := ?vq7_7) rfl (by kernel_rfl) (by kernel_rfl) (by kernel_rfl) (fun _ _ _ h => h) (Or.inl ⟨rfl, ?yq7_7⟩) (by assumption) ?_
    case yq7_7 => intro w hSw; have hSw := (hSw.c 21).trans (show (cells s (.slice A n cp))[21]? = some (.int .u8 (s.hl.toNat : Int)) from rfl); (try dsimp only at hSw); go_simp; (try with_reducible rfl)
    (try simp only [Act.put, List.getElem_toArray, List.getElem_cons_succ, List.getElem_cons_zero, List.setIfInBounds_toArray, List.set_cons_zero, List.set_cons_succ])
    refine wpAnyH_take (i := 8) (oi := _) (v := ?vq8_8) rfl (by kernel_rfl) (by kernel_rfl) (by kernel_rfl) (fun _ _ _ h => h) (Or.inl ⟨rfl, ?yq8_8⟩) (by assumption) ?_
    case yq8_8 => intro w hSw; (try dsimp only at hSw); go_simp; (try with_reducible rfl)
    (try simp only [Act.put, List.getElem_toArray, List.getElem_cons_succ, List.getElem_cons_zero, List.setIfInBounds_toArray, List.set_cons_zero, List.set_cons_succ])
    refine wpAnyH_take (i := 9) (oi := _) (v := ?vq9_9) rfl (by kernel_rfl) (by kernel_rfl) (by kernel_rfl) (fun _ _ _ h => h) (Or.inl ⟨rfl, ?yq9_9⟩) (by assumption) ?_
    case yq9_9 => intro w hSw; have hSw := (hSw.c 22).trans (show (cells s (.slice A n cp))[22]? = some (.int .u8 (s.hu.toNat : Int)) from rfl); (try dsimp only at hSw); go_simp; (try with_reducible rfl)
    (try simp only [Act.put, List.getElem_toArray, List.getElem_cons_succ, List.getElem_cons_zero, List.setIfInBounds_toArray, List.set_cons_zero, List.set_cons_succ])
    refine wpAnyH_ready (rs := [2]) (by kernel_rfl) (by simp) ?_
    refine AllReadyH.cons (o := _) rfl (fun K hK => ?_) AllReadyH.nil
    go_simp
    go_at_call 73; refine (HW0.out _).mono ?_; rintro e u2 ⟨rfl, hbu⟩; have hx2 := hx2.below hbu; have hbb := hbb.trans (hbu.mono hbb.size); clear hbu
    refine hK.out _ _ ?_ (fun hHeld => ?_)
    · (try dsimp only); exact hx2
    clear hK K
    (try simp only [Act.put, List.getElem_toArray, List.getElem_cons_succ, List.getElem_cons_zero, List.setIfInBounds_toArray, List.set_cons_zero, List.set_cons_succ])
    refine wpAnyH_ready (rs := [10]) (by kernel_rfl) (by simp) ?_
    refine AllReadyH.cons (o := _) rfl (fun K hK => ?_) AllReadyH.nil
    go_simp
    go_at_call 73; refine (HW1.out _).mono ?_; rintro e u10 ⟨rfl, hbu⟩; have hx2 := hx2.below hbu; have hbb := hbb.trans (hbu.mono hbb.size); clear hbu
    refine hK.out _ _ ?_ (fun hHeld => ?_)
    · (try dsimp only); exact hx2
    clear hK K
    (try simp only [Act.put, List.getElem_toArray, List.getElem_cons_succ, List.getElem_cons_zero, List.setIfInBounds_toArray, List.set_cons_zero, List.set_cons_succ])
    refine wpAnyH_take (i := 11) (oi := _) (v := ?vq10_11) rfl (by kernel_rfl) (by kernel_rfl) (by kernel_rfl) (fun _ _ _ h => h) (Or.inl ⟨rfl, ?yq10_11⟩) (by assumption) ?_
    case yq10_11 => intro w hSw; (try dsimp only at hSw); go_simp; (try with_reducible rfl)
    (try simp only [Act.put, List.getElem_toArray, List.getElem_cons_succ, List.getElem_cons_zero, List.setIfInBounds_toArray, List.set_cons_zero, List.set_cons_succ])
    refine wpAnyH_take (i := 12) (oi := _) (v := ?vq11_12) rfl (by kernel_rfl) (by kernel_rfl) (by kernel_rfl) (fun _ _ _ h => h) (Or.inl ⟨rfl, ?yq11_12⟩) (by assumption) ?_
    case yq11_12 => intro w hSw; (try dsimp only at hSw); go_simp; (try with_reducible rfl)
    (try simp only [Act.put, List.getElem_toArray, List.getElem_cons_succ, List.getElem_cons_zero, List.setIfInBounds_toArray, List.set_cons_zero, List.set_cons_succ])
    refine wpAnyH_take (i := 13) (oi := _) (v := ?vq12_13) rfl (by kernel_rfl) (by kernel_rfl) (by kernel_rfl) (fun _ _ _ h => h) (Or.inl ⟨rfl, ?yq12_13⟩) (by assumption) ?_
    case yq12_13 => intro w hSw; (try dsimp only at hSw); go_simp; (try with_reducible rfl)
    (try simp only [Act.put, List.getElem_toArray, List.getElem_cons_succ, List.getElem_cons_zero, List.setIfInBounds_toArray, List.set_cons_zero, List.set_cons_succ])
    refine wpAnyH_done (by kernel_rfl) ?_ _
    go_wp2_with fail
    rw [HBI.out]
    refine (changes_q st N hst (by omega) _).mono ?_
    rintro e u2 ⟨v, rfl, hown, hbu⟩
    have hown : KOwn w.heap.size u2 v (chs st N 6) := kown_base hown hbb.size
    have hbb := hbb.trans (hbu.mono hbb.size)
    clear hbu
    go_wp2_with fail
    go_ret3
    exact ⟨hbb, v, by rw [← HNN.out]; rfl, by rw [← HNN.out]; exact hown⟩
  · have hnz : ((AN : Int) != 0) = true := by rw [bne_iff_ne]; omega
    go_wp2_with fail
    go_ret3
    refine ⟨hbb, ?_⟩
    first | rfl | (trace_state; fail)
end Go.Proofs.Ytcnkiecdagjgmaa.Ya
namespace Go.Proofs.Ytcnkiecdagjgmaa.Ya
open Go.RowKit Go.Proofs.Ytcnkiecdagjgmaa.Mem Go.Proofs.Ytcnkiecdagjgmaa.F2p Go.Proofs.Ytcnkiecdagjgmaa.C4l Go.Proofs.Ytcnkiecdagjgmaa.Ta Go.Proofs.Ytcnkiecdagjgmaa.Tb
set_option maxRecDepth 100000
set_option maxHeartbeats 1000000

/-- What Reached answers. -/
def ReachedOut (s : Sn) (raw : UInt8) (w0 : World) (e : Ending) (w' : World) : Prop :=
  Below w0.heap.size w0 w' ∧
  if (vs s && !s.d) = false then e = .returned (.tuple #[.int .u8 0, .int .i64 1])
  else e = .returned (.tuple #[.int .u8 (wth s (C4p.num s.c.s raw) 0 0 : Nat), .int .i64 0])
theorem reached_q (s : Sn) (A : Option Addr) (n cp : Nat) (raw : UInt8) (w : World) (hsl : PSl w A n cp s.c.p) (hnm : s.nm.size ≤ maxLen) :
    Calls Try.prog 23 #[.agg (cells s (.slice A n cp)), .int .u8 (raw.toNat : Int)] w fun e w' => ReachedOut s raw w e w' := by
  have hb0 : Below w.heap.size w (w.alloc (.cells (cells s (.slice A n cp)) 32)) := (Below.refl _ _).alloc (Nat.le_refl _) _
  have hx0 : Bx (w.alloc (.cells (cells s (.slice A n cp)) 32)) w.heap.size s (.slice A n cp) := heap_alloc_new w _
  have HV := Lib.hid (isan_q s A n cp _ (hsl.step hb0) hnm)
  unfold ReachedOut
  have HW0 := Lib.hid fun (u : World) => within_q s (.slice A n cp) raw 0 0 u
  generalize (vs s && !s.d) = R at *
  clear hsl hnm
  go_enter Try.func23, Try.ntmps23
  go_wp2_with (refine wpList_load_bx rfl (.tmp 2) rfl _ _ _ rfl hx0 ?_)
  refine HV.out.mono ?_
  rintro e w2 ⟨rfl, hb2⟩
  have hx2 := hx0.below hb2
  have hbb := hb0.trans (hb2.mono hb0.size)
  clear hx0 hb0 hb2 HV
  cases R
  · go_wp2_with fail
    go_ret2
    exact ⟨hbb, rfl⟩
  go_wp2_with (refine wpList_load_bx rfl (.tmp 2) rfl _ _ _ rfl hx2 ?_)
  refine (HW0.out _).mono ?_
  rintro e w3 ⟨rfl, hb3⟩
  have hbb3 := hbb.trans (hb3.mono hbb.size)
  clear hbb hb3 hx2 HW0
  go_wp2_with fail
  go_ret2
  exact ⟨hbb3, rfl⟩
/-- How bad a state is. -/
def sev (x : Nat) : Int := if x &&& 36 ≠ 0 then 3 else if x &&& 18 ≠ 0 then 2 else if x &&& 9 ≠ 0 then 1 else 0
theorem sev_q (x : Nat) (hx : x < 256) (w : World) : Calls Try.prog 26 #[.int .u8 (x : Int)] w fun e w' => e = .returned (.int .i64 (sev x)) ∧ w = w' := by
  have h1 : bits .and .u8 (x : Int) 36 = ((x &&& 36 : Nat) : Int) := and_u8 x 36 hx (by omega)
  have h2 : bits .and .u8 (x : Int) 18 = ((x &&& 18 : Nat) : Int) := and_u8 x 18 hx (by omega)
  have h3 : bits .and .u8 (x : Int) 9 = ((x &&& 9 : Nat) : Int) := and_u8 x 9 hx (by omega)
  unfold sev
  obtain ⟨R, hR⟩ : ∃ R : Int, R = if x &&& 36 ≠ 0 then 3 else if x &&& 18 ≠ 0 then 2 else if x &&& 9 ≠ 0 then 1 else 0 := ⟨_, rfl⟩
  rw [← hR]
  generalize x &&& 36 = a at *
  generalize x &&& 18 = b at *
  generalize x &&& 9 = c at *
  have HR := Lib.hid hR
  clear hR
  go_enter Try.func26, Try.ntmps26
  by_cases ha : a = 0
  · subst ha
    by_cases hb : b = 0
    · subst hb
      by_cases hc : c = 0
      · subst hc
        have : R = 0 := HR.out
        subst this
        go_wp2_with fail
        go_ret
        exact ⟨rfl, rfl⟩
      · have hn : ((c : Int) != 0) = true := by rw [bne_iff_ne]; omega
        have : R = 1 := by rw [HR.out, if_neg (by omega), if_neg (by omega), if_pos hc]
        subst this
        go_wp2_with fail
        go_ret
        exact ⟨rfl, rfl⟩
    · have hn : ((b : Int) != 0) = true := by rw [bne_iff_ne]; omega
      have : R = 2 := by rw [HR.out, if_neg (by omega), if_pos hb]
      subst this
      go_wp2_with fail
      go_ret
      exact ⟨rfl, rfl⟩
  · have hn : ((a : Int) != 0) = true := by rw [bne_iff_ne]; omega
    have : R = 3 := by rw [HR.out, if_pos ha]
    subst this
    go_wp2_with fail
    go_ret
    exact ⟨rfl, rfl⟩
def snX : Sn := { noSn with nm := ⟨#[116]⟩, sm := 1, c := ⟨1, false, 1, 0, 0, 0, []⟩, mx := 24, r3 := 80, r4 := 90, hu := 2 }
theorem out_bx1 {p : Tmp} {a : Act} {w : World} {r : Nat} {s : Sn} {V : Value} {Q : Ending → World → Prop} {fn : Func} (hr : fn.results = #[.cell p 32]) (hp : a.tmps.getD p undef = .pointer (some ⟨r, 0, none⟩)) (hd : a.defers = []) (hb : Bx w r s V) (h : Q (.returned (.agg (cells s V))) w) :
    bodyPost Try.prog fn Q .ret a w := by
  refine bodyPost_ret ?_ hd h
  have hp' : a.tmps[p]?.getD undef = .pointer (some ⟨r, 0, none⟩) := by simpa using hp
  simp [results, hr, hp', asAddr, run_loadVar_row w r _ _ _ _ _ hb Try.underlying32 rfl (by kernel_rfl)]
theorem example_q (w : World) : Calls Try.prog 68 #[] w fun e w' => e = .returned (.agg (cells snX (.slice none 0 0))) ∧ Below w.heap.size w w' := by
  have hb0 : Below w.heap.size w (w.alloc (.cells #[.int .u8 0, .int .u8 0, .int .u8 0, .string ⟨#[]⟩, .int .u8 0, .int .u8 0, .bool false, .int .i64 0, .bool false, .int .i64 0, .int .i64 0, .int .i64 0, .int .i64 0, .slice none 0 0, .int .u8 0, .int .u8 0, .int .u8 0, .int .u8 0, .int .u8 0, .int .u8 0, .int .u8 0, .int .u8 0, .int .u8 0, .int .u16 0, .int .u16 0, .int .u16 0, .bool false, .int .i64 0] 32)) := (Below.refl _ _).alloc (Nat.le_refl _) _
  have hx0 := Bx.zero w
  go_enter Try.func68, Try.ntmps68
  go_wp2_with (refine wpList_store_bx rfl (.tmp 0) (.tmp 4) rfl w.heap.size snX noSn (.slice none 0 0) (.slice none 0 0) rfl rfl rfl hx0 ?_; intro w1 hx1 hg1; refine Hid.out ?_)
  refine Lib.hid ?_
  have hb1 := hb0.grown hg1 hb0.size (fun k hk => by injection hk; omega)
  clear hx0 hb0 hg1
  go_wp2_with fail
  exact out_bx1 (p := 0) Try.results68 rfl rfl hx1 ⟨rfl, hb1⟩
end Go.Proofs.Ytcnkiecdagjgmaa.Ya
namespace Go.Proofs.Ytcnkiecdagjgmaa.Ya
open Go.RowKit Go.Proofs.Ytcnkiecdagjgmaa.Mem Go.Proofs.Ytcnkiecdagjgmaa.F2p Go.Proofs.Ytcnkiecdagjgmaa.C4l Go.Proofs.Ytcnkiecdagjgmaa.Ta Go.Proofs.Ytcnkiecdagjgmaa.Tb
set_option maxRecDepth 100000
set_option maxHeartbeats 1000000

theorem ex_valid : (vs snX && !snX.d) = true := by decide +kernel
theorem ex_step (st : Nat) (raw : UInt8) (nx : Nat) (hst : st < 256) (h1 : andn8 st snX.mx.toNat = 0) (h2 : nxt snX (C4p.num false raw) st = nx) (w : World) :
    Calls Try.prog 21 #[.agg (cells snX (.slice none 0 0)), .int .u8 (st : Int), .int .u8 (raw.toNat : Int)] w fun e w' => (∃ v, e = .returned (.tuple #[.int .u8 (nx : Int), v, .int .i64 0])) ∧ Below w.heap.size w w' := by
  refine (step_q snX none 0 0 st hst raw w PSl.none (show (1 : Nat) ≤ maxLen by unfold maxLen; omega)).mono ?_
  rintro e w' ⟨hb, h⟩
  rw [if_neg (by rw [ex_valid]; simp), if_neg (by simpa using h1)] at h
  obtain ⟨v, he, -⟩ := h
  refine ⟨⟨v, ?_⟩, hb⟩
  rw [← h2]; exact he
theorem ex_steps (w : World) : Calls Try.prog 21 #[.agg (cells snX (.slice none 0 0)), .int .u8 0, .int .u8 85] w (fun e w' => (∃ v, e = .returned (.tuple #[.int .u8 8, v, .int .i64 0])) ∧ Below w.heap.size w w') ∧
    Calls Try.prog 21 #[.agg (cells snX (.slice none 0 0)), .int .u8 8, .int .u8 95] w (fun e w' => (∃ v, e = .returned (.tuple #[.int .u8 24, v, .int .i64 0])) ∧ Below w.heap.size w w') ∧
    Calls Try.prog 21 #[.agg (cells snX (.slice none 0 0)), .int .u8 24, .int .u8 89] w (fun e w' => (∃ v, e = .returned (.tuple #[.int .u8 24, v, .int .i64 0])) ∧ Below w.heap.size w w') ∧
    Calls Try.prog 21 #[.agg (cells snX (.slice none 0 0)), .int .u8 24, .int .u8 88] w (fun e w' => (∃ v, e = .returned (.tuple #[.int .u8 24, v, .int .i64 0])) ∧ Below w.heap.size w w') ∧
    Calls Try.prog 21 #[.agg (cells snX (.slice none 0 0)), .int .u8 24, .int .u8 87] w (fun e w' => (∃ v, e = .returned (.tuple #[.int .u8 8, v, .int .i64 0])) ∧ Below w.heap.size w w') :=
  ⟨ex_step 0 85 8 (by omega) (by decide +kernel) (by decide +kernel) w,
   ex_step 8 95 24 (by omega) (by decide +kernel) (by decide +kernel) w,
   ex_step 24 89 24 (by omega) (by decide +kernel) (by decide +kernel) w,
   ex_step 24 88 24 (by omega) (by decide +kernel) (by decide +kernel) w,
   ex_step 24 87 8 (by omega) (by decide +kernel) (by decide +kernel) w⟩
theorem awake_q (w : World) : Calls Try.prog 16 #[] w fun e w' => e = .returned (.bool true) ∧ Below w.heap.size w w' := by
  have HEX := Lib.hid fun (u : World) => example_q u
  have HST := Lib.hid fun (u : World) => ex_steps u
  have hb0 : Below w.heap.size w (w.alloc (.cells #[.int .u8 85, .int .u8 95, .int .u8 89, .int .u8 88, .int .u8 87] 102)) := (Below.refl _ _).alloc (Nat.le_refl _) _
  have hb1 := hb0.alloc hb0.size (.cells #[.int .u8 8, .int .u8 24, .int .u8 24, .int .u8 24, .int .u8 8] 102)
  have hr1 : (w.alloc (.cells #[.int .u8 85, .int .u8 95, .int .u8 89, .int .u8 88, .int .u8 87] 102)).heap[w.heap.size]? = some (.cells #[.int .u8 85, .int .u8 95, .int .u8 89, .int .u8 88, .int .u8 87] 102 (0, 0)) := heap_alloc_new w _
  have hr2 := (heap_alloc_old (w.alloc (.cells #[.int .u8 85, .int .u8 95, .int .u8 89, .int .u8 88, .int .u8 87] 102)) (.cells #[.int .u8 8, .int .u8 24, .int .u8 24, .int .u8 24, .int .u8 8] 102) (show w.heap.size < _ by rw [World.size_alloc]; omega)).trans hr1
  have hw2 : ((w.alloc (.cells #[.int .u8 85, .int .u8 95, .int .u8 89, .int .u8 88, .int .u8 87] 102)).alloc (.cells #[.int .u8 8, .int .u8 24, .int .u8 24, .int .u8 24, .int .u8 8] 102)).heap[w.heap.size + 1]? = some (.cells #[.int .u8 8, .int .u8 24, .int .u8 24, .int .u8 24, .int .u8 8] 102 (0, 0)) := by
    have := heap_alloc_new (w.alloc (.cells #[.int .u8 85, .int .u8 95, .int .u8 89, .int .u8 88, .int .u8 87] 102)) (.cells #[.int .u8 8, .int .u8 24, .int .u8 24, .int .u8 24, .int .u8 8] 102)
    rwa [World.size_alloc] at this
  clear hr1 hb0
  go_enter Try.func16, Try.ntmps16
  go_wp2_with fail
  generalize (w.alloc (.cells #[.int .u8 85, .int .u8 95, .int .u8 89, .int .u8 88, .int .u8 87] 102)).alloc (.cells #[.int .u8 8, .int .u8 24, .int .u8 24, .int .u8 24, .int .u8 8] 102) = w1 at *
  go_loopw [1, 4] (fun v i wr => ∃ k : Nat, k ≤ 5 ∧ i = .int .i64 (k : Int) ∧ v = .int .u8 (([0, 8, 24, 24, 24, 8] : List Int).getD k 0) ∧ wr.heap[w.heap.size]? = some (.cells #[.int .u8 85, .int .u8 95, .int .u8 89, .int .u8 88, .int .u8 87] 102 (0, 0)) ∧ wr.heap[w.heap.size + 1]? = some (.cells #[.int .u8 8, .int .u8 24, .int .u8 24, .int .u8 24, .int .u8 8] 102 (0, 0)) ∧ Below w.heap.size w wr) (fun _ i _ => 5 - (intOf i).toNat)
  case atStart => exact ⟨0, by omega, rfl, rfl, hr2, hw2, hb1⟩
  case round =>
    clear hr2 hw2 hb1
    obtain ⟨k, hk, rfl, rfl, hr, hw, hb⟩ := hrel
    have hlt : w.heap.size + 1 < wr.heap.size := by
      rcases Nat.lt_or_ge (w.heap.size + 1) wr.heap.size with h1 | h1
      · exact h1
      · rw [Array.getElem?_eq_none h1] at hw; cases hw
    rcases (show k = 0 ∨ k = 1 ∨ k = 2 ∨ k = 3 ∨ k = 4 ∨ k = 5 by omega) with rfl | rfl | rfl | rfl | rfl | rfl
    · have c1 : wr.cell? ⟨w.heap.size, 0, none⟩ = some (.int .u8 85) := cell_of_row wr _ 0 _ _ _ hr
      have hS : ∀ V : World, Below wr.heap.size wr V → V.cell? ⟨w.heap.size, 0, none⟩ = some (.int .u8 85) := fun V h => (h.cell (p := ⟨w.heap.size, 0, none⟩) (by show w.heap.size < _; omega)).trans c1
      have hq := Below.refl wr.heap.size wr
      have hq := below_drew hq
      have HS := Lib.hid hS
      have HB := Lib.hid hb
      have HR := Lib.hid hr
      have HW := Lib.hid hw
      clear hS hr hw hb
      go_wp2_with fail
      go_region_held3 (fun V => V.cell? ⟨w.heap.size, 0, none⟩ = some (.int .u8 85)) (exact HS.out _ hq)
        (first | (go_at_call 68; (with_reducible refine (HEX.out _).mono ?_); rintro e u1 ⟨rfl, hu1⟩; have hq := hq.trans (hu1.mono hq.size)) | (go_at_call 21; refine ((HST.out _).1).mono ?_; rintro e u2 ⟨⟨v2, rfl⟩, hu2⟩; have hq := hq.trans (hu2.mono hq.size)))
      have hwu : u2.heap[w.heap.size + 1]? = some (.cells #[.int .u8 8, .int .u8 24, .int .u8 24, .int .u8 24, .int .u8 8] 102 (0, 0)) := (hq.block _ hlt).trans HW.out
      have hru : u2.heap[w.heap.size]? = some (.cells #[.int .u8 85, .int .u8 95, .int .u8 89, .int .u8 88, .int .u8 87] 102 (0, 0)) := (hq.block _ (by omega)).trans HR.out
      have c2 : u2.cell? ⟨w.heap.size + 1, 0, none⟩ = some (.int .u8 8) := cell_of_row u2 _ 0 _ _ _ hwu
      have hbu := HB.out.trans (hq.mono HB.out.size)
      clear hq c1 hu1 hu2
      go_wp2_with fail
      exact ⟨⟨1, by omega, rfl, rfl, hru, hwu, hbu⟩, by simp [intOf]⟩
    · have c1 : wr.cell? ⟨w.heap.size, 1, none⟩ = some (.int .u8 95) := cell_of_row wr _ 1 _ _ _ hr
      have hS : ∀ V : World, Below wr.heap.size wr V → V.cell? ⟨w.heap.size, 1, none⟩ = some (.int .u8 95) := fun V h => (h.cell (p := ⟨w.heap.size, 1, none⟩) (by show w.heap.size < _; omega)).trans c1
      have hq := Below.refl wr.heap.size wr
      have hq := below_drew hq
      have HS := Lib.hid hS
      have HB := Lib.hid hb
      have HR := Lib.hid hr
      have HW := Lib.hid hw
      clear hS hr hw hb
      go_wp2_with fail
      go_region_held3 (fun V => V.cell? ⟨w.heap.size, 1, none⟩ = some (.int .u8 95)) (exact HS.out _ hq)
        (first | (go_at_call 68; (with_reducible refine (HEX.out _).mono ?_); rintro e u1 ⟨rfl, hu1⟩; have hq := hq.trans (hu1.mono hq.size)) | (go_at_call 21; refine ((HST.out _).2.1).mono ?_; rintro e u2 ⟨⟨v2, rfl⟩, hu2⟩; have hq := hq.trans (hu2.mono hq.size)))
      have hwu : u2.heap[w.heap.size + 1]? = some (.cells #[.int .u8 8, .int .u8 24, .int .u8 24, .int .u8 24, .int .u8 8] 102 (0, 0)) := (hq.block _ hlt).trans HW.out
      have hru : u2.heap[w.heap.size]? = some (.cells #[.int .u8 85, .int .u8 95, .int .u8 89, .int .u8 88, .int .u8 87] 102 (0, 0)) := (hq.block _ (by omega)).trans HR.out
      have c2 : u2.cell? ⟨w.heap.size + 1, 1, none⟩ = some (.int .u8 24) := cell_of_row u2 _ 1 _ _ _ hwu
      have hbu := HB.out.trans (hq.mono HB.out.size)
      clear hq c1 hu1 hu2
      go_wp2_with fail
      exact ⟨⟨2, by omega, rfl, rfl, hru, hwu, hbu⟩, by simp [intOf]⟩
    · have c1 : wr.cell? ⟨w.heap.size, 2, none⟩ = some (.int .u8 89) := cell_of_row wr _ 2 _ _ _ hr
      have hS : ∀ V : World, Below wr.heap.size wr V → V.cell? ⟨w.heap.size, 2, none⟩ = some (.int .u8 89) := fun V h => (h.cell (p := ⟨w.heap.size, 2, none⟩) (by show w.heap.size < _; omega)).trans c1
      have hq := Below.refl wr.heap.size wr
      have hq := below_drew hq
      have HS := Lib.hid hS
      have HB := Lib.hid hb
      have HR := Lib.hid hr
      have HW := Lib.hid hw
      clear hS hr hw hb
      go_wp2_with fail
      go_region_held3 (fun V => V.cell? ⟨w.heap.size, 2, none⟩ = some (.int .u8 89)) (exact HS.out _ hq)
        (first | (go_at_call 68; (with_reducible refine (HEX.out _).mono ?_); rintro e u1 ⟨rfl, hu1⟩; have hq := hq.trans (hu1.mono hq.size)) | (go_at_call 21; refine ((HST.out _).2.2.1).mono ?_; rintro e u2 ⟨⟨v2, rfl⟩, hu2⟩; have hq := hq.trans (hu2.mono hq.size)))
      have hwu : u2.heap[w.heap.size + 1]? = some (.cells #[.int .u8 8, .int .u8 24, .int .u8 24, .int .u8 24, .int .u8 8] 102 (0, 0)) := (hq.block _ hlt).trans HW.out
      have hru : u2.heap[w.heap.size]? = some (.cells #[.int .u8 85, .int .u8 95, .int .u8 89, .int .u8 88, .int .u8 87] 102 (0, 0)) := (hq.block _ (by omega)).trans HR.out
      have c2 : u2.cell? ⟨w.heap.size + 1, 2, none⟩ = some (.int .u8 24) := cell_of_row u2 _ 2 _ _ _ hwu
      have hbu := HB.out.trans (hq.mono HB.out.size)
      clear hq c1 hu1 hu2
      go_wp2_with fail
      exact ⟨⟨3, by omega, rfl, rfl, hru, hwu, hbu⟩, by simp [intOf]⟩
    · have c1 : wr.cell? ⟨w.heap.size, 3, none⟩ = some (.int .u8 88) := cell_of_row wr _ 3 _ _ _ hr
      have hS : ∀ V : World, Below wr.heap.size wr V → V.cell? ⟨w.heap.size, 3, none⟩ = some (.int .u8 88) := fun V h => (h.cell (p := ⟨w.heap.size, 3, none⟩) (by show w.heap.size < _; omega)).trans c1
      have hq := Below.refl wr.heap.size wr
      have hq := below_drew hq
      have HS := Lib.hid hS
      have HB := Lib.hid hb
      have HR := Lib.hid hr
      have HW := Lib.hid hw
      clear hS hr hw hb
      go_wp2_with fail
      go_region_held3 (fun V => V.cell? ⟨w.heap.size, 3, none⟩ = some (.int .u8 88)) (exact HS.out _ hq)
        (first | (go_at_call 68; (with_reducible refine (HEX.out _).mono ?_); rintro e u1 ⟨rfl, hu1⟩; have hq := hq.trans (hu1.mono hq.size)) | (go_at_call 21; refine ((HST.out _).2.2.2.1).mono ?_; rintro e u2 ⟨⟨v2, rfl⟩, hu2⟩; have hq := hq.trans (hu2.mono hq.size)))
      have hwu : u2.heap[w.heap.size + 1]? = some (.cells #[.int .u8 8, .int .u8 24, .int .u8 24, .int .u8 24, .int .u8 8] 102 (0, 0)) := (hq.block _ hlt).trans HW.out
      have hru : u2.heap[w.heap.size]? = some (.cells #[.int .u8 85, .int .u8 95, .int .u8 89, .int .u8 88, .int .u8 87] 102 (0, 0)) := (hq.block _ (by omega)).trans HR.out
      have c2 : u2.cell? ⟨w.heap.size + 1, 3, none⟩ = some (.int .u8 24) := cell_of_row u2 _ 3 _ _ _ hwu
      have hbu := HB.out.trans (hq.mono HB.out.size)
      clear hq c1 hu1 hu2
      go_wp2_with fail
      exact ⟨⟨4, by omega, rfl, rfl, hru, hwu, hbu⟩, by simp [intOf]⟩
    · have c1 : wr.cell? ⟨w.heap.size, 4, none⟩ = some (.int .u8 87) := cell_of_row wr _ 4 _ _ _ hr
      have hS : ∀ V : World, Below wr.heap.size wr V → V.cell? ⟨w.heap.size, 4, none⟩ = some (.int .u8 87) := fun V h => (h.cell (p := ⟨w.heap.size, 4, none⟩) (by show w.heap.size < _; omega)).trans c1
      have hq := Below.refl wr.heap.size wr
      have hq := below_drew hq
      have HS := Lib.hid hS
      have HB := Lib.hid hb
      have HR := Lib.hid hr
      have HW := Lib.hid hw
      clear hS hr hw hb
      go_wp2_with fail
      go_region_held3 (fun V => V.cell? ⟨w.heap.size, 4, none⟩ = some (.int .u8 87)) (exact HS.out _ hq)
        (first | (go_at_call 68; (with_reducible refine (HEX.out _).mono ?_); rintro e u1 ⟨rfl, hu1⟩; have hq := hq.trans (hu1.mono hq.size)) | (go_at_call 21; refine ((HST.out _).2.2.2.2).mono ?_; rintro e u2 ⟨⟨v2, rfl⟩, hu2⟩; have hq := hq.trans (hu2.mono hq.size)))
      have hwu : u2.heap[w.heap.size + 1]? = some (.cells #[.int .u8 8, .int .u8 24, .int .u8 24, .int .u8 24, .int .u8 8] 102 (0, 0)) := (hq.block _ hlt).trans HW.out
      have hru : u2.heap[w.heap.size]? = some (.cells #[.int .u8 85, .int .u8 95, .int .u8 89, .int .u8 88, .int .u8 87] 102 (0, 0)) := (hq.block _ (by omega)).trans HR.out
      have c2 : u2.cell? ⟨w.heap.size + 1, 4, none⟩ = some (.int .u8 8) := cell_of_row u2 _ 4 _ _ _ hwu
      have hbu := HB.out.trans (hq.mono HB.out.size)
      clear hq c1 hu1 hu2
      go_wp2_with fail
      exact ⟨⟨5, by omega, rfl, rfl, hru, hwu, hbu⟩, by simp [intOf]⟩
    · go_wp2_with fail
      go_ret
      exact ⟨rfl, hb⟩
end Go.Proofs.Ytcnkiecdagjgmaa.Ya
