/- Walks: the program's sensor records: what stands behind the name of an analog one. -/
import Derived.Test.YtafoaonkjcfbaaaK55
import Derived.Test.YtafoaonkjcfbaaaK59
namespace Go.Proofs.Ytafoaonkjcfbaaa.Ua
open Go.RowKit Go.Proofs.Ytafoaonkjcfbaaa.Mem Go.Proofs.Ytafoaonkjcfbaaa.F2p Go.Proofs.Ytafoaonkjcfbaaa.C4l Go.Proofs.Ytafoaonkjcfbaaa.Ta Go.Proofs.Ytafoaonkjcfbaaa.Tb
set_option maxRecDepth 100000
set_option maxHeartbeats 1000000

/-- Points do not lie in a record's block. -/
theorem psl_ne {W : World} {a : Addr} {n c F : Nat} {p : List Pt} {s : Sn} {V : Value} (hp : PSl W (some a) n c p) (hb : Bx W F s V) (hV : ∃ A' n' c', V = .slice A' n' c') (h0 : p ≠ []) : a.block ≠ F := by
  intro e
  obtain ⟨A', n', c', rfl⟩ := hV
  have hl : 0 < p.length := List.length_pos_iff.2 h0
  obtain ⟨a', e1, -, q0, q1⟩ := prow_at hp.row hl
  injection e1 with e1
  subst e1
  rw [Nat.zero_mul] at q0 q1
  have q0' : W.cell? a = some (.int .u8 (p[0].1.toNat : Int)) := q0
  have q1' : W.cell? ⟨a.block, a.off + 1, none⟩ = some (.int .i64 p[0].2) := q1
  rcases a with ⟨ab, ao, ai⟩
  subst e
  rcases ai with _ | ai
  · have h1 : W.cell? ⟨ab, ao, none⟩ = (cells s (.slice A' n' c'))[ao]? := hb.c ao
    have h2 : W.cell? ⟨ab, ao + 1, none⟩ = (cells s (.slice A' n' c'))[ao + 1]? := hb.c (ao + 1)
    rw [h1] at q0'
    rw [show (⟨(⟨ab, ao, none⟩ : Addr).block, (⟨ab, ao, none⟩ : Addr).off + 1, none⟩ : Addr) = ⟨ab, ao + 1, none⟩ from rfl, h2] at q1'
    have hao : ao < 28 := by
      rcases Nat.lt_or_ge ao 28 with g | g
      · exact g
      · rw [Array.getElem?_eq_none (show (cells s (.slice A' n' c')).size ≤ ao from g)] at q0'; cases q0'
    rcases (show ao = 0 ∨ ao = 1 ∨ ao = 2 ∨ ao = 3 ∨ ao = 4 ∨ ao = 5 ∨ ao = 6 ∨ ao = 7 ∨ ao = 8 ∨ ao = 9 ∨ ao = 10 ∨ ao = 11 ∨ ao = 12 ∨ ao = 13 ∨ ao = 14 ∨ ao = 15 ∨ ao = 16 ∨ ao = 17 ∨ ao = 18 ∨ ao = 19 ∨ ao = 20 ∨ ao = 21 ∨ ao = 22 ∨ ao = 23 ∨ ao = 24 ∨ ao = 25 ∨ ao = 26 ∨ ao = 27 by omega) with rfl | rfl | rfl | rfl | rfl | rfl | rfl | rfl | rfl | rfl | rfl | rfl | rfl | rfl | rfl | rfl | rfl | rfl | rfl | rfl | rfl | rfl | rfl | rfl | rfl | rfl | rfl | rfl <;> first | (cases q0'; done) | (cases q1'; done)
  · simp [World.cell?] at q0'
    split at q0' <;> cases q0'
theorem psl_far {W W' : World} {A : Option Addr} {n c F : Nat} {p : List Pt} {s : Sn} {V : Value} (hp : PSl W A n c p) (hb : Bx W F s V) (hV : ∃ A' n' c', V = .slice A' n' c') (hg : W.grownBy W' (some F)) : PSl W' A n c p := by
  refine ⟨hp.len, fun hl => ?_, hp.cap, hp.max, hp.nil⟩
  obtain ⟨a, rfl, hlt, hc⟩ := hp.row hl
  have hne := psl_ne hp hb hV (fun e => by rw [e] at hl; simp [pvs] at hl)
  refine ⟨a, rfl, Nat.lt_of_lt_of_le hlt hg.size, fun k hk => ?_⟩
  have : W'.cell? (a.add k) = W.cell? (a.add k) := World.cell?_of_block (hg.block _ (by rw [add_block]; exact hlt) (fun e => by injection e with e; rw [add_block] at e; exact hne e))
  rw [this]
  exact hc k hk
/-- What reading a record leaves. -/
def Rdd (w : World) (R : Sn × Nat) (e : Ending) (w' : World) : Prop := ∃ A n c, e = .returned (.tuple #[.agg (cells R.1 (.slice A n c)), .int .i64 ((R.2 : Nat) : Int)]) ∧ PSl w' A n c R.1.c.p ∧ Below w.heap.size w w'
theorem rdd_q (s : Sn) (A : Option Addr) (n c : Nat) (l : List UInt8) (w : World) (hsl : Sl w A n c l) (hp : s.c.p = []) : Calls Try.prog 110 #[.agg (cells s (.slice none 0 0)), .slice A n c] w (Rdd w (rdD s l)) :=
  (rdd_p s A n c l w hsl).mono fun e w' ⟨h1, h2⟩ => ⟨none, 0, 0, h1, by
    have : (rdD s l).1.c.p = [] := by unfold rdD; split <;> first | rfl | exact hp
    rw [this]; exact PSl.none, h2⟩
/-- What dec answers is in its bounds. -/
theorem dec_in (l : List UInt8) : (0 ≤ (C4p.dec l).2.2 ∧ (C4p.dec l).2.2 ≤ 6) ∧ ((C4p.dec l).2.2 = 0 → 2 ≤ (C4p.dec l).2.1 ∧ (C4p.dec l).2.1 ≤ (l.length : Int)) := by
  unfold C4p.dec C4p.dfin
  repeat' split
  all_goals (dsimp only; refine ⟨by omega, fun h => ?_⟩)
  all_goals first | omega | exact absurd h (by decide)
end Go.Proofs.Ytafoaonkjcfbaaa.Ua
