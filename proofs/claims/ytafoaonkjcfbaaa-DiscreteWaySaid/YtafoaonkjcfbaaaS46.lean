/- For the consequences of discrete states: steps within the states of a valid record; appends of lists of changes. -/
import Derived.Test.YtafoaonkjcfbaaaS26
import Derived.Test.YtafoaonkjcfbaaaS44
import Derived.Test.YtafoaonkjcfbaaaS45
namespace Go.Proofs.Ytafoaonkjcfbaaa.Ya
open Go.RowKit Go.Proofs.Ytafoaonkjcfbaaa.Mem Go.Proofs.Ytafoaonkjcfbaaa.F2p Go.Proofs.Ytafoaonkjcfbaaa.C4l Go.Proofs.Ytafoaonkjcfbaaa.Ta Go.Proofs.Ytafoaonkjcfbaaa.Tb
set_option maxRecDepth 100000
set_option maxHeartbeats 1000000

theorem vs_st {s : Sn} (hv : vs s = true) (hd : s.d = true) : s.st < 2 ^ 15 := by
  unfold vs at hv
  rw [if_pos hd] at hv
  simp only [Bool.and_eq_true] at hv
  have h := hv.2.2
  unfold dsc at h
  simp only [Bool.and_eq_true, decide_eq_true_eq] at h
  omega
theorem and_in (a b m : Nat) : andn ((a &&& m) ||| (b &&& m)) m = 0 := by
  apply Nat.eq_of_testBit_eq
  intro i
  unfold andn
  rw [BitVec.testBit_toNat, BitVec.getLsbD_and, BitVec.getLsbD_not, BitVec.getLsbD_ofNat, BitVec.getLsbD_ofNat, Nat.testBit_or, Nat.testBit_and, Nat.testBit_and, Nat.zero_testBit]
  cases decide (i < 16) <;> cases a.testBit i <;> cases b.testBit i <;> cases m.testBit i <;> rfl
theorem and_lt15 {a m : Nat} (h : m < 2 ^ 15) : a &&& m < 2 ^ 15 := Nat.and_lt_two_pow (n := 15) _ h
theorem step_w (s : Sn) (hv : vs s = true) (hd : s.d = true) (A : Option Addr) (n cp : Nat) (x y : Nat) (hx : x < 2 ^ 15) (hy : y < 2 ^ 15) (hin : andn (x ||| y) s.st = 0) (hnm : s.nm.size ≤ maxLen) (u : World) (hu : PSl u A n cp s.c.p) :
    Calls Try.prog 43 #[.agg (cells s (.slice A n cp)), .int .u16 (x : Int), .int .u16 (y : Int)] u fun e u' => ∃ B bn bc, e = .returned (.tuple #[.int .u16 (y : Int), .slice B bn bc, .int .i64 0]) ∧ KSl u' B bn bc (chs x y 15) ∧ Below u.heap.size u u' :=
  (step_d s A n cp x y (by omega) (by omega) u hu hnm).mono fun e u' h => by
    have h1 := dstep_out h
    have hdv : (s.d && vs s) = true := by rw [hv, hd]; rfl
    rw [show do1 s x y = y by unfold do1; rw [if_neg (by rw [hdv]; simp), if_neg (by rw [hin]; simp)], show do2 s x y = 0 by unfold do2; rw [if_neg (by rw [hdv]; simp), if_neg (by rw [hin]; simp)],
      show do3 s x y = chs x y 15 by unfold do3; rw [if_neg (by rw [hdv]; simp), if_neg (by rw [hin]; simp)]] at h1
    exact h1
theorem ksl_at {w : World} {a : Addr} {n c : Nat} {l : List Ch} (h : KSl w (some a) n c l) : KsAt w a l := fun j v hv => by
  have hj := (List.getElem?_eq_some_iff.1 hv).1
  obtain ⟨a', e, _, hc⟩ := h.row (by omega)
  injection e with e
  subst e
  rw [hc j hj, ← List.getElem?_eq_getElem hj]; exact hv
theorem run_append_ks (w : World) (base : Nat) (ty : TypeId) (v : Value) (l : List Ch) (hown : KOwn base w v l) (m : List Ch) (A : Option Addr) (n c : Nat) (h : KSl w A n c m)
    (hl : l.length + m.length ≤ 1000) (hbase : base ≤ w.heap.size) :
    ∃ v' w', (Builtin.append_ #[82, 82] ty #[v, .slice A n c]).run Try.prog w = .ok v' w' ∧ KOwn base w' v' (l ++ m) ∧ w.grownBy w' v.ownBlock := by
  rcases A with _ | a
  · obtain rfl := h.nil rfl
    have hn := h.len
    have hc := h.cap
    obtain rfl : m = [] := List.length_eq_zero_iff.1 (by omega)
    obtain rfl : n = 0 := by omega
    obtain ⟨i, hi, hz0, hz1, hz2⟩ := info_parts infoK
    exact ⟨v, w, run_append_owned_none (P := Try.prog) w base 82 ty 88 i 2 Try.underlying82 hi v l.length (kvs l) hown, by rw [List.append_nil]; exact hown, World.grownBy.refl w _⟩
  · obtain ⟨v', w', h1, h2, h3, _⟩ := run_append_k w base ty v l hown m a n c h.len (ksl_at h) hl hbase
    exact ⟨v', w', h1, h2, h3⟩
theorem wpList_append_ks {ops : Array Oper} {rest : List Oper} {o : Oper} {a : Act} {Q : Exit → Act → World → Prop} (w : World) (hgd : o.guard = none) (s x : Operand)
    (ho : o.op = .call { callee := .builtin .append, args := #[s, x], argTypes := #[82, 82] })
    (base : Nat) (v : Value) (l : List Ch) (hs : a.eval s = v) (hown : KOwn base w v l) (m : List Ch) (A : Option Addr) (n c : Nat) (hx : a.eval x = .slice A n c) (hm : KSl w A n c m)
    (hl : l.length + m.length ≤ 1000) (hbase : base ≤ w.heap.size)
    (h : ∀ v' w', KOwn base w' v' (l ++ m) → w.grownBy w' v.ownBlock → wpList Try.prog ops Q rest (a.put o.dst v') w') : wpList Try.prog ops Q (o :: rest) a w := by
  refine wpList_plain hgd fun K hK => ?_
  obtain ⟨v', w', hrun, h2, h3⟩ := run_append_ks w base o.type v l hown m A n c hm hl hbase
  unfold Oper.wp execOp
  simp only [ho, resolve, invoke, builtin, Sem.run_bind, Sem.run_pure, Result.andThen_ok, List.map_toArray, List.map_cons, List.map_nil, hs, hx, hrun]
  exact hK _ _ (h v' w' h2 h3)
theorem up_app (a b : List Ch) : Zb.up (a ++ b) = Zb.up a ++ Zb.up b := by unfold Zb.up; rw [List.map_append]
theorem way_apl {x y z : Nat} (hx : x < 2 ^ 15) (hy : y < 2 ^ 15) (hz : z < 2 ^ 15) : Zb.apl x (Zb.up (chs x z 15 ++ chs z y 15)) = (y, 0) := by
  rw [up_app, Zb.apl_app _ _ _ (by rw [Zb.apl_step x z 15 (by omega) hx hz]), Zb.apl_step x z 15 (by omega) hx hz]
  exact Zb.apl_step z y 15 (by omega) hz hy
end Go.Proofs.Ytafoaonkjcfbaaa.Ya
