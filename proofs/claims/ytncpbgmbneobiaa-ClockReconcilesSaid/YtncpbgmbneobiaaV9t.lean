/- Mathematics: the log of a clock that is advanced and set. -/
import Derived.Test.YtncpbgmbneobiaaV9s
import Derived.Test.YtncpbgmbneobiaaV9h
namespace Go.Proofs.Ytncpbgmbneobiaa.V9
open Go.RowKit Go.Proofs.Ytncpbgmbneobiaa.Mem Go.Proofs.Ytncpbgmbneobiaa.F2p Go.Proofs.Ytncpbgmbneobiaa.V7
set_option maxRecDepth 100000

/-- A list and events behind it that shift what stands before them by d. -/
theorem tms_app (m : List Ev) (d : Int) (hd : ∀ p, sf p m = d) : ∀ (l : List Ev), tms (l ++ m) = (tms l).map (· + d) ++ tms m
  | [] => rfl
  | e :: l => by
    simp only [List.cons_append, tms, List.map_cons, tms_app m d hd l]
    rw [sf_app, hd]
    congr 1
    omega
theorem sf_plain (e : Ev) (h : mk e = 0) (p : Ev) : sf p [e] = 0 := by simp [sf, h]
theorem mk_first (t : Nat) : mk (chg 0 t) = 1 := rfl
theorem mk_second (t : Nat) : mk (chg 128 t) = 2 := rfl
theorem sf_change (a b : Nat) (p : Ev) : sf p [chg 0 a, chg 128 b] = (b : Int) - (a : Int) := by
  unfold sf
  rw [if_neg (show ¬ mk (chg 0 a) = 2 by rw [mk_first]; decide)]
  unfold sf
  rw [if_pos (mk_second b)]
  show (0 : Int) + (((b : Int) - (a : Int)) + 0) = _
  omega
/-- The event of a sensor. -/
def sen (t : Nat) : Ev := ⟨0, t, 0, 1, 0, 1, false, 0, 0, 0⟩
theorem mk_sen (t : Nat) : mk (sen t) = 0 := rfl
theorem sen_fit {t : Nat} (h : t < 4294967296) : (sen t).Fit :=
  ⟨by show 0 < 65536; omega, h, by show 0 < 65536; omega, by show 1 < 256; omega, by show 0 < 256; omega, by show 1 < 256; omega, by show 0 < 256; omega, by show 0 < 256; omega, by show 0 < 256; omega⟩
/-- What holds of a clock, its log and the ticks of its log. -/
structure Log (c : Ck) (E : List Ev) (K : List Int) : Prop where
  ok : c.ok = true
  fit : ∀ e ∈ E, e.Fit
  pr : paired false E = true
  tm : tms E = K.map (fun x => x / 10 + c.b)
  up : K.Pairwise (· ≤ ·)
  le : ∀ x ∈ K, 0 ≤ x ∧ x ≤ c.t
theorem Log.len {c : Ck} {E : List Ev} {K : List Int} (h : Log c E K) : E.length = K.length := by
  have := congrArg List.length h.tm
  rwa [tms_len, List.length_map] at this
theorem Log.start : Log Ck.none [] [] := ⟨by decide, by simp, rfl, rfl, List.Pairwise.nil, by simp⟩
theorem up_app {K : List Int} {t : Int} (h : K.Pairwise (· ≤ ·)) (hl : ∀ x ∈ K, x ≤ t) (m : List Int) (hm : m.Pairwise (· ≤ ·)) (hm2 : ∀ x ∈ m, t ≤ x) : (K ++ m).Pairwise (· ≤ ·) := by
  rw [List.pairwise_append]
  exact ⟨h, hm, fun a ha b hb => Int.le_trans (hl a ha) (hm2 b hb)⟩
theorem Log.tick {c : Ck} {E : List Ev} {K : List Int} (h : Log c E K) (k : Int) (hk : 0 ≤ k) (hok : (Ck.mk (c.t + k) c.b c.s).ok = true) :
    Log ⟨c.t + k, c.b, c.s⟩ (E ++ [sen (Ck.mk (c.t + k) c.b c.s).tm.toNat]) (K ++ [c.t + k]) := by
  obtain ⟨h1, h2, h3, h4, h5⟩ := Ck.ok_b hok
  refine ⟨hok, ?_, ?_, ?_, ?_, ?_⟩
  · intro e he
    rcases List.mem_append.1 he with he | he
    · exact h.fit e he
    · obtain rfl := List.mem_singleton.1 he
      exact sen_fit (by omega)
  · rw [paired_app E false _ h.pr]; rfl
  · rw [tms_app _ 0 (sf_plain _ (mk_sen _)) E, h.tm, List.map_append, List.map_map]
    congr 1
    · apply List.map_congr_left; intro x _; simp
    · simp only [tms, sf, List.map_cons, List.map_nil]
      congr 1
      show (((Ck.mk (c.t + k) c.b c.s).tm.toNat : Nat) : Int) + 0 = (c.t + k) / 10 + c.b
      unfold Ck.tm at h4 ⊢
      simp only at h4 ⊢
      omega
  · exact up_app h.up (fun x hx => (h.le x hx).2) _ (List.pairwise_singleton _ _) (by intro x hx; obtain rfl := List.mem_singleton.1 hx; omega)
  · intro x hx
    rcases List.mem_append.1 hx with hx | hx
    · have := h.le x hx; exact ⟨this.1, by show x ≤ c.t + k; omega⟩
    · obtain rfl := List.mem_singleton.1 hx
      exact ⟨h1, Int.le_refl _⟩
theorem Log.set {c : Ck} {E : List Ev} {K : List Int} (h : Log c E K) (q : Nat) (hq : q < 4000000000) :
    Log ⟨c.t, (q : Int) - c.t / 10, true⟩ (E ++ [chg 0 c.tm.toNat, chg 128 q]) (K ++ [c.t, c.t]) := by
  obtain ⟨h1, h2, h3, h4, h5⟩ := Ck.ok_b h.ok
  have hok : (Ck.mk c.t ((q : Int) - c.t / 10) true).ok = true := by simp [Ck.ok]; omega
  have htm : ((c.tm.toNat : Nat) : Int) = c.t / 10 + c.b := by
    unfold Ck.tm at h4 ⊢
    omega
  refine ⟨hok, ?_, ?_, ?_, ?_, ?_⟩
  · intro e he
    rcases List.mem_append.1 he with he | he
    · exact h.fit e he
    · simp only [List.mem_cons, List.not_mem_nil, or_false] at he
      rcases he with rfl | rfl
      · exact chg_fit (by omega) (by omega)
      · exact chg_fit (by omega) (by omega)
  · rw [paired_app E false _ h.pr]; rfl
  · rw [tms_app _ _ (sf_change _ _) E, h.tm, List.map_append, List.map_map]
    congr 1
    · apply List.map_congr_left; intro x _
      show x / 10 + c.b + ((q : Int) - ((c.tm.toNat : Nat) : Int)) = x / 10 + ((q : Int) - c.t / 10)
      omega
    · simp only [tms, sf, mk_second, if_true, List.map_cons, List.map_nil]
      show [((c.tm.toNat : Nat) : Int) + (((q : Int) - ((c.tm.toNat : Nat) : Int)) + 0), (q : Int) + 0] = _
      rw [show ((c.tm.toNat : Nat) : Int) + (((q : Int) - ((c.tm.toNat : Nat) : Int)) + 0) = c.t / 10 + ((q : Int) - c.t / 10) by omega, show (q : Int) + 0 = c.t / 10 + ((q : Int) - c.t / 10) by omega]
  · exact up_app h.up (fun x hx => (h.le x hx).2) _ (by simp) (by intro x hx; simp at hx; omega)
  · intro x hx
    rcases List.mem_append.1 hx with hx | hx
    · exact h.le x hx
    · simp at hx; subst hx; exact ⟨h1, Int.le_refl _⟩
theorem adv_in (c : Ck) (hk : c.ok = true) (k : Int) (h0 : 0 ≤ k) (h1 : c.t + k ≤ 17179869184) (h2 : (c.t + k) / 10 + c.b ≤ 4294967294) : adv c k = (⟨c.t + k, c.b, c.s⟩, 0) ∧ (Ck.mk (c.t + k) c.b c.s).ok = true := by
  obtain ⟨g1, g2, g3, g4, g5⟩ := Ck.ok_b hk
  unfold Ck.tm at g4
  have hok : (Ck.mk (c.t + k) c.b c.s).ok = true := by
    simp only [Ck.ok, Bool.and_eq_true, Bool.or_eq_true, decide_eq_true_eq]
    exact ⟨⟨⟨⟨by omega, by omega⟩, g3⟩, by omega⟩, by omega⟩
  refine ⟨?_, hok⟩
  unfold adv
  rw [hk, if_pos rfl, if_neg (by omega), hok, if_pos rfl]
/-- The times of a log never fall. -/
theorem up_get {K : List Int} (h : K.Pairwise (· ≤ ·)) (i : Nat) (hi : i + 1 < K.length) : K[i] ≤ K[i + 1] := by
  exact List.pairwise_iff_getElem.1 h i (i + 1) (by omega) hi (by omega)
/-! Rows of different types are different rows. -/
theorem own_apart {base base' : Nat} {w : World} {v v' : Value} {l : List Ev} {l' : List Int} (h : EOwn base w v l) (h' : LOwn base' w v' l') : v.ownBlock = none ∨ v'.ownBlock = none ∨ v.ownBlock ≠ v'.ownBlock := by
  rcases h.2 with ⟨rfl, -⟩ | ⟨g, cap, cur, rfl, -, hh, -⟩
  · exact .inl rfl
  · rcases h'.2 with ⟨rfl, -⟩ | ⟨g', cap', cur', rfl, -, hh', -⟩
    · exact .inr (.inl rfl)
    · refine .inr (.inr fun e => ?_)
      simp only [Value.ownBlock] at e
      injection e with e
      subst e
      rw [hh] at hh'
      injection hh' with hh'
      injection hh' with _ e2 _
      exact absurd e2 (by decide)
theorem lown_kept {base base' : Nat} {w w' : World} {v v' : Value} {l : List Ev} {l' : List Int} (h' : LOwn base' w v' l') (h : EOwn base w v l) (hg : w.grownBy w' v.ownBlock) : LOwn base' w' v' l' :=
  World.ownsRow.kept h' hg (by
    rcases own_apart h h' with e | e | e
    · rw [e]; exact Classical.em _
    · exact .inl e
    · exact .inr (fun x => e x.symm))
theorem eown_kept {base base' : Nat} {w w' : World} {v v' : Value} {l : List Ev} {l' : List Int} (h : EOwn base w v l) (h' : LOwn base' w v' l') (hg : w.grownBy w' v'.ownBlock) : EOwn base w' v l :=
  World.ownsRow.kept h hg (by
    rcases own_apart h h' with e | e | e
    · exact .inl e
    · rw [e]; exact Classical.em _
    · exact .inr e)
end Go.Proofs.Ytncpbgmbneobiaa.V9
