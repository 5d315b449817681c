/- Lists of fields: the mathematics of decoding what was encoded; appends that tell the block. -/
import Derived.Test.YtkhdldemhaifpaaFm
namespace Go.Proofs.Ytkhdldemhaifpaa.Fl
open Go.RowKit Go.Proofs.Ytkhdldemhaifpaa.Mem Go.Proofs.Ytkhdldemhaifpaa.F2p Go.Proofs.Ytkhdldemhaifpaa.Fa
set_option maxRecDepth 100000
set_option maxHeartbeats 1000000
theorem encs_cons (x : Fi) (l : List Fi) : encs (x :: l) = enc x.1 (bl x.2) ++ encs l := by unfold encs; rw [List.flatMap_cons]
theorem encs_app (a b : List Fi) : encs (a ++ b) = encs a ++ encs b := by unfold encs; rw [List.flatMap_append]
theorem dec_193 (r : List UInt8) : dec (193 :: r) = ⟨0, [], 1, true, 0⟩ := by
  unfold dec
  rw [if_neg (by simp), if_pos (by simp)]
theorem dec_nil : dec [] = ⟨0, [], 0, false, 4⟩ := by
  unfold dec
  rw [if_pos (by simp)]
theorem okf_cons {x : Fi} {l : List Fi} (h : okf (x :: l) = true) : vld x.1 (bl x.2) = true ∧ okf l = true := by
  unfold okf at *
  rw [List.all_cons, Bool.and_eq_true] at h
  exact h
theorem drop_pre (p r : List UInt8) : (p ++ r).drop p.length = r := by rw [List.drop_left']; rfl
theorem dl_enc (l : List Fi) (f : Nat) (p r : List UInt8) (acc : List Fi) (h : okf l = true) :
    dl (p ++ (encs l ++ 193 :: r)) f p.length acc = if l.length ≤ f then (0, p.length + (encs l).length + 1, acc ++ l) else (3, 0, []) := by
  induction l generalizing f p acc with
  | nil =>
    have hd : dec ((p ++ (encs [] ++ 193 :: r)).drop p.length) = ⟨0, [], 1, true, 0⟩ := by rw [drop_pre]; exact dec_193 r
    rw [dl_end (by rw [hd]) (by rw [hd]), hd, if_pos (by simp)]
    simp [encs]
  | cons x l ih =>
    obtain ⟨hv, hl⟩ := okf_cons h
    have hd : dec ((p ++ (encs (x :: l) ++ 193 :: r)).drop p.length) = ⟨x.1, bl x.2, (enc x.1 (bl x.2)).length, false, 0⟩ := by
      rw [drop_pre, encs_cons, List.append_assoc, dec_enc _ _ _ hv]
    cases f with
    | zero => rw [dl_many (by rw [hd]) (by rw [hd]), if_neg (by simp)]
    | succ f =>
      rw [dl_next (by rw [hd]) (by rw [hd]), hd]
      simp only [mk_bl]
      have e1 : p ++ (encs (x :: l) ++ 193 :: r) = (p ++ enc x.1 (bl x.2)) ++ (encs l ++ 193 :: r) := by rw [encs_cons]; simp
      have e2 : p.length + (enc x.1 (bl x.2)).length = (p ++ enc x.1 (bl x.2)).length := by rw [List.length_append]
      rw [e1, e2, ih f _ _ hl]
      by_cases hf : l.length ≤ f
      · rw [if_pos hf, if_pos (by simpa using hf), encs_cons]
        simp; omega
      · rw [if_neg hf, if_neg (by simpa using hf)]
theorem dl_cut (l : List Fi) (f : Nat) (p : List UInt8) (m : Nat) (acc : List Fi) (h : okf l = true) (hm : m < (encs l).length + 1) (hf : l.length ≤ f) :
    dl (p ++ (encs l ++ [193]).take m) f p.length acc = (4, 0, []) := by
  induction l generalizing f p acc m with
  | nil =>
    obtain rfl : m = 0 := by simp [encs] at hm; omega
    have hd : dec ((p ++ (encs [] ++ [193]).take 0).drop p.length) = ⟨0, [], 0, false, 4⟩ := by rw [drop_pre]; exact dec_nil
    rw [dl_err (by rw [hd]; decide), hd]
  | cons x l ih =>
    obtain ⟨hv, hl⟩ := okf_cons h
    rw [encs_cons, List.append_assoc]
    by_cases hlt : m < (enc x.1 (bl x.2)).length
    · have hd : dec ((p ++ (enc x.1 (bl x.2) ++ (encs l ++ [193])).take m).drop p.length) = ⟨0, [], 0, false, 4⟩ := by rw [drop_pre]; exact dec_cut _ _ _ hv m hlt
      rw [dl_err (by rw [hd]; decide), hd]
    · have e0 : (enc x.1 (bl x.2) ++ (encs l ++ [193])).take m = enc x.1 (bl x.2) ++ (encs l ++ [193]).take (m - (enc x.1 (bl x.2)).length) := by
        rw [List.take_append, List.take_of_length_le (by omega)]
      rw [e0]
      have hd : dec ((p ++ (enc x.1 (bl x.2) ++ (encs l ++ [193]).take (m - (enc x.1 (bl x.2)).length))).drop p.length) = ⟨x.1, bl x.2, (enc x.1 (bl x.2)).length, false, 0⟩ := by
        rw [drop_pre, dec_enc _ _ _ hv]
      cases f with
      | zero => simp at hf
      | succ f =>
        rw [dl_next (by rw [hd]) (by rw [hd]), hd]
        simp only [mk_bl]
        rw [← List.append_assoc, ← List.length_append]
        refine ih f _ _ _ hl ?_ (by simpa using hf)
        rw [encs_cons, List.length_append] at hm
        omega
theorem dl_whole (l : List Fi) (r : List UInt8) (h : okf l = true) : dl (encs l ++ [193] ++ r) 16 0 [] = if l.length ≤ 16 then (0, (encs l).length + 1, l) else (3, 0, []) := by
  have := dl_enc l 16 [] r [] h
  simp only [List.nil_append, List.length_nil, Nat.zero_add] at this
  rw [List.append_assoc]
  exact this
theorem dl_part (l : List Fi) (m : Nat) (h : okf l = true) (hm : m < (encs l).length + 1) (hf : l.length ≤ 16) : dl ((encs l ++ [193]).take m) 16 0 [] = (4, 0, []) := by
  have := dl_cut l 16 [] m [] h hm hf
  simpa using this
theorem encs_rep (x : Fi) (n : Nat) : (encs (List.replicate n x)).length = n * (enc x.1 (bl x.2)).length := by
  induction n with
  | zero => simp [encs]
  | succ n ih => rw [List.replicate_succ, encs_cons, List.length_append, ih, Nat.succ_mul]; omega
theorem encs_rep_snoc (x : Fi) (n : Nat) : encs (List.replicate (n + 1) x) = encs (List.replicate n x) ++ enc x.1 (bl x.2) := by
  rw [List.replicate_succ', encs_app]; simp [encs]
theorem okf_rep (x : Fi) (n : Nat) (h : vld x.1 (bl x.2) = true) : okf (List.replicate n x) = true := by
  unfold okf
  rw [List.all_eq_true]
  intro y hy
  rw [(List.mem_replicate.1 hy).2]; exact h
theorem wpList_append_rd2 {P : Program} (w : World) {ops : Array Oper} {rest : List Oper} {o : Oper} {a : Act} {Q : Exit → Act → World → Prop} (hgd : o.guard = none) (s x : Operand) (t : TypeId)
    (ho : o.op = .call { callee := .builtin .append, args := #[s, x], argTypes := #[t, t] })
    (base : Nat) (e : TypeId) (i : TypeInfo) (z : Value) (bytes : Nat) (ht : P.underlying t = some (.slice e)) (hi : P.info? e = some i) (hz : i.zero = some z)
    (hsize : i.size = 1) (hby : i.bytes = bytes) (hzs : z.cells.size = 1)
    (v : Value) (n : Nat) (xs : List Value) (hs : a.eval s = v) (hown : w.ownsRow base e 1 v n xs) (B : Nat) (A : Option Addr) (m c : Nat) (news : List Value) (hx : a.eval x = .slice A m c)
    (hm : news.length = m) (hr : Rd B w A news) (hA : A = none → c = 0)
    (h1 : ∀ u ∈ news, u.oneCell' = true) (h63 : n + m ≤ maxLen) (hbytes : (n + m) * bytes ≤ 140737488355328) (hbase : base ≤ w.heap.size)
    (h : ∀ v' w', w'.ownsRow base e 1 v' (n + m) (xs ++ news) → w.grownBy w' v.ownBlock → (v'.ownBlock = v.ownBlock ∨ v'.ownBlock = some w.heap.size) → wpList P ops Q rest (a.put o.dst v') w') : wpList P ops Q (o :: rest) a w := by
  refine wpList_plain hgd fun K hK => ?_
  obtain ⟨v', w', hrun, h2, h3, h4⟩ := run_append_rd (P := P) w base t o.type e i z bytes ht hi hz hsize hby hzs v n xs hown B A m c news hm hr hA h1 h63 hbytes hbase
  unfold Oper.wp execOp
  simp only [ho, resolve, invoke, builtin, Sem.run_bind, Sem.run_pure, Result.andThen_ok, List.map_toArray, List.map_cons, List.map_nil, hs, hx, hrun]
  exact hK _ _ (h v' w' h2 h3 h4)
theorem wpList_append_f2 {ops : Array Oper} {rest : List Oper} {o : Oper} {a : Act} {Q : Exit → Act → World → Prop} (w : World) (hgd : o.guard = none) (s x : Operand)
    (ho : o.op = .call { callee := .builtin .append, args := #[s, x], argTypes := #[30, 30] })
    (base : Nat) (v : Value) (l : List Fi) (hs : a.eval s = v) (hown : FOwn base w v l) (k : Int) (t : ByteArray) (p : Addr) (c : Nat) (hx : a.eval x = .slice (some p) 1 c)
    (h0 : w.cell? p = some (.int .i64 k)) (h1 : w.cell? (p.add 1) = some (.string t)) (hl : l.length ≤ 1000) (hbase : base ≤ w.heap.size)
    (h : ∀ v' w', FOwn base w' v' (l ++ [(k, t)]) → w.grownBy w' v.ownBlock → (v'.ownBlock = v.ownBlock ∨ v'.ownBlock = some w.heap.size) → wpList Try.prog ops Q rest (a.put o.dst v') w') : wpList Try.prog ops Q (o :: rest) a w := by
  obtain ⟨i, hi, hz0, hz1, hz2⟩ := info_parts infoF
  have hn : ∀ (j : Nat) (u : Value), ([.int .i64 k, .string t] : List Value)[j]? = some u → w.cell? (p.add j) = some u := fun j u hu => by
    match j with
    | 0 => simp at hu; subst hu; simpa [Addr.add] using h0
    | 1 => simp at hu; subst hu; exact h1
    | j + 2 => simp at hu
  refine wpList_plain hgd fun K hK => ?_
  obtain ⟨v', w', hrun, h2, h3, _, h5⟩ := run_append_own_at (P := Try.prog) w base 30 o.type 23 i _ 2 24 Try.underlying30 hi hz0 hz1 hz2 rfl (by omega) v l.length (fvs l) hown p 1 c [.int .i64 k, .string t] rfl hn
    (fun u hu => fvs_one [(k, t)] u (by simpa [fvs] using hu)) (by unfold maxLen; omega) (by omega) hbase
  unfold Oper.wp execOp
  simp only [ho, resolve, invoke, builtin, Sem.run_bind, Sem.run_pure, Result.andThen_ok, List.map_toArray, List.map_cons, List.map_nil, hs, hx, hrun]
  refine hK _ _ (h v' w' ?_ h3 h5)
  unfold FOwn
  rw [fvs_app, List.length_append]
  exact h2
end Go.Proofs.Ytkhdldemhaifpaa.Fl
