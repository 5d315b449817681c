/- Walks: a repository with some records of the dice, and their bytes. -/
import Derived.Test.YtcnkiecdagjgmaaRj
import Derived.Test.YtcnkiecdagjgmaaDz
namespace Go.Proofs.Ytcnkiecdagjgmaa.R11
open Go.RowKit Go.Proofs.Ytcnkiecdagjgmaa.Mem Go.Proofs.Ytcnkiecdagjgmaa.Made
set_option maxRecDepth 100000
set_option maxHeartbeats 1000000

/-- Bytes that lie in memory. -/
structure Bk where
  blk : Nat
  cap : Nat
  b : List UInt8
def Bk.v (x : Bk) : Value := .slice (some ⟨x.blk, 0, none⟩) x.b.length x.cap
def bkvs (l : List Bk) : List Value := l.map Bk.v
theorem bkvs_one (l : List Bk) : ∀ u ∈ bkvs l, u.oneCell' = true := by
  intro u hu
  obtain ⟨x, _, rfl⟩ := List.mem_map.1 hu
  rfl
def AOwn (base : Nat) (w : World) (v : Value) (l : List Bk) : Prop := w.ownsRow base 42 1 v l.length (bkvs l)
theorem infoB : (Try.prog.info? 42).map (fun i => (i.zero, i.size, i.bytes)) = some (some (.slice none 0 0), 1, 24) := by kernel_rfl
theorem AOwn.nil {base : Nat} {w : World} : AOwn base w (.slice none 0 0) [] := ⟨by simp [bkvs], .inl ⟨rfl, by simp⟩⟩
theorem AOwn.blk {base : Nat} {w : World} {v : Value} {l : List Bk} (h : AOwn base w v l) {i : Nat} (hi : v.ownBlock = some i) : base ≤ i ∧ ∃ c z, w.heap[i]? = some (.cells c 42 z) := by
  rcases h.2 with ⟨rfl, _⟩ | ⟨g, cap, cur, rfl, hg, hh, _⟩
  · cases hi
  · injection hi with hi
    subst hi
    exact ⟨hg, _, _, hh⟩
theorem AOwn.form {base : Nat} {w : World} {v : Value} {l : List Bk} (h : AOwn base w v l) : ∃ A n c, v = .slice A n c ∧ n = l.length ∧ n ≤ c ∧ c ≤ maxLen ∧ Rd w.heap.size w A (bkvs l) ∧ (A = none → c = 0) := by
  obtain ⟨A, c, rfl, h1, h2⟩ := own_form h
  refine ⟨A, l.length, c, rfl, rfl, h1, h2, own_rd h, fun e => ?_⟩
  rcases h.2 with ⟨hv, _⟩ | ⟨g, cap, cur, hv, _⟩
  · injection hv
  · subst e; cases hv
/-- A list of byte slices of the call's own, with their bytes. -/
structure AL (B : Nat) (w : World) (v : Value) (l : List Bk) : Prop where
  own : AOwn B w v l
  rows : ∀ x ∈ l, Own B w x.v x.b
section
variable {B : Nat} {W w w' : World} {g : Nat} {rv rv' v : Value} {S S' : Rp} {l : List Bk}
theorem AL.same (h : AL B w v l) (hk : ∀ i, i < w.heap.size → (∃ c T z, w.heap[i]? = some (.cells c T z) ∧ (T = 42 ∨ T = 5)) → w'.heap[i]? = w.heap[i]?) : AL B w' v l :=
  ⟨row_any h.own fun i hi => by
    obtain ⟨_, c, z, hb⟩ := h.own.blk hi
    exact hk i (lt_of_some hb) ⟨c, _, z, hb, .inl rfl⟩,
   fun x hx => row_any (h.rows x hx) fun i hi => by
    injection hi with hi
    subst hi
    obtain ⟨_, c, z, hb⟩ := own_blk (h.rows x hx)
    exact hk _ (lt_of_some hb) ⟨c, _, z, hb, .inr rfl⟩⟩
theorem AL.step (h : AL B w v l) (hb : Below w.heap.size w w') : AL B w' v l := h.same fun i hi _ => hb.block i hi
theorem AL.kp (h : AL B w v l) (hr : RA B W w g rv S) (k : Kp g rv rv' w w') : AL B w' v l := h.same fun i hi ⟨c, T, z, hb, hT⟩ => (k.block i hi (by
    rcases hT with rfl | rfl
    all_goals exact ne_of_types hb hr.head (by decide)) (fun e => by
    obtain ⟨_, c', z', hb'⟩ := hr.own.blk e
    rcases hT with rfl | rfl
    all_goals exact ne_of_types hb hb' (by decide) rfl)).1
theorem AL.grown_far {b : Nat} (h : AL B w v l) (hg : w.grownBy w' (some b)) (hb : ∃ c T z, w.heap[b]? = some (.cells c T z) ∧ T ≠ 42 ∧ T ≠ 5) : AL B w' v l := h.same fun i hi ⟨c, T, z, hc, hT⟩ => hg.block i hi (fun e => by
    injection e with e
    subst e
    obtain ⟨c', T', z', hb', h1, h2⟩ := hb
    have := ne_of_types hc hb'
    rcases hT with rfl | rfl
    · exact this (fun e => h1 e.symm) rfl
    · exact this (fun e => h2 e.symm) rfl)
theorem AL.at_ (h : AL B w v l) {A : Option Addr} {n c : Nat} (hv : v = .slice A n c) {k : Nat} (hk : k < l.length) : ∃ a, A = some a ∧ a.block < w.heap.size ∧ w.cell? (a.add k) = some l[k].v := by
  subst hv
  obtain ⟨A', n', c', hv, -, -, -, hr, -⟩ := h.own.form
  injection hv with e1
  subst e1
  obtain ⟨a, e, hb, hc⟩ := Rd.at_ hr (k := k) (by unfold bkvs; rw [List.length_map]; exact hk)
  exact ⟨a, e, hb, by rw [hc]; simp [bkvs]⟩
end
theorem fid_next {l : List Rk} {last : Nat} (h : has l (nxt last) = false) (hl : last ≤ 65534) (hn : l.length < 65534) : fid l last = nxt last := by
  have hr := nxt_rng last hl
  have hs := steps_is l (nxt last) hn
  unfold fid
  rcases Nat.eq_zero_or_pos (steps l (nxt last)) with e | e
  · rw [e, nth_zero hr.1 hr.2]
  · have := hs.2.2 0 e
    rw [nth_zero hr.1 hr.2, h] at this
    cases this
/-- A repository made of the bytes L. -/
structure MadeS (S : Rp) (L : List Bk) : Prop where
  cap : S.cap = 2000
  last : S.last = L.length
  resv : S.resv = 0
  rsvd : S.rsvd = false
  ids : S.recs.map (·.id) = (List.range L.length).map (· + 1)
  bs : S.recs.map (·.b) = L.map (·.b)
  one : ∀ x ∈ L, 1 ≤ x.b.length ∧ x.b.length ≤ 31
  few : L.length ≤ 8
theorem MadeS.len {S : Rp} {L : List Bk} (h : MadeS S L) : S.recs.length = L.length := by
  have := congrArg List.length h.bs
  simpa using this
theorem sum_le : ∀ (l : List Rk), (∀ r ∈ l, r.b.length ≤ 31) → sum l ≤ 31 * l.length
  | [], _ => by simp [sum]
  | r :: l, h => by
    have h1 := sum_le l fun x hx => h x (by simp [hx])
    have h2 := h r (by simp)
    rw [sum_cons, List.length_cons]
    omega
theorem MadeS.small {S : Rp} {L : List Bk} (h : MadeS S L) : sum S.recs ≤ 31 * S.recs.length := sum_le _ fun r hr => by
  have h1 : r.b ∈ L.map (·.b) := by rw [← h.bs]; exact List.mem_map.2 ⟨r, hr, rfl⟩
  obtain ⟨x, hx, he⟩ := List.mem_map.1 h1
  rw [← he]
  exact (h.one x hx).2
theorem MadeS.fid_is {S : Rp} {L : List Bk} (h : MadeS S L) : fid S.recs S.last = L.length + 1 := by
  have hf := h.few
  have hn : nxt S.last = L.length + 1 := by rw [h.last]; unfold nxt; rw [if_neg (by omega)]
  rw [fid_next (by
    rw [hn]
    rcases hq : has S.recs (L.length + 1) with _ | _
    · rfl
    · obtain ⟨r, hr, he⟩ := has_iff.1 hq
      have h1 : r.id ∈ (List.range L.length).map (· + 1) := by rw [← h.ids]; exact List.mem_map.2 ⟨r, hr, rfl⟩
      obtain ⟨x, hx, he2⟩ := List.mem_map.1 h1
      rw [List.mem_range] at hx
      omega) (by rw [h.last]; omega) (by rw [h.len]; omega), hn]
theorem MadeS.addE {S : Rp} {L : List Bk} (h : MadeS S L) (hl : L.length < 8) {n : Nat} (h1 : 1 ≤ n) (h2 : n ≤ 31) : S.addE n = 0 := by
  have hs := h.small
  have hlen := h.len
  have hc := h.cap
  unfold Rp.addE Rp.free
  rw [if_neg (by omega), if_neg (by omega), if_neg (by omega)]
theorem MadeS.add {S : Rp} {L : List Bk} (h : MadeS S L) (hl : L.length < 8) (x y : Nat) (b : Bk) (h1 : 1 ≤ b.b.length) (h2 : b.b.length ≤ 31) : MadeS (S.add x y b.b) (L ++ [b]) := by
  have hf := h.fid_is
  refine ⟨h.cap, ?_, h.resv, rfl, ?_, ?_, fun z hz => ?_, by simp; omega⟩
  · show fid S.recs S.last = _
    rw [hf]; simp
  · show (S.recs ++ [_]).map (fun r : Rk => r.id) = _
    rw [List.map_append, h.ids, List.length_append, List.length_singleton, List.range_succ, List.map_append]
    simp [hf]
  · show (S.recs ++ [_]).map (fun r : Rk => r.b) = _
    rw [List.map_append, h.bs, List.map_append]
    rfl
  · rcases List.mem_append.1 hz with hz | hz
    · exact h.one z hz
    · rw [List.mem_singleton.1 hz]; exact ⟨h1, h2⟩
theorem made_start : MadeS (Go.Proofs.Ytcnkiecdagjgmaa.R11.fresh 2000) [] := ⟨rfl, rfl, rfl, rfl, rfl, rfl, by simp, by simp⟩
end Go.Proofs.Ytcnkiecdagjgmaa.R11
