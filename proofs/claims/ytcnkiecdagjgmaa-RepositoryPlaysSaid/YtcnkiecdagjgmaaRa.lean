/- A repository's records, without a program: free bytes, IDs, what each call answers. -/
import Derived.Test.YtcnkiecdagjgmaaMem
namespace Go.Proofs.Ytcnkiecdagjgmaa.R11
set_option maxRecDepth 100000

/-- A record: its ID, where its bytes lie, its bytes. -/
structure Rk where
  id : Nat
  blk : Nat
  cap : Nat
  b : List UInt8
def sum (l : List Rk) : Nat := (l.map (·.b.length)).sum
theorem sum_nil : sum [] = 0 := rfl
theorem sum_app (a b : List Rk) : sum (a ++ b) = sum a + sum b := by unfold sum; rw [List.map_append, List.sum_append]
theorem sum_cons (r : Rk) (l : List Rk) : sum (r :: l) = r.b.length + sum l := rfl
theorem sum_one (r : Rk) : sum [r] = r.b.length := rfl
def has (l : List Rk) (i : Nat) : Bool := l.any fun r => decide (r.id = i)
theorem has_iff {l : List Rk} {i : Nat} : has l i = true ↔ ∃ r ∈ l, r.id = i := by simp [has]
/-- The ID behind. -/
def nxt (i : Nat) : Nat := if i = 65534 then 1 else i + 1
def nth (i j : Nat) : Nat := (i - 1 + j) % 65534 + 1
theorem nth_zero {i : Nat} (h1 : 1 ≤ i) (h2 : i ≤ 65534) : nth i 0 = i := by unfold nth; omega
theorem nxt_nth (i j : Nat) : nxt (nth i j) = nth i (j + 1) := by
  unfold nxt nth
  split <;> omega
theorem nth_rng (i j : Nat) : 1 ≤ nth i j ∧ nth i j ≤ 65534 := by unfold nth; omega
theorem nxt_rng (i : Nat) (h : i ≤ 65534) : 1 ≤ nxt i ∧ nxt i ≤ 65534 := by unfold nxt; split <;> omega
theorem sub_len : ∀ (a b : List Nat), a.Nodup → (∀ x ∈ a, x ∈ b) → a.length ≤ b.length
  | [], _, _, _ => Nat.zero_le _
  | x :: a, b, hn, hs => by
    have hx := hs x (by simp)
    have h1 := sub_len a (b.erase x) (List.nodup_cons.1 hn).2 fun y hy => by
      have hne : y ≠ x := fun e => (List.nodup_cons.1 hn).1 (e ▸ hy)
      exact (List.mem_erase_of_ne hne).2 (hs y (by simp [hy]))
    rw [List.length_erase_of_mem hx] at h1
    have : 0 < b.length := List.length_pos_of_mem hx
    simp only [List.length_cons]
    omega
/-- How many IDs, from i on, records have without a gap. -/
def steps (l : List Rk) (i : Nat) : Nat := ((List.range (l.length + 1)).find? fun j => !has l (nth i j)).getD 0
theorem steps_is (l : List Rk) (i : Nat) (hl : l.length < 65534) : steps l i ≤ l.length ∧ has l (nth i (steps l i)) = false ∧ ∀ j, j < steps l i → has l (nth i j) = true := by
  rcases h : (List.range (l.length + 1)).find? fun j => !has l (nth i j) with _ | k
  · exfalso
    rw [List.find?_eq_none] at h
    have h1 := sub_len ((List.range (l.length + 1)).map (nth i)) (l.map (·.id)) (by
      rw [List.nodup_iff_pairwise_ne, List.pairwise_map]
      refine List.Pairwise.imp_of_mem ?_ (List.pairwise_lt_range (n := l.length + 1))
      intro a b ha hb hab
      rw [List.mem_range] at ha hb
      unfold nth
      omega) (fun x hx => by
      obtain ⟨j, hj, rfl⟩ := List.mem_map.1 hx
      have := h j hj
      simp only [Bool.not_eq_true', Bool.not_eq_false] at this
      obtain ⟨r, hr, he⟩ := has_iff.1 this
      exact List.mem_map.2 ⟨r, hr, he⟩)
    simp only [List.length_map, List.length_range] at h1
    omega
  · have e : steps l i = k := by unfold steps; rw [h]; rfl
    rw [List.find?_range_eq_some] at h
    obtain ⟨h1, h2, h3⟩ := h
    rw [List.mem_range] at h2
    rw [e]
    exact ⟨by omega, by simpa using h1, fun j hj => by simpa using h3 j hj⟩
/-- The ID that the next record gets. -/
def fid (l : List Rk) (last : Nat) : Nat := nth (nxt last) (steps l (nxt last))
structure Rp where
  cap : Nat
  recs : List Rk
  last : Nat
  resv : Nat
  rsvd : Bool
structure Rp.Ok (S : Rp) : Prop where
  cap : S.cap ≤ 10240
  len : S.recs.length ≤ 64
  room : sum S.recs ≤ S.cap
  last : S.last ≤ 65534
  resv : S.resv ≤ 65535
  rng : ∀ r ∈ S.recs, 1 ≤ r.id ∧ r.id ≤ 65534
  one : ∀ r ∈ S.recs, 1 ≤ r.b.length ∧ r.b.length ≤ 160
  dis : (S.recs.map (·.id)).Nodup
def fresh (cap : Nat) : Rp := ⟨cap, [], 0, 0, false⟩
theorem fresh_ok {cap : Nat} (h : cap ≤ 10240) : (fresh cap).Ok := ⟨h, by simp [fresh], by simp [fresh, sum], by simp [fresh], by simp [fresh], by simp [fresh], by simp [fresh], by simp [fresh]⟩
def Rp.free (S : Rp) : Nat := S.cap - sum S.recs
def Rp.valid (S : Rp) (v : Nat) : Bool := S.rsvd && decide (v = S.resv)
/-- What Reserve leaves. -/
def Rp.res (S : Rp) : Rp := { S with resv := if S.resv = 65535 then 1 else S.resv + 1, rsvd := true }
theorem Rp.Ok.res {S : Rp} (h : S.Ok) : S.res.Ok := ⟨h.cap, h.len, h.room, h.last, by have := h.resv; unfold Rp.res; dsimp only; split <;> omega, h.rng, h.one, h.dis⟩
/-- What Add answers: the error. -/
def Rp.addE (S : Rp) (n : Nat) : Nat := if n = 0 ∨ 160 < n then 1 else if 64 ≤ S.recs.length then 3 else if S.free < n then 9 else 0
def Rp.add (S : Rp) (blk cap : Nat) (b : List UInt8) : Rp := { S with recs := S.recs ++ [⟨fid S.recs S.last, blk, cap, b⟩], last := fid S.recs S.last, rsvd := false }
theorem addE_zero {S : Rp} {n : Nat} (h : S.addE n = 0) : 1 ≤ n ∧ n ≤ 160 ∧ S.recs.length < 64 ∧ n ≤ S.free := by
  unfold Rp.addE at h
  split at h
  · cases h
  split at h
  · cases h
  split at h
  · cases h
  omega
theorem fid_rng (l : List Rk) (last : Nat) : 1 ≤ fid l last ∧ fid l last ≤ 65534 := nth_rng _ _
theorem fid_new (l : List Rk) (last : Nat) (hl : l.length < 65534) : has l (fid l last) = false := (steps_is l _ hl).2.1
theorem Rp.Ok.add {S : Rp} (h : S.Ok) (blk cap : Nat) (b : List UInt8) (he : S.addE b.length = 0) : (S.add blk cap b).Ok := by
  obtain ⟨h1, h2, h3, h4⟩ := addE_zero he
  have hf := fid_rng S.recs S.last
  have hn := fid_new S.recs S.last (by omega)
  refine ⟨h.cap, by simp [Rp.add]; omega, ?_, hf.2, h.resv, fun r hr => ?_, fun r hr => ?_, ?_⟩
  · show sum (S.recs ++ [_]) ≤ S.cap
    rw [sum_app, sum_one]
    have := h.room
    unfold Rp.free at h4
    dsimp only
    omega
  · rcases List.mem_append.1 hr with hr | hr
    · exact h.rng r hr
    · rw [List.mem_singleton.1 hr]; exact hf
  · rcases List.mem_append.1 hr with hr | hr
    · exact h.one r hr
    · rw [List.mem_singleton.1 hr]; exact ⟨h1, h2⟩
  · show ((S.recs ++ [_]).map (fun r : Rk => r.id)).Nodup
    rw [List.map_append, List.nodup_append]
    refine ⟨h.dis, by simp, fun x hx y hy e => ?_⟩
    simp only [List.map_cons, List.map_nil, List.mem_singleton] at hy
    obtain ⟨r, hr, he⟩ := List.mem_map.1 hx
    have : has S.recs (fid S.recs S.last) = true := has_iff.2 ⟨r, hr, by rw [he, e, hy]⟩
    rw [hn] at this
    cases this
def Rp.gone (S : Rp) (i : Nat) : Rp := { S with recs := S.recs.eraseIdx i, rsvd := false }
theorem Rp.Ok.gone {S : Rp} (h : S.Ok) (i : Nat) : (S.gone i).Ok := by
  have hs : (S.recs.eraseIdx i).Sublist S.recs := List.eraseIdx_sublist _ _
  refine ⟨h.cap, Nat.le_trans hs.length_le h.len, ?_, h.last, h.resv, fun r hr => h.rng r (hs.subset hr), fun r hr => h.one r (hs.subset hr), (hs.map (fun r : Rk => r.id)).nodup h.dis⟩
  refine Nat.le_trans ?_ h.room
  show sum (S.recs.eraseIdx i) ≤ sum S.recs
  rcases Nat.lt_or_ge i S.recs.length with hlt | hge
  · have e : S.recs = S.recs.take i ++ (S.recs[i] :: S.recs.drop (i + 1)) := by rw [List.getElem_cons_drop, List.take_append_drop]
    rw [List.eraseIdx_eq_take_drop_succ, sum_app]
    conv => rhs; rw [e]
    rw [sum_app, sum_cons]
    omega
  · rw [List.eraseIdx_of_length_le hge]; exact Nat.le_refl _
def Rp.clr (S : Rp) : Rp := { S with recs := [], rsvd := false }
theorem Rp.Ok.clr {S : Rp} (h : S.Ok) : S.clr.Ok := ⟨h.cap, by simp [Rp.clr], by simp [Rp.clr, sum], h.last, h.resv, by simp [Rp.clr], by simp [Rp.clr], by simp [Rp.clr]⟩
/-- The index of the record with an ID, or -1. -/
def ixOf (i : Nat) (l : List Rk) : Int := if has l i then ((l.findIdx (fun r => decide (r.id = i)) : Nat) : Int) else -1
/-- The place of the record that is asked for: the first one for 0. -/
def plc (l : List Rk) (i : Nat) : Option Nat := if i = 0 then (if l.length = 0 then none else some 0) else if has l i then some (l.findIdx fun r => decide (r.id = i)) else none
theorem plc_lt {l : List Rk} {i k : Nat} (h : plc l i = some k) : k < l.length := by
  unfold plc at h
  split at h
  · split at h
    · cases h
    · injection h with h; omega
  · split at h
    · rename_i hh
      injection h with h
      rw [← h]
      exact List.findIdx_lt_length_of_exists (List.any_eq_true.1 hh)
    · cases h
def nid (l : List Rk) (k : Nat) : Nat := match l[k + 1]? with | some r => r.id | none => 0
end Go.Proofs.Ytcnkiecdagjgmaa.R11
