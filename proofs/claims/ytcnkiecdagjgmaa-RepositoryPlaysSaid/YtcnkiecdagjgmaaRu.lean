/- Two repositories that are alike answer alike; each stays while the other turns. -/
import Derived.Test.YtcnkiecdagjgmaaRt
import Derived.Test.YtcnkiecdagjgmaaRm
namespace Go.Proofs.Ytcnkiecdagjgmaa.R11
open Go.RowKit Go.Proofs.Ytcnkiecdagjgmaa.Mem
set_option maxRecDepth 100000
set_option maxHeartbeats 1000000

/-- A record without the place where its bytes lie. -/
def er (r : Rk) : Rk := ⟨r.id, 0, 0, r.b⟩
theorem sum_er (l : List Rk) : sum (l.map er) = sum l := by unfold sum; rw [List.map_map]; rfl
theorem has_er (l : List Rk) (i : Nat) : has (l.map er) i = has l i := by unfold has; rw [List.any_map]; rfl
theorem len_er (l : List Rk) : (l.map er).length = l.length := List.length_map _
theorem find_er (l : List Rk) (i : Nat) : (l.map er).findIdx (fun r => decide (r.id = i)) = l.findIdx (fun r => decide (r.id = i)) := by rw [List.findIdx_map]; rfl
theorem steps_er (l : List Rk) (i : Nat) : steps (l.map er) i = steps l i := by unfold steps; rw [len_er]; simp only [has_er]
theorem fid_er (l : List Rk) (i : Nat) : fid (l.map er) i = fid l i := by unfold fid; rw [steps_er]
theorem plc_er (l : List Rk) (i : Nat) : plc (l.map er) i = plc l i := by unfold plc; rw [len_er, has_er, find_er]
theorem nid_er (l : List Rk) (k : Nat) : nid (l.map er) k = nid l k := by
  unfold nid
  rw [List.getElem?_map]
  rcases l[k + 1]? with _ | r <;> rfl
/-- Alike. -/
structure Like (S T : Rp) : Prop where
  cap : S.cap = T.cap
  last : S.last = T.last
  resv : S.resv = T.resv
  rsvd : S.rsvd = T.rsvd
  recs : S.recs.map er = T.recs.map er
section
variable {S T : Rp}
theorem Like.len (h : Like S T) : S.recs.length = T.recs.length := by rw [← len_er, h.recs, len_er]
theorem Like.sum (h : Like S T) : R11.sum S.recs = R11.sum T.recs := by rw [← sum_er, h.recs, sum_er]
theorem Like.has (h : Like S T) (i : Nat) : R11.has S.recs i = R11.has T.recs i := by rw [← has_er, h.recs, has_er]
theorem Like.free (h : Like S T) : S.free = T.free := by unfold Rp.free; rw [h.cap, h.sum]
theorem Like.valid (h : Like S T) (v : Nat) : S.valid v = T.valid v := by unfold Rp.valid; rw [h.rsvd, h.resv]
theorem Like.addE (h : Like S T) (n : Nat) : S.addE n = T.addE n := by unfold Rp.addE; rw [h.len, h.free]
theorem Like.fid (h : Like S T) : R11.fid S.recs S.last = R11.fid T.recs T.last := by rw [← fid_er, h.recs, fid_er, h.last]
theorem Like.plc (h : Like S T) (i : Nat) : R11.plc S.recs i = R11.plc T.recs i := by rw [← plc_er, h.recs, plc_er]
theorem Like.nid (h : Like S T) (k : Nat) : R11.nid S.recs k = R11.nid T.recs k := by rw [← nid_er, h.recs, nid_er]
theorem Like.at_ (h : Like S T) (k : Nat) : (S.recs[k]?).map (·.b) = (T.recs[k]?).map (·.b) := by
  have h1 : ((S.recs.map er)[k]?).map (·.b) = ((T.recs.map er)[k]?).map (·.b) := by rw [h.recs]
  rw [List.getElem?_map, List.getElem?_map, Option.map_map, Option.map_map] at h1
  exact h1
theorem Like.get (h : Like S T) (i : Nat) : S.get i = T.get i := by
  unfold Rp.get
  rw [h.plc i]
  rcases R11.plc T.recs i with _ | k
  · rfl
  · dsimp only
    have h1 := h.at_ k
    rw [h.nid k]
    generalize S.recs[k]? = a at *
    generalize T.recs[k]? = b at *
    rcases a with _ | r <;> rcases b with _ | q
    · rfl
    · cases h1
    · cases h1
    · have : r.b = q.b := by simpa using h1
      dsimp only
      rw [this]
theorem Like.read (h : Like S T) (v i : Nat) (o c : Int) : S.read v i o c = T.read v i o c := by unfold Rp.read; rw [h.valid v, h.get i]
theorem Like.delE (h : Like S T) (v i : Nat) : S.delE v i = T.delE v i := by unfold Rp.delE; rw [h.valid v, h.has i]
theorem Like.ids (h : Like S T) : S.recs.map (·.id) = T.recs.map (·.id) := by
  have h1 : (S.recs.map er).map (·.id) = (T.recs.map er).map (·.id) := by rw [h.recs]
  rw [List.map_map, List.map_map] at h1
  exact h1
theorem Like.resL (h : Like S T) : Like S.res T.res := ⟨h.cap, h.last, by unfold Rp.res; dsimp only; rw [h.resv], rfl, h.recs⟩
theorem Like.addL (h : Like S T) (x y x' y' : Nat) (b : List UInt8) : Like (S.add x y b) (T.add x' y' b) := by
  refine ⟨h.cap, ?_, h.resv, rfl, ?_⟩
  · show R11.fid S.recs S.last = R11.fid T.recs T.last
    exact h.fid
  · show (S.recs ++ [_]).map er = (T.recs ++ [_]).map er
    rw [List.map_append, List.map_append, h.recs]
    show _ ++ [er _] = _ ++ [er _]
    unfold er
    dsimp only
    rw [h.fid]
theorem Like.goneL (h : Like S T) (k : Nat) : Like (S.gone k) (T.gone k) := ⟨h.cap, h.last, h.resv, rfl, by
  show (S.recs.eraseIdx k).map er = (T.recs.eraseIdx k).map er
  rw [List.eraseIdx_eq_take_drop_succ, List.eraseIdx_eq_take_drop_succ, List.map_append, List.map_append, List.map_take, List.map_take, List.map_drop, List.map_drop, h.recs]⟩
theorem Like.clrL (h : Like S T) : Like S.clr T.clr := ⟨h.cap, h.last, h.resv, rfl, rfl⟩
theorem Like.findE (h : Like S T) (i : Nat) : S.recs.findIdx (fun r => decide (r.id = i)) = T.recs.findIdx (fun r => decide (r.id = i)) := by rw [← find_er, h.recs, find_er]
theorem Like.refl (S : Rp) : Like S S := ⟨rfl, rfl, rfl, rfl, rfl⟩
end
/-! Each stays while the other turns. -/
section
variable {B : Nat} {W w w' : World} {g h : Nat} {rv rv' qv qv' : Value} {S T : Rp}
theorem ref_kp (hr : R12.RA B W w h qv T) (hp : RA B W w g rv S) (k : Kp g rv rv' w w') : R12.RA B W w' h qv T := by
  refine hr.same (k.below hp) fun i hi hc => (k.block i hi ?_ ?_).1
  · rcases hc with hc | hc | ⟨q, hq, hc⟩
    · subst hc; exact ne_of_types hr.head hp.head (by decide)
    · obtain ⟨_, c, z, hk⟩ := hr.own.blk hc
      exact ne_of_types hk hp.head (by decide)
    · obtain ⟨_, c, z, hk⟩ := own_blk (hr.rows q hq)
      rw [hc] at hk
      exact ne_of_types hk hp.head (by decide)
  · intro e
    obtain ⟨_, c', z', hk'⟩ := hp.own.blk e
    rcases hc with hc | hc | ⟨q, hq, hc⟩
    · subst hc; exact ne_of_types hr.head hk' (by decide) rfl
    · obtain ⟨_, c, z, hk⟩ := hr.own.blk hc
      exact ne_of_types hk hk' (by decide) rfl
    · obtain ⟨_, c, z, hk⟩ := own_blk (hr.rows q hq)
      rw [hc] at hk
      exact ne_of_types hk hk' (by decide) rfl
theorem prog_kp (hr : R12.RA B W w h qv T) (hp : RA B W w g rv S) (k : R12.Kp h qv qv' w w') : RA B W w' g rv S := by
  refine hp.same (k.below hr) fun i hi hc => (k.block i hi ?_ ?_).1
  · rcases hc with hc | hc | ⟨q, hq, hc⟩
    · subst hc; exact ne_of_types hp.head hr.head (by decide)
    · obtain ⟨_, c, z, hk⟩ := hp.own.blk hc
      exact ne_of_types hk hr.head (by decide)
    · obtain ⟨_, c, z, hk⟩ := own_blk (hp.rows q hq)
      rw [hc] at hk
      exact ne_of_types hk hr.head (by decide)
  · intro e
    obtain ⟨_, c', z', hk'⟩ := hr.own.blk e
    rcases hc with hc | hc | ⟨q, hq, hc⟩
    · subst hc; exact ne_of_types hp.head hk' (by decide) rfl
    · obtain ⟨_, c, z, hk⟩ := hp.own.blk hc
      exact ne_of_types hk hk' (by decide) rfl
    · obtain ⟨_, c, z, hk⟩ := own_blk (hp.rows q hq)
      rw [hc] at hk
      exact ne_of_types hk hk' (by decide) rfl
end
end Go.Proofs.Ytcnkiecdagjgmaa.R11
