/- Walks: a repository is made of the dice. -/
import Derived.Test.YtcnkiecdagjgmaaRk
namespace Go.Proofs.Ytcnkiecdagjgmaa.R11
open Go.RowKit Go.Proofs.Ytcnkiecdagjgmaa.Mem Go.Proofs.Ytcnkiecdagjgmaa.Made
set_option maxRecDepth 100000
set_option maxHeartbeats 1000000

section
variable {B : Nat} {W w w' : World} {g gd n c : Nat} {rv rv' v : Value} {S S' : Rp} {L : List Bk} {A : Option Addr} {l : List Int}
/-- What a call on the repository leaves of the dice. -/
theorem dz_kp (h : Dz w gd A n c l) (hr : IRow B W A l) (low : Below B W w') (hB : B ≤ gd) (hra : RA B W w g rv S) (k : Kp g rv rv' w w') : Dz w' gd A n c l := by
  obtain ⟨a, ha, hd⟩ := h.at_
  refine ⟨h.len, h.bnd, h.few, (Rd.below hr low).more hB, a, ha, (k.block gd h.lt ?_ ?_).1.trans hd⟩
  · exact ne_of_types hd hra.head (by decide)
  · intro e
    obtain ⟨_, c', z', hk⟩ := hra.own.blk e
    exact ne_of_types hd hk (by decide) rfl
theorem dz_ty (h : Dz w gd A n c l) : ∃ c T z, w.heap[gd]? = some (.cells c T z) ∧ T ≠ 42 ∧ T ≠ 5 := by
  obtain ⟨a, ha, hd⟩ := h.at_
  exact ⟨_, _, _, hd, by decide, by decide⟩
theorem dz_far (h : Dz w gd A n c l) (hra : RA B W w g rv S) : Far g rv S gd := by
  obtain ⟨a, ha, hd⟩ := h.at_
  refine ⟨ne_of_types hd hra.head (by decide), fun e => ?_, fun r hr => ?_⟩
  · obtain ⟨_, c', z', hk⟩ := hra.own.blk e
    exact ne_of_types hd hk (by decide) rfl
  · obtain ⟨_, c', z', hk⟩ := own_blk (hra.rows r hr)
    exact ne_of_types hk hd (by decide)
theorem own_kp {base : Nat} {b : List UInt8} (h : Own base w v b) (hra : RA B W w g rv S) (k : Kp g rv rv' w w') : Own base w' v b := row_any h fun i hi => by
  rcases h.2 with ⟨rfl, _⟩ | ⟨g', cap, cur, rfl, hg, hh, _⟩
  · cases hi
  · injection hi with hi
    subst hi
    exact (k.block _ (lt_of_some hh) (ne_of_types hh hra.head (by decide)) (fun e => by
      obtain ⟨_, c', z', hk⟩ := hra.own.blk e
      exact ne_of_types hh hk (by decide) rfl)).1
theorem own_step {base : Nat} {b : List UInt8} (h : Own base w v b) (hb : Below w.heap.size w w') : Own base w' v b := row_any h fun i hi => hb.block i (World.ownsRow.lt h _ hi).2
/-- A row of byte slices grows: the repository, the dice stay. -/
theorem RA.grown_al (h : RA B W w g rv S) (ha : AOwn B w v L) (hg : w.grownBy w' v.ownBlock) : RA B W w' g rv S :=
  h.same ⟨hg.os, hg.tape, hg.output, hg.size, fun i hi => hg.block i (by have := h.base; omega) (fun e => by have := (ha.blk e.symm).1; omega)⟩ fun i hi hc => hg.block i hi (fun e => by
    obtain ⟨_, c, z, hk⟩ := ha.blk e.symm
    rcases hc with hc | hc | ⟨r, hr, hc⟩
    · subst hc; exact ne_of_types hk h.head (by decide) rfl
    · obtain ⟨_, c', z', hk'⟩ := h.own.blk hc
      exact ne_of_types hk hk' (by decide) rfl
    · obtain ⟨_, c', z', hk'⟩ := own_blk (h.rows r hr)
      rw [hc] at hk'
      exact ne_of_types hk hk' (by decide) rfl)
theorem dz_al (h : Dz w gd A n c l) (hr : IRow B W A l) (low : Below B W w') (hB : B ≤ gd) (ha : AOwn B w v L) (hg : w.grownBy w' v.ownBlock) : Dz w' gd A n c l := by
  obtain ⟨a, ha', hd⟩ := h.at_
  refine ⟨h.len, h.bnd, h.few, (Rd.below hr low).more hB, a, ha', (hg.block gd h.lt ?_).trans hd⟩
  intro e
  obtain ⟨_, c', z', hk⟩ := ha.blk e.symm
  exact ne_of_types hd hk (by decide) rfl
theorem own_al {base : Nat} {b : List UInt8} (h : Own base w v b) {v2 : Value} (ha : AOwn B w v2 L) (hg : w.grownBy w' v2.ownBlock) : Own base w' v b := row_any h fun i hi => by
  rcases h.2 with ⟨rfl, _⟩ | ⟨g', cap, cur, rfl, _, hh, _⟩
  · cases hi
  · injection hi with hi
    subst hi
    exact hg.block _ (lt_of_some hh) (fun e => by
      obtain ⟨_, c', z', hk⟩ := ha.blk e.symm
      exact ne_of_types hh hk (by decide) rfl)
theorem AOwn.alloc (h : AOwn B w v L) (o : Obj) : AOwn B (w.alloc o) v L := World.ownsRow.alloc h o
end
/-- What 'made' leaves. -/
structure MadeR (W w : World) (g : Nat) (rv v : Value) (S : Rp) (L : List Bk) : Prop where
  ra : RA W.heap.size W w g rv S
  al : AL W.heap.size w v L
  ok : S.Ok
  is : MadeS S L
  pos : 1 ≤ L.length
end Go.Proofs.Ytcnkiecdagjgmaa.R11
