/- Walks: how a statement begins that throws the dice behind the conversion; bounds of values. -/
import Derived.Test.YtfnocgkhhbpiiaaAw4
namespace Go.Proofs.Ytfnocgkhhbpiiaa.Aw4
open Go.RowKit Go.Proofs.Ytfnocgkhhbpiiaa.Mem Go.Proofs.Ytfnocgkhhbpiiaa.Made Go.Proofs.Ytfnocgkhhbpiiaa.M3p Go.Proofs.Ytfnocgkhhbpiiaa.C4p Go.Proofs.Ytfnocgkhhbpiiaa.C4l Go.Proofs.Ytfnocgkhhbpiiaa.C4v Go.Proofs.Ytfnocgkhhbpiiaa.P4 Go.Proofs.Ytfnocgkhhbpiiaa.D5
set_option maxRecDepth 100000
set_option maxHeartbeats 1000000

/-- The dice's Conversion, with the points' own row. -/
theorem conv_go2 {w w1 : World} {g n c : Nat} {A : Option Addr} {l : List Int} (h : Dz w1 g A n c l) (hb : Below w.heap.size w w1) (hg : w.heap.size ≤ g) :
    Calls Try.prog 8 #[.pointer (some ⟨g, 0, none⟩)] w1 fun e w' => ∃ (f m b k1 k2 : Int) (s : Bool) (A' : Option Addr) (n' c' : Nat) (p : List Pt),
      e = .returned (.agg #[.int .i64 f, .bool s, .int .i64 m, .int .i64 b, .int .i64 k1, .int .i64 k2, .slice A' n' c']) ∧ vld ⟨f, s, m, b, k1, k2, p⟩ = true ∧ POwn w1.heap.size w' (.slice A' n' c') p ∧ Dz w' g A n c l ∧ Below w.heap.size w w' ∧ w1.grownBy w' (some g) := by
  have hlt := h.lt
  refine (conv_any h).mono ?_
  rintro e w' ⟨f, m, b, k1, k2, s, v, p, rfl, hv, ho, hd, hgr⟩
  obtain ⟨A', n', c', rfl, -⟩ := ho.sl
  exact ⟨f, m, b, k1, k2, s, A', n', c', p, rfl, hv, ho, hd, hb.trans (grown_lo hgr hg hlt), hgr⟩
theorem pown_psl {base : Nat} {w : World} {A : Option Addr} {n c : Nat} {p : List Pt} (h : POwn base w (.slice A n c) p) : PSl w A n c p := by
  obtain ⟨A', n', c', e, hs⟩ := h.sl
  injection e with e1 e2 e3
  subst e1 e2 e3
  exact hs
/-- A conversion's block F, seen from world wb on. -/
def Cg (wb w : World) (F : Nat) (v0 v1 v2 v3 v4 v5 v6 : Value) : Prop := w.heap[F]? = some (.cells #[v0, v1, v2, v3, v4, v5, v6] 24 (0, 0)) ∧ Below wb.heap.size wb w ∧ F < wb.heap.size
section
variable {wb w w' : World} {F : Nat} {v0 v1 v2 v3 v4 v5 v6 : Value}
theorem Cg.start (h : wb.heap[F]? = some (.cells #[v0, v1, v2, v3, v4, v5, v6] 24 (0, 0))) : Cg wb wb F v0 v1 v2 v3 v4 v5 v6 := ⟨h, Below.refl _ _, lt_of_some h⟩
theorem Cg.step (h : Cg wb w F v0 v1 v2 v3 v4 v5 v6) (hb : Below w.heap.size w w') : Cg wb w' F v0 v1 v2 v3 v4 v5 v6 := ⟨(hb.block F (Nat.lt_of_lt_of_le h.2.2 h.2.1.size)).trans h.1, h.2.1.trans (hb.mono h.2.1.size), h.2.2⟩
theorem Cg.cells (h : Cg wb w F v0 v1 v2 v3 v4 v5 v6) : w.cell? ⟨F, 0, none⟩ = some v0 ∧ w.cell? ⟨F, 1, none⟩ = some v1 ∧ w.cell? ⟨F, 2, none⟩ = some v2 ∧ w.cell? ⟨F, 3, none⟩ = some v3 ∧ w.cell? ⟨F, 4, none⟩ = some v4 ∧ w.cell? ⟨F, 5, none⟩ = some v5 ∧ w.cell? ⟨F, 6, none⟩ = some v6 :=
  ⟨(cell_of_row w F 0 _ _ _ h.1).trans rfl, (cell_of_row w F 1 _ _ _ h.1).trans rfl, (cell_of_row w F 2 _ _ _ h.1).trans rfl, (cell_of_row w F 3 _ _ _ h.1).trans rfl, (cell_of_row w F 4 _ _ _ h.1).trans rfl, (cell_of_row w F 5 _ _ _ h.1).trans rfl, (cell_of_row w F 6 _ _ _ h.1).trans rfl⟩
theorem Cg.all {w0 : World} (h : Cg wb w F v0 v1 v2 v3 v4 v5 v6) (hb : Below w0.heap.size w0 wb) : Below w0.heap.size w0 w := hb.trans (h.2.1.mono hb.size)
theorem Cg.sl (h : Cg wb w F v0 v1 v2 v3 v4 v5 v6) {A : Option Addr} {n c : Nat} {p : List Pt} (hs : PSl wb A n c p) : PSl w A n c p := hs.step h.2.1
end
end Go.Proofs.Ytfnocgkhhbpiiaa.Aw4
