/- Walks: the examples of the chapter, which each statement asks beside its own; how a statement begins. -/
import Derived.Test.YtfnocgkhhbpiiaaP4h
import Derived.Test.YtfnocgkhhbpiiaaD5a
namespace Go.Proofs.Ytfnocgkhhbpiiaa.Aw4
open Go.RowKit Go.Proofs.Ytfnocgkhhbpiiaa.Mem Go.Proofs.Ytfnocgkhhbpiiaa.Made Go.Proofs.Ytfnocgkhhbpiiaa.M3p Go.Proofs.Ytfnocgkhhbpiiaa.C4p Go.Proofs.Ytfnocgkhhbpiiaa.C4l Go.Proofs.Ytfnocgkhhbpiiaa.C4v Go.Proofs.Ytfnocgkhhbpiiaa.P4 Go.Proofs.Ytfnocgkhhbpiiaa.D5
set_option maxRecDepth 100000
set_option maxHeartbeats 1000000

theorem irow_light {A : Option Addr} {n c : Nat} {l : List Int} {w : World} (hn : n = l.length) (hr : IRow w.heap.size w A l) (hw : ∀ x ∈ l, -9223372036854775808 ≤ x ∧ x ≤ 9223372036854775807) (h6 : n ≤ 600) :
    Dz (w.alloc (.cells #[.slice A n c, .int .i64 0] 49)) w.heap.size A n c l ∧ Below w.heap.size w (w.alloc (.cells #[.slice A n c, .int .i64 0] 49)) :=
  ⟨Dz.start A n c l w hr hn hw (by omega), (Below.refl _ _).alloc (Nat.le_refl _) _⟩
theorem light_any (f m b k1 k2 : Int) (s : Bool) (A : Option Addr) (n cp : Nat) (w : World) (hm : n ≤ maxLen) :
    Calls Try.prog 4 #[.agg #[.int .i64 f, .bool s, .int .i64 m, .int .i64 b, .int .i64 k1, .int .i64 k2, .slice A n cp]] w fun e w' => e = .returned (.bool (decide (n ≤ 30))) ∧ Below w.heap.size w w' := by
  unfold maxLen at hm
  go_enter Try.func4, Try.ntmps4
  go_wp2_with fail
  go_ret
  exact ⟨ret_bool (by simp; omega), (Below.refl _ _).alloc (Nat.le_refl _) _⟩
theorem ex1 : value ⟨1, false, 5, -10, 1, -2, []⟩ 100 = (4000000, 0) := by decide +kernel
theorem ex2 : value ⟨5, false, 0, 0, 0, 0, [(0, 0), (10, 1000000)]⟩ 3 = (300000, 0) := by decide +kernel
theorem awake_any (w : World) :
    Calls Try.prog 6 #[] w fun e w' => e = .returned (.bool true) ∧ Below w.heap.size w w' := by
  have h1 := Lib.hid (by have := value_p 1 5 (-10) 1 (-2) false none 0 0 [] 100 w PSl.none; rw [ex1] at this; exact this)
  have hN := Lib.hid (fun u => by have := number_p true 255 u; rw [show num true 255 = -1 by rfl] at this; exact this)
  have h2 := Lib.hid (fun u (hu : PSl u (some ⟨u.heap.size - 1, 0, none⟩) 2 2 [(0, 0), (10, 1000000)]) => by have := value_p 5 0 0 0 0 false _ 2 2 _ 3 u hu; rw [ex2] at this; exact this)
  go_enter Try.func6, Try.ntmps6
  go_wp2_with fail
  refine (h1.out).mono ?_
  rintro e w1 ⟨rfl, hb1⟩
  go_wp2_with fail
  have hsl : PSl (w1.alloc (.cells #[.int .u8 0, .int .i64 0, .int .u8 10, .int .i64 1000000] 46)) (some ⟨(w1.alloc (.cells #[.int .u8 0, .int .i64 0, .int .u8 10, .int .i64 1000000] 46)).heap.size - 1, 0, none⟩) 2 2 [(0, 0), (10, 1000000)] := by
    rw [World.size_alloc, Nat.add_sub_cancel]
    refine ⟨rfl, ?_, Nat.le_refl _, by unfold maxLen; omega, fun hh => by cases hh⟩
    rw [World.size_alloc]
    exact Rd.new w1 #[.int .u8 0, .int .i64 0, .int .u8 10, .int .i64 1000000] 46
  have h3 := h2.out _ hsl
  rw [World.size_alloc, Nat.add_sub_cancel] at h3
  refine h3.mono ?_
  rintro e w2 ⟨rfl, hb2⟩
  clear hsl h3
  go_wp2_with (go_at_call 17; refine (hN.out _).mono ?_; rintro e w3 ⟨rfl, rfl⟩)
  go_ret
  exact ⟨rfl, hb1.trans (((Below.refl _ _).alloc (Nat.le_refl _) _ |>.trans (hb2.mono (by simp))).mono hb1.size)⟩
/-- The dice's Conversion, as a statement uses it. -/
theorem conv_go {w w1 : World} {g n c : Nat} {A : Option Addr} {l : List Int} (h : Dz w1 g A n c l) (hb : Below w.heap.size w w1) (hg : w.heap.size ≤ g) :
    Calls Try.prog 8 #[.pointer (some ⟨g, 0, none⟩)] w1 fun e w' => ∃ (f m b k1 k2 : Int) (s : Bool) (A' : Option Addr) (n' c' : Nat) (p : List Pt),
      e = .returned (.agg #[.int .i64 f, .bool s, .int .i64 m, .int .i64 b, .int .i64 k1, .int .i64 k2, .slice A' n' c']) ∧ vld ⟨f, s, m, b, k1, k2, p⟩ = true ∧ PSl w' A' n' c' p ∧ Dz w' g A n c l ∧ Below w.heap.size w w' ∧ w1.heap.size ≤ w'.heap.size := by
  have hlt := h.lt
  refine (conv_any h).mono ?_
  rintro e w' ⟨f, m, b, k1, k2, s, v, p, rfl, hv, ho, hd, hgr⟩
  obtain ⟨A', n', c', rfl, hsl⟩ := ho.sl
  exact ⟨f, m, b, k1, k2, s, A', n', c', p, rfl, hv, hsl, hd, hb.trans (grown_lo hgr hg hlt), hgr.size⟩
/-- The conversion's own block, laid in world wc. -/
def Cb (wc w : World) (v0 v1 v2 v3 v4 v5 v6 : Value) : Prop := w.heap[wc.heap.size]? = some (.cells #[v0, v1, v2, v3, v4, v5, v6] 24 (0, 0)) ∧ Below wc.heap.size wc w
section
variable {wc w w' : World} {v0 v1 v2 v3 v4 v5 v6 : Value}
theorem Cb.new (wc : World) (v0 v1 v2 v3 v4 v5 v6 : Value) : Cb wc (wc.alloc (.cells #[v0, v1, v2, v3, v4, v5, v6] 24)) v0 v1 v2 v3 v4 v5 v6 := ⟨heap_alloc_new wc _, (Below.refl _ _).alloc (Nat.le_refl _) _⟩
theorem Cb.lt (h : Cb wc w v0 v1 v2 v3 v4 v5 v6) : wc.heap.size < w.heap.size := lt_of_some h.1
theorem Cb.step (h : Cb wc w v0 v1 v2 v3 v4 v5 v6) (hb : Below w.heap.size w w') : Cb wc w' v0 v1 v2 v3 v4 v5 v6 := ⟨(hb.block _ h.lt).trans h.1, h.2.trans (hb.mono h.2.size)⟩
theorem Cb.set0 (h : Cb wc w v0 v1 v2 v3 v4 v5 v6) (v : Value) : Cb wc (w.setCell ⟨wc.heap.size, 0, none⟩ v) v v1 v2 v3 v4 v5 v6 := ⟨heap_setCell_same w _ 0 _ _ v h.1, h.2.setCell (p := ⟨wc.heap.size, 0, none⟩) (Nat.le_refl _) v⟩
theorem Cb.fz (h : Cb wc w v0 v1 v2 v3 v4 v5 v6) (i : Nat) : w.frozen? ⟨wc.heap.size, i, none⟩ = false := frozen_of_row w _ i _ _ h.1
theorem Cb.cells (h : Cb wc w v0 v1 v2 v3 v4 v5 v6) : w.cell? ⟨wc.heap.size, 0, none⟩ = some v0 ∧ w.cell? ⟨wc.heap.size, 1, none⟩ = some v1 ∧ w.cell? ⟨wc.heap.size, 2, none⟩ = some v2 ∧ w.cell? ⟨wc.heap.size, 3, none⟩ = some v3 ∧ w.cell? ⟨wc.heap.size, 4, none⟩ = some v4 ∧ w.cell? ⟨wc.heap.size, 5, none⟩ = some v5 ∧ w.cell? ⟨wc.heap.size, 6, none⟩ = some v6 :=
  ⟨(cell_of_row w _ 0 _ _ _ h.1).trans rfl, (cell_of_row w _ 1 _ _ _ h.1).trans rfl, (cell_of_row w _ 2 _ _ _ h.1).trans rfl, (cell_of_row w _ 3 _ _ _ h.1).trans rfl, (cell_of_row w _ 4 _ _ _ h.1).trans rfl, (cell_of_row w _ 5 _ _ _ h.1).trans rfl, (cell_of_row w _ 6 _ _ _ h.1).trans rfl⟩
theorem Cb.all {w0 : World} (h : Cb wc w v0 v1 v2 v3 v4 v5 v6) (hb : Below w0.heap.size w0 wc) : Below w0.heap.size w0 w := hb.trans (h.2.mono hb.size)
theorem Cb.sl (h : Cb wc w v0 v1 v2 v3 v4 v5 v6) {A : Option Addr} {n c : Nat} {p : List Pt} (hs : PSl wc A n c p) : PSl w A n c p := hs.step h.2
end
end Go.Proofs.Ytfnocgkhhbpiiaa.Aw4
