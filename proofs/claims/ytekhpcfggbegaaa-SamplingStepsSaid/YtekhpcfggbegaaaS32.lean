/- Walks: filters in memory; which ones are those of a sensor, program and reference. -/
import Derived.Test.YtekhpcfggbegaaaS10
import Derived.Test.YtekhpcfggbegaaaS22
import Derived.Test.YtekhpcfggbegaaaS31
namespace Go.Proofs.Ytekhpcfggbegaaa.Jd
open Go.RowKit Go.Proofs.Ytekhpcfggbegaaa.Mem Go.Proofs.Ytekhpcfggbegaaa.F2p Go.Proofs.Ytekhpcfggbegaaa.C4l Go.Proofs.Ytekhpcfggbegaaa.Ta Go.Proofs.Ytekhpcfggbegaaa.Tb Go.Proofs.Ytekhpcfggbegaaa.Ja
set_option maxRecDepth 100000
set_option maxHeartbeats 1000000

/-- A filter in a block. -/
def FBx (w : World) (r : Nat) (V : Value) (m : Int) : Prop := w.heap[r]? = some (.cells #[V, .int .i64 m] 35 (0, 0))
section
variable {w w' : World} {r : Nat} {V : Value} {m : Int}
theorem FBx.lt (h : FBx w r V m) : r < w.heap.size := by
  rcases Nat.lt_or_ge r w.heap.size with h1 | h1
  · exact h1
  · unfold FBx at h; rw [Array.getElem?_eq_none h1] at h; cases h
theorem FBx.below (h : FBx w r V m) (hb : Below w.heap.size w w') : FBx w' r V m := (hb.block r h.lt).trans h
theorem FBx.kept (h : FBx w r V m) {b : Option Nat} (hg : w.grownBy w' b) (hne : some r ≠ b) : FBx w' r V m := (hg.block r h.lt hne).trans h
theorem FBx.alloc (h : FBx w r V m) (o : Obj) : FBx (w.alloc o) r V m := (heap_alloc_old w o h.lt).trans h
theorem FBx.drew (h : FBx w r V m) : FBx w.drew r V m := h
theorem FBx.c0 (h : FBx w r V m) : w.cell? ⟨r, 0, none⟩ = some V := cell_of_row w r 0 _ _ _ h
theorem FBx.c1 (h : FBx w r V m) : w.cell? ⟨r, 1, none⟩ = some (.int .i64 m) := cell_of_row w r 1 _ _ _ h
theorem FBx.fz (h : FBx w r V m) (i : Nat) : w.frozen? ⟨r, i, none⟩ = false := frozen_of_row w r i _ _ h
end
theorem c27 {w : World} {r : Nat} {s : Sn} {V : Value} (h : Bx w r s V) : w.cell? ⟨r, 27, none⟩ = some (.int .i64 s.sm) := h.c 27
theorem c8 {w : World} {r : Nat} {s : Sn} {V : Value} (h : Bx w r s V) : w.cell? ⟨r, 8, none⟩ = some (.bool s.c.s) := h.c 8
abbrev SBox (s : Sn) (V : Value) : Obj := .cells (cells s V) 32
abbrev FBox (V : Value) (m : Int) : Obj := .cells #[V, .int .i64 m] 35
theorem two_boxes (s : Sn) (V U : Value) (m : Int) (w : World) : Below w.heap.size w ((w.alloc (SBox s V)).alloc (FBox U m)) ∧ Bx ((w.alloc (SBox s V)).alloc (FBox U m)) w.heap.size s V ∧ FBx ((w.alloc (SBox s V)).alloc (FBox U m)) (w.heap.size + 1) U m := by
  have h1 : Below w.heap.size w (w.alloc (SBox s V)) := (Below.refl _ _).alloc (Nat.le_refl _) _
  have h2 : Bx (w.alloc (SBox s V)) w.heap.size s V := heap_alloc_new w _
  refine ⟨h1.alloc h1.size _, h2.alloc _, ?_⟩
  have := heap_alloc_new (w.alloc (SBox s V)) (FBox U m)
  rw [World.size_alloc] at this
  exact this
theorem fvalid_p (s : Sn) (A : Option Addr) (n cp : Nat) (FA : Option Addr) (fn fc : Nat) (l : List UInt8) (m : Int) (w : World) (hsl : PSl w A n cp s.c.p) (hnm : s.nm.size ≤ maxLen) (hf : Sl w FA fn fc l) :
    Calls Try.prog 22 #[.agg (cells s (.slice A n cp)), .agg #[.slice FA fn fc, .int .i64 m]] w fun e w' => e = .returned (.bool (vf (vs s) s.sm l m)) ∧ Below w.heap.size w w' := by
  obtain ⟨hb0, hx0, hf0⟩ := two_boxes s (.slice A n cp) (.slice FA fn fc) m w
  have HV := Lib.hid (valid_p s A n cp _ (hsl.step hb0) hnm)
  have hlen := hf.len
  obtain ⟨R, hR⟩ : ∃ R, R = vf (vs s) s.sm l m := ⟨_, rfl⟩
  rw [← hR]
  unfold vf at hR
  rw [← hlen] at hR
  have hcm : fn ≤ 9223372036854775807 := by have := lite hf; unfold maxLen at this; omega
  obtain ⟨k, hk⟩ : ∃ k, k = s.sm := ⟨_, rfl⟩
  rw [← hk] at hR
  have HK := Lib.hid hk
  generalize vs s = b at *
  have HR := Lib.hid hR
  clear hR hlen hf hsl hk
  go_enter Try.func22, Try.ntmps22
  go_wp2_with (refine wpList_load_bx rfl (.tmp 2) rfl _ _ _ rfl hx0 ?_)
  refine HV.out.mono ?_
  rintro e w3 ⟨rfl, hb3⟩
  have hx3 := c27 (hx0.below hb3)
  rw [← HK.out] at hx3
  have hf3 := hf0.below hb3
  have c0 := hf3.c0
  have c1 := hf3.c1
  have hb := hb0.trans (hb3.mono hb0.size)
  clear hf3 hf0 hx0 hb0 hb3 HV
  cases b
  · go_wp2_with fail
    go_ret
    exact ⟨by rw [HR.out]; rfl, hb⟩
  by_cases h1 : (fn : Int) ≤ k
  case neg =>
    have d1 : decide (k < (fn : Int)) = true := decide_eq_true (by omega)
    go_wp2_with fail
    go_ret
    exact ⟨by rw [HR.out, (decide_eq_false (by omega) : decide ((fn : Int) ≤ k) = false)]; rfl, hb⟩
  have d1 : decide (k < (fn : Int)) = false := decide_eq_false (by omega)
  by_cases h2 : 0 ≤ m
  case neg =>
    have d2 : decide (m < 0) = true := decide_eq_true (by omega)
    go_wp2_with fail
    go_ret
    exact ⟨by rw [HR.out, (decide_eq_true (by omega) : decide ((fn : Int) ≤ k) = true), (decide_eq_false (by omega) : decide (0 ≤ m) = false)]; rfl, hb⟩
  have d2 : decide (m < 0) = false := decide_eq_false (by omega)
  by_cases h3 : m ≤ 3
  case neg =>
    have d3 : decide (3 < m) = true := decide_eq_true (by omega)
    go_wp2_with fail
    go_ret
    exact ⟨by rw [HR.out, (decide_eq_true (by omega) : decide ((fn : Int) ≤ k) = true), (decide_eq_true (by omega) : decide (0 ≤ m) = true), (decide_eq_false (by omega) : decide (m ≤ 3) = false)]; rfl, hb⟩
  have d3 : decide (3 < m) = false := decide_eq_false (by omega)
  by_cases h4 : m < 3
  · have d4 : decide (m < 3) = true := decide_eq_true h4
    go_wp2_with fail
    go_ret
    exact ⟨by rw [HR.out, (decide_eq_true (by omega) : decide ((fn : Int) ≤ k) = true), (decide_eq_true (by omega) : decide (0 ≤ m) = true), (decide_eq_true (by omega) : decide (m ≤ 3) = true), (decide_eq_true (by omega) : decide (m < 3) = true)]; rfl, hb⟩
  have d4 : decide (m < 3) = false := decide_eq_false h4
  by_cases h5 : fn = 0
  · have H5 := Lib.hid h5
    have d5 : ((fn : Int) == 0) = true := by rw [h5]; rfl
    clear h5
    go_wp2_with fail
    go_ret
    exact ⟨by rw [HR.out, (decide_eq_true (by omega) : decide ((fn : Int) ≤ k) = true), (decide_eq_true (by omega) : decide (0 ≤ m) = true), (decide_eq_true (by omega) : decide (m ≤ 3) = true), decide_eq_true H5.out, Bool.or_true]; rfl, hb⟩
  · have d5 : ((fn : Int) == 0) = false := by rw [beq_eq_false_iff_ne]; omega
    go_wp2_with fail
    go_ret
    exact ⟨by rw [HR.out, (decide_eq_true (by omega) : decide ((fn : Int) ≤ k) = true), (decide_eq_true (by omega) : decide (0 ≤ m) = true), (decide_eq_true (by omega) : decide (m ≤ 3) = true), (decide_eq_false (by omega) : decide (m < 3) = false), (decide_eq_false (by omega) : decide (fn = 0) = false)]; rfl, hb⟩
theorem fvalid_r (s : Sn) (A : Option Addr) (n cp : Nat) (FA : Option Addr) (fn fc : Nat) (l : List UInt8) (m : Int) (w : World) (hsl : PSl w A n cp s.c.p) (hnm : s.nm.size ≤ maxLen) (hf : Sl w FA fn fc l) :
    Calls Try.prog 23 #[.agg (cells s (.slice A n cp)), .agg #[.slice FA fn fc, .int .i64 m]] w fun e w' => e = .returned (.bool (vf (vs s) s.sm l m)) ∧ Below w.heap.size w w' := by
  obtain ⟨hb0, hx0, hf0⟩ := two_boxes s (.slice A n cp) (.slice FA fn fc) m w
  have HV := Lib.hid (vld10 s A n cp _ (hsl.step hb0) hnm)
  have hlen := hf.len
  obtain ⟨R, hR⟩ : ∃ R, R = vf (vs s) s.sm l m := ⟨_, rfl⟩
  rw [← hR]
  unfold vf at hR
  rw [← hlen] at hR
  have hcm : fn ≤ 9223372036854775807 := by have := lite hf; unfold maxLen at this; omega
  obtain ⟨k, hk⟩ : ∃ k, k = s.sm := ⟨_, rfl⟩
  rw [← hk] at hR
  have HK := Lib.hid hk
  generalize vs s = b at *
  have HR := Lib.hid hR
  clear hR hlen hf hsl hk
  go_enter Try.func23, Try.ntmps23
  go_wp2_with (refine wpList_load_bx rfl (.tmp 2) rfl _ _ _ rfl hx0 ?_)
  refine HV.out.mono ?_
  rintro e w3 ⟨rfl, hb3⟩
  have hx3 := c27 (hx0.below hb3)
  rw [← HK.out] at hx3
  have hf3 := hf0.below hb3
  have c0 := hf3.c0
  have c1 := hf3.c1
  have hb := hb0.trans (hb3.mono hb0.size)
  clear hf3 hf0 hx0 hb0 hb3 HV
  cases b
  · go_wp2_with fail
    go_ret
    exact ⟨by rw [HR.out]; rfl, hb⟩
  by_cases h1 : (fn : Int) ≤ k
  case neg =>
    have d1 : decide ((fn : Int) ≤ k) = false := decide_eq_false h1
    go_wp2_with fail
    go_ret
    exact ⟨by rw [HR.out, (decide_eq_false (by omega) : decide ((fn : Int) ≤ k) = false)]; rfl, hb⟩
  have d1 : decide ((fn : Int) ≤ k) = true := decide_eq_true h1
  by_cases h2 : 0 ≤ m
  case neg =>
    have d2 : decide (0 ≤ m) = false := decide_eq_false h2
    go_wp2_with fail
    go_ret
    exact ⟨by rw [HR.out, (decide_eq_true (by omega) : decide ((fn : Int) ≤ k) = true), (decide_eq_false (by omega) : decide (0 ≤ m) = false)]; rfl, hb⟩
  have d2 : decide (0 ≤ m) = true := decide_eq_true h2
  by_cases h3 : m ≤ 3
  case neg =>
    have d3 : decide (m ≤ 3) = false := decide_eq_false h3
    go_wp2_with fail
    go_ret
    exact ⟨by rw [HR.out, (decide_eq_true (by omega) : decide ((fn : Int) ≤ k) = true), (decide_eq_true (by omega) : decide (0 ≤ m) = true), (decide_eq_false (by omega) : decide (m ≤ 3) = false)]; rfl, hb⟩
  have d3 : decide (m ≤ 3) = true := decide_eq_true h3
  by_cases h4 : m < 3
  · have d4 : decide (m < 3) = true := decide_eq_true h4
    go_wp2_with fail
    go_ret
    exact ⟨by rw [HR.out, (decide_eq_true (by omega) : decide ((fn : Int) ≤ k) = true), (decide_eq_true (by omega) : decide (0 ≤ m) = true), (decide_eq_true (by omega) : decide (m ≤ 3) = true), (decide_eq_true (by omega) : decide (m < 3) = true)]; rfl, hb⟩
  have d4 : decide (m < 3) = false := decide_eq_false h4
  by_cases h5 : fn = 0
  · have H5 := Lib.hid h5
    have d5 : ((fn : Int) == 0) = true := by rw [h5]; rfl
    clear h5
    go_wp2_with fail
    go_ret
    exact ⟨by rw [HR.out, (decide_eq_true (by omega) : decide ((fn : Int) ≤ k) = true), (decide_eq_true (by omega) : decide (0 ≤ m) = true), (decide_eq_true (by omega) : decide (m ≤ 3) = true), decide_eq_true H5.out, Bool.or_true]; rfl, hb⟩
  · have d5 : ((fn : Int) == 0) = false := by rw [beq_eq_false_iff_ne]; omega
    go_wp2_with fail
    go_ret
    exact ⟨by rw [HR.out, (decide_eq_true (by omega) : decide ((fn : Int) ≤ k) = true), (decide_eq_true (by omega) : decide (0 ≤ m) = true), (decide_eq_true (by omega) : decide (m ≤ 3) = true), (decide_eq_false (by omega) : decide (m < 3) = false), (decide_eq_false (by omega) : decide (fn = 0) = false)]; rfl, hb⟩
end Go.Proofs.Ytekhpcfggbegaaa.Jd
