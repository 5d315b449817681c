/- Walks: slices.Clone, Grow, Concat of bytes; a window with one more sample. -/
import Derived.Test.YtekhpcfggbegaaaS10
import Derived.Test.YtekhpcfggbegaaaS01
import Derived.Lib.AppendZeros
namespace Go.Proofs.Ytekhpcfggbegaaa.Je
open Go.RowKit Go.Proofs.Ytekhpcfggbegaaa.Mem Go.Proofs.Ytekhpcfggbegaaa.Ja
set_option maxRecDepth 100000
set_option maxHeartbeats 1000000

theorem clone_p (A : Option Addr) (m c : Nat) (l : List UInt8) (w : World) (h : Sl w A m c l) (hb : m ≤ 140737488355328) :
    Calls Try.prog 57 #[.slice A m c] w fun e w' => ∃ v, e = .returned v ∧ Own w.heap.size w' v l ∧ Below w.heap.size w w' := by
  obtain ⟨hm, h, -, -, -⟩ := h
  subst hm
  obtain ⟨i0, hi, hz0, hz1, hz2⟩ := info_parts info5
  have hnil := fun w => Lib.run_eql_slice_nil (P := Try.prog) w 33 5 A l.length c 0 0 Try.underlying33
  rcases A with _ | a
  · go_enter Try.func57, Try.ntmps57
    go_wp2
    go_ret
    have hl0 := h.empty
    subst hl0
    exact ⟨_, rfl, Own.nil, Below.refl _ _⟩
  · go_enter Try.func57, Try.ntmps57
    go_wp2_with (at_builtin; (refine wpList_append_rd _ rfl (.tmp 5) (.tmp 6) _ rfl w.heap.size 5 i0 _ 1 Try.underlying33 hi hz0 hz1 hz2 rfl _ 0 [] rfl (World.ownsRow_lit w #[] 0 (Nat.le_refl _) (by unfold maxLen; omega) (by simp)) w.heap.size (some a) l.length c (bvs l) rfl (len_bvs l) (Rd.alloc h (Nat.le_refl _) _) (fun hh => by cases hh) (bvs_one l) (by unfold maxLen; omega) (by omega) (by simp) ?_); intro v' w1 hown1 hg1)
    go_ret
    exact ⟨_, rfl, own_of hown1 (by simp) (by simp), ((Below.refl _ _).alloc (Nat.le_refl _) _).grown hg1 (by simp) (fun k hk => by cases hk; exact Nat.le_refl _)⟩
theorem below_drew {B : Nat} {w w' : World} (h : Below B w w') : Below B w w'.drew := ⟨h.os, h.tape, h.output, h.size, h.block⟩
theorem grow_p (k : Nat) (w : World) (h1 : 1 ≤ k) (h2 : k ≤ 1000) :
    Calls Try.prog 118 #[.slice none 0 0, .int .i64 (k : Int)] w fun e w' => ∃ (g c : Nat), e = .returned (.slice (some ⟨g, 0, none⟩) 0 c) ∧ Own w.heap.size w' (.slice (some ⟨g, 0, none⟩) 0 c) [] ∧ Below w.heap.size w w' := by
  obtain ⟨i0, hi, hz0, hz1, hzq⟩ := info_parts info5
  have hrun := Lib.run_append_nil_zeros (P := Try.prog) w 33 3 33 5 i0 (.int .u8 0) .i64 .i64 Try.underlying33 Try.underlying3 hi hz0 k (by omega) (by omega) (by omega) (by rw [hzq]; omega)
  have hge := grownCap_ge w k 0 5
  have hle := grownCap_le_maxLen w k 0 5 (by unfold maxLen; omega)
  generalize grownCap w k 0 5 = C at *
  have hcs : (Builtin.zeroCells (Value.int .u8 0).cells k ++ Builtin.zeroCells (Value.int .u8 0).cells (C - k)).size = C * 1 := by
    rw [Array.size_append]
    simp [Builtin.zeroCells, Value.cells]
    omega
  generalize Builtin.zeroCells (Value.int .u8 0).cells k ++ Builtin.zeroCells (Value.int .u8 0).cells (C - k) = cs at *
  have hC : C ≤ 9223372036854775807 := by unfold maxLen at hle; omega
  go_enter Try.func118, Try.ntmps118
  go_wp2_with (at_builtin; refine Lib.wpList_append_run _ rfl _ _ _ _ rfl _ _ rfl rfl _ _ hrun ?_)
  go_ret
  refine ⟨_, _, rfl, ?_, ?_⟩
  · exact World.ownsRow_made w.drew cs C (Nat.le_refl _) hle hcs
  · exact (below_drew (Below.refl _ _)).alloc (Nat.le_refl _) _
theorem concat_p (FA : Option Addr) (fn fc : Nat) (l : List UInt8) (x : UInt8) (p q : Nat) (w : World) (hf : Sl w FA fn fc l) (hn : fn ≤ 900)
    (hp : w.heap[p]? = some (.cells #[.slice FA fn fc, .slice (some ⟨q, 0, none⟩) 1 1] 33 (0, 0))) (hq : Row w.heap.size w (some ⟨q, 0, none⟩) [x]) :
    Calls Try.prog 89 #[.slice (some ⟨p, 0, none⟩) 2 2] w fun e w' => ∃ v, e = .returned v ∧ Own w.heap.size w' v (l ++ [x]) ∧ Below w.heap.size w w' := by
  obtain ⟨i0, hi, hz0, hz1, hz2⟩ := info_parts info5
  have hlt : p < w.heap.size := by
    rcases Nat.lt_or_ge p w.heap.size with h | h
    · exact h
    · rw [Array.getElem?_eq_none h] at hp; cases hp
  have c0 : w.cell? ⟨p, 0, none⟩ = some (.slice FA fn fc) := cell_of_row w p 0 _ _ _ hp
  have c1 : w.cell? ⟨p, 1, none⟩ = some (.slice (some ⟨q, 0, none⟩) 1 1) := cell_of_row w p 1 _ _ _ hp
  have HG := Lib.hid (grow_p (fn + 1) w (by omega) (by omega))
  have hcast : ((fn + 1 : Nat) : Int) = (fn : Int) + 1 := by omega
  rw [hcast] at HG
  have hlen := hf.len
  have HL := Lib.hid hlen
  have HF := Lib.hid hf
  clear hlen hf hcast
  go_enter Try.func89, Try.ntmps89
  go_wp2_with fail
  refine wp_loop_rounds 3 ?_
  rw [rounds_succ]
  go_wp2_with fail
  rw [rounds_succ]
  go_wp2_with fail
  rw [rounds_succ]
  go_wp2_with fail
  refine HG.out.mono ?_
  rintro e w1 ⟨g, C, rfl, hown1, hb1⟩
  have c0' : w1.cell? ⟨p, 0, none⟩ = some (.slice FA fn fc) := (hb1.cell hlt).trans c0
  have hf1 := Lib.hid (HF.out.step hb1)
  go_wp2_with fail
  refine wp_loop_rounds 3 ?_
  rw [rounds_succ]
  go_wp2_with (at_builtin; (refine wpList_append_rd _ rfl (.tmp 31) (.tmp 32) _ rfl w.heap.size 5 i0 _ 1 Try.underlying33 hi hz0 hz1 hz2 rfl _ 0 [] rfl hown1 w1.heap.size FA fn fc (bvs l) rfl (by rw [len_bvs]; exact HL.out.symm) hf1.out.row hf1.out.nil (bvs_one l) (by unfold maxLen; omega) (by omega) hb1.size ?_); intro v2 w2 hown2 hg2)
  have hown2' : Own w.heap.size w2 v2 l := own_of hown2 (by have := HL.out; omega) (by simp)
  have hb2 := below_grown hb1 hown1 hg2 hb1.size
  have c1' : w2.cell? ⟨p, 1, none⟩ = some (.slice (some ⟨q, 0, none⟩) 1 1) := (hb2.cell hlt).trans c1
  have hq2 := hq.below hb2
  clear c0 c1 c0' hown1 hown2 hf1 hp
  rw [rounds_succ]
  go_wp2_with (at_builtin; (refine wpList_append_rd _ rfl (.tmp 31) (.tmp 32) _ rfl w.heap.size 5 i0 _ 1 Try.underlying33 hi hz0 hz1 hz2 rfl _ _ _ rfl hown2' w.heap.size (some ⟨q, 0, none⟩) 1 1 (bvs [x]) rfl rfl hq2 (fun hh => by cases hh) (bvs_one _) (by have := HL.out; unfold maxLen; omega) (by have := HL.out; omega) hb2.size ?_); intro v3 w3 hown3 hg3)
  have hb3 := below_grown hb2 hown2' hg3 hb2.size
  rw [rounds_succ]
  go_wp2_with fail
  go_ret
  exact ⟨_, rfl, own_of hown3 (by simp) (bvs_app l [x]).symm, hb3⟩
/-- A slice that is read, in memory from block number base on. -/
def SlN (base : Nat) (w : World) (A : Option Addr) (n c : Nat) (l : List UInt8) : Prop := Sl w A n c l ∧ ∀ a, A = some a → base ≤ a.block
theorem SlN.far {base n c r : Nat} {A : Option Addr} {w w' : World} {l : List UInt8} (h : SlN base w A n c l) (hg : w.grownBy w' (some r)) (hr : r < base) : SlN base w' A n c l := by
  obtain ⟨⟨h1, h2, h3, h4, h5⟩, h6⟩ := h
  refine ⟨⟨h1, fun hl => ?_, h3, h4, h5⟩, h6⟩
  obtain ⟨a, e, hb, hc⟩ := h2 hl
  refine ⟨a, e, Nat.lt_of_lt_of_le hb hg.size, fun k hk => ?_⟩
  have hk2 : (a.add k).block = a.block := add_block a k
  rw [World.cell?_of_block (hg.block (a.add k).block (by rw [hk2]; exact hb) (fun e2 => by injection e2 with e2; have := h6 a e; omega))]
  exact hc k hk
theorem SlN.of_own {base n c : Nat} {A : Option Addr} {w : World} {l : List UInt8} (h : Own base w (.slice A n c) l) : SlN base w A n c l := by
  have hlt := World.ownsRow.lt h
  obtain ⟨A', c', e, h1, h2, h3, h4⟩ := h.form
  injection e with e1 e2 e3
  subst e1 e3
  refine ⟨⟨e2, h3, by omega, h2, h4⟩, fun a ha => ?_⟩
  subst ha
  exact (hlt a.block rfl).1
theorem SlN.none {base : Nat} {w : World} : SlN base w none 0 0 [] := ⟨⟨rfl, Rd.nil, Nat.le_refl _, by unfold maxLen; omega, fun _ => rfl⟩, fun a ha => by cases ha⟩
theorem SlN.base_ {base base' n c : Nat} {A : Option Addr} {w : World} {l : List UInt8} (h : SlN base w A n c l) (hb : base' ≤ base) : SlN base' w A n c l := ⟨h.1, fun a ha => Nat.le_trans hb (h.2 a ha)⟩
/-- The slice of two elements that 'push' hands to Concat. -/
theorem push_p (FA : Option Addr) (fn fc : Nat) (l : List UInt8) (x : UInt8) (k : Nat) (w : World) (hf : Sl w FA fn fc l) (hn : fn ≤ 900) (hk1 : 1 ≤ k) (hk : k ≤ 1000) :
    Calls Try.prog 54 #[.slice FA fn fc, .int .u8 (x.toNat : Int), .int .i64 (k : Int)] w fun e w' => ∃ A n c, e = .returned (.slice A n c) ∧ SlN w.heap.size w' A n c (push l x k) ∧ Below w.heap.size w w' := by
  have hlen := hf.len
  have HL := Lib.hid hlen
  have HF := Lib.hid hf
  have HC := Lib.hid (concat_p FA fn fc l x)
  clear hf hlen
  have hb1 : Below w.heap.size w (w.alloc (.cells #[.int .u8 (x.toNat : Int)] 5)) := (Below.refl _ _).alloc (Nat.le_refl _) _
  have hb2 := hb1.alloc hb1.size (.cells #[.slice FA fn fc, .slice (some ⟨w.heap.size, 0, none⟩) 1 1] 33)
  have hp : ((w.alloc (.cells #[.int .u8 (x.toNat : Int)] 5)).alloc (.cells #[.slice FA fn fc, .slice (some ⟨w.heap.size, 0, none⟩) 1 1] 33)).heap[w.heap.size + 1]? = some (.cells #[.slice FA fn fc, .slice (some ⟨w.heap.size, 0, none⟩) 1 1] 33 (0, 0)) := by
    have := heap_alloc_new (w.alloc (.cells #[.int .u8 (x.toNat : Int)] 5)) (.cells #[.slice FA fn fc, .slice (some ⟨w.heap.size, 0, none⟩) 1 1] 33)
    rwa [World.size_alloc] at this
  have hq : Row ((w.alloc (.cells #[.int .u8 (x.toNat : Int)] 5)).alloc (.cells #[.slice FA fn fc, .slice (some ⟨w.heap.size, 0, none⟩) 1 1] 33)).heap.size ((w.alloc (.cells #[.int .u8 (x.toNat : Int)] 5)).alloc (.cells #[.slice FA fn fc, .slice (some ⟨w.heap.size, 0, none⟩) 1 1] 33)) (some ⟨w.heap.size, 0, none⟩) [x] :=
    (Rd.alloc (row_new w #[.int .u8 (x.toNat : Int)] 5 [x] rfl (Nat.lt_succ_self _)) (by rw [World.size_alloc]; exact Nat.le_refl _) _).more (by rw [World.size_alloc, World.size_alloc]; omega)
  have HC := Lib.hid (HC.out (w.heap.size + 1) w.heap.size _ (HF.out.step hb2) hn hp hq)
  have hs2 := hb2.size
  have HB := Lib.hid hb2
  clear hp hq hb1 hb2
  go_enter Try.func54, Try.ntmps54
  go_wp2_with fail
  refine HC.out.mono ?_
  rintro e w3 ⟨v, rfl, hown, hb3⟩
  have hb := HB.out.trans (hb3.mono hs2)
  obtain ⟨A, n, c, rfl, hs⟩ := Sl.of_own hown
  obtain ⟨g, rfl, hgb, -⟩ := own_some hown (by simp)
  have hgb := Nat.le_trans hs2 hgb
  have hn2 : n = fn + 1 := by rw [hs.len, List.length_append, ← HL.out]; rfl
  have hcn := hs.cap
  have hcm : c ≤ 9223372036854775807 := by have := hs.max; unfold maxLen at this; omega
  have HN := Lib.hid hn2
  by_cases hlt : k < n
  · have d1 : decide ((k : Int) < (n : Int)) = true := decide_eq_true (by omega)
    have a1 : ¬ c = 1 := by omega
    have a2 : 1 ≤ c := by omega
    have a3 : 1 ≤ n := by omega
    have e : push l x k = (l ++ [x]).drop 1 := by unfold push; rw [← HL.out, if_pos (by omega)]
    clear hn2
    go_wp2_with fail
    go_ret
    refine ⟨_, _, _, rfl, ⟨⟨?_, ?_, by omega, by unfold maxLen; omega, fun hh => by cases hh⟩, fun a ha => by cases ha; exact hgb⟩, hb⟩
    · rw [e, List.length_drop, ← hs.len]
    · rw [e]
      have := row_cut hs.row (n := 1) (cap := c) (by rw [← hs.len]; omega) (by rw [← hs.len]; omega)
      rw [if_neg a1] at this
      exact this
  · have d1 : decide ((k : Int) < (n : Int)) = false := decide_eq_false (by omega)
    have e : push l x k = l ++ [x] := by unfold push; rw [← HL.out, if_neg (by omega)]
    clear hn2
    go_wp2_with fail
    go_ret
    exact ⟨_, _, _, rfl, ⟨by rw [e]; exact hs, fun a ha => by cases ha; exact hgb⟩, hb⟩
end Go.Proofs.Ytekhpcfggbegaaa.Je
