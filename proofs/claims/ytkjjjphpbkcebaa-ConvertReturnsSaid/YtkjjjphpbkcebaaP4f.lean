/- Walks: the program's conversions: the raw readings that have a value, one after the other. -/
import Derived.RangeFuncNested
import Derived.RangeFuncBound
import Derived.RangeFuncCalls
import Derived.RangeFuncLeaves
import Derived.Shelf.Abstract
import Derived.Shelf.RegionOpen
import Derived.WalkKit
import Derived.OwnWalkIn
import Derived.TacticsInMore
import Derived.LoopNIn
import Derived.LoopIn
import Derived.Test.YtkjjjphpbkcebaaP4e
namespace Go.Proofs.Ytkjjjphpbkcebaa.P4
open Go.RowKit Go.Shelf Go.Proofs.Ytkjjjphpbkcebaa.Mem Go.Proofs.Ytkjjjphpbkcebaa.M3p Go.Proofs.Ytkjjjphpbkcebaa.C4p Go.Proofs.Ytkjjjphpbkcebaa.C4l Go.Proofs.Ytkjjjphpbkcebaa.C4v
set_option maxRecDepth 100000
set_option maxHeartbeats 4000000
attribute [local go_sem] Oper.semAt_some

/-- The raw readings of the first n numbers that have a value, with it. -/
def vseq (c : Cv) : Nat → List (UInt8 × Int)
  | 0 => []
  | n + 1 => if (ord c n).2 = 0 then vseq c n ++ [(rawAt c n, (ord c n).1)] else vseq c n
theorem vseq_len (c : Cv) (n : Nat) : (vseq c n).length ≤ n := by
  induction n with
  | zero => exact Nat.le_refl _
  | succ n ih =>
    rw [vseq]
    split
    · rw [List.length_append]; simp; omega
    · omega
/-- What the iterator hands over; the clamp says that the value is within the limit. -/
abbrev encs (p : UInt8 × Int) : Array Value := #[.int .u8 (p.1.toNat : Int), .int .i64 (clp p.2)]
/-- A variable in a box of its own. -/
def Bx (W : World) (g : Nat) (v : Value) : Prop := W.cell? ⟨g, 0, none⟩ = some v ∧ W.frozen? ⟨g, 0, none⟩ = false
section
variable {W W' : World} {g : Nat} {v : Value}
theorem Bx.kept {row : Option Nat} (h : Bx W g v) (hg : W.grownBy W' row) (hr : ∀ r, row = some r → ∃ o : Obj, W.heap[r]? = some o ∧ o.isCells = false) : Bx W' g v := ⟨cell_kept h.1 hg hr, (frozen_kept h.1 hg hr).trans h.2⟩
theorem Bx.set (h : Bx W g v) (u : Value) : Bx (W.setCell ⟨g, 0, none⟩ u) g u := ⟨World.cell?_setCell_same' _ _ _ (by rw [h.1]; rfl), by rw [World.frozen?_setCell]; exact h.2⟩
theorem Bx.other (h : Bx W g v) {k : Nat} (u : Value) (hne : k ≠ g) : Bx (W.setCell ⟨k, 0, none⟩ u) g v :=
  ⟨(World.cell?_setCell_other W _ ⟨g, 0, none⟩ _ (fun e => by have := congrArg Addr.block e; simp at this; omega)).trans h.1, by rw [World.frozen?_setCell]; exact h.2⟩
theorem Bx.alloc (h : Bx W g v) (o : Obj) : Bx (W.alloc o) g v := h.kept (World.grownBy_alloc W o none) (fun r e => by cases e)
theorem Bx.row {t : TypeId} (h : W.heap[g]? = some (.cells #[v] t (0, 0))) : Bx W g v := ⟨by rw [cell_of_row W g 0 _ _ _ h]; rfl, frozen_of_row W g 0 _ _ h⟩
theorem Bx.new (W : World) (v : Value) (t : TypeId) : Bx (W.alloc (.cells #[v] t)) W.heap.size v := Bx.row (heap_alloc_new W _)
theorem Bx.lt (h : Bx W g v) : g < W.heap.size := by
  rcases Nat.lt_or_ge g W.heap.size with hlt | hge
  · exact hlt
  · have := h.1
    simp [World.cell?, Array.getElem?_eq_none hge] at this
end
theorem heap_other {W : World} {g k i : Nat} (u : Value) (h : k ≠ g) : (W.setCell ⟨k, i, none⟩ u).heap[g]? = W.heap[g]? := by
  simp [World.setCell, Array.getElem?_modify, h]
/-- What a round keeps: what lay ahead of the call, and the iterator's own box. -/
def Kp (n₀ Bc : Nat) (W W' : World) : Prop := Below n₀ W W' ∧ W'.heap[Bc]? = W.heap[Bc]?
theorem Kp.refl (n₀ Bc : Nat) (W : World) : Kp n₀ Bc W W := ⟨Below.refl _ _, rfl⟩
theorem Kp.trans {n₀ Bc : Nat} {A B C : World} (h : Kp n₀ Bc A B) (k : Kp n₀ Bc B C) : Kp n₀ Bc A C := ⟨h.1.trans k.1, k.2.trans h.2⟩
abbrev cvs (f m b k1 k2 : Int) (s : Bool) (A : Option Addr) (n cp : Nat) : Array Value := #[.int .i64 f, .bool s, .int .i64 m, .int .i64 b, .int .i64 k1, .int .i64 k2, .slice A n cp]
theorem raw_conv (L : Int) (i : Nat) : IntKind.u8.wrap (L + i) = ((rawOf (L + i)).toNat : Int) := by
  rw [raw_nat, IntKind.wrap_u8]
  omega
theorem values1_in (f m b k1 k2 : Int) (s : Bool) (A : Option Addr) (n cp : Nat) (l : List Pt) (w0 : World) (hsl : PSl w0 A n cp l) (hv : vld ⟨f, s, m, b, k1, k2, l⟩ = true) (nf lp Bc : Nat) (hn : 1 ≤ nf) (J Jx : List (UInt8 × Int) → World → Prop) (W : World)
    (hb0 : Below w0.heap.size w0 W) (hJ : AbidesFrom W.heap.size J) (hbx : W.heap[Bc]? = some (.cells (cvs f m b k1 k2 s A n cp) 24 (0, 0)))
    (hY : ∀ pre x W, J pre W → pre.length < 256 → YieldAt Fence.wide (nf - 1) Try.prog lp (encs x) W fun e W' =>
      (e = .returned (.bool true) ∧ J (pre ++ [x]) W' ∧ Kp w0.heap.size Bc W W') ∨ (e = .returned (.bool false) ∧ Jx (pre ++ [x]) W'))
    (h0 : J [] W) :
    CallsIn Fence.wide nf Try.prog 66 #[.func (.yield lp) #[] #[], .pointer (some ⟨Bc, 0, none⟩)] W fun e W' => (∃ v, e = .returned v) ∧
      ((∃ xs, xs = vseq ⟨f, s, m, b, k1, k2, l⟩ 256 ∧ J xs W') ∨ (∃ pre, True ∧ Jx pre W')) := by
  obtain ⟨c, hc⟩ : ∃ c : Cv, c = ⟨f, s, m, b, k1, k2, l⟩ := ⟨_, rfl⟩
  rw [← hc]
  have hcs : c.s = s := by rw [hc]
  obtain ⟨L, hL⟩ : ∃ L, L = least s := ⟨_, rfl⟩
  have hL2 : L = -128 ∨ L = 0 := by rw [hL]; unfold least; split <;> simp
  have HVAL := Lib.hid (fun u (i : Nat) (hi : i < 256) (hu : Below w0.heap.size w0 u) => by have := val_p f m b k1 k2 (L + i) s A n cp l u (hsl.step hu) hv (by omega) (by omega); rw [← hc] at this; exact this)
  have hvc : vld c = true := by rw [hc]; exact hv
  have HVC := Lib.hid hvc
  have HC := Lib.hid hc
  have HL := Lib.hid hL
  have HCS := Lib.hid hcs
  have HB0 := Lib.hid hb0
  have HY := Lib.hid hY
  have HBX := Lib.hid hbx
  have hlt : Bc < W.heap.size := by
    rcases Nat.lt_or_ge Bc W.heap.size with h | h
    · exact h
    · rw [Array.getElem?_eq_none h] at hbx; cases hbx
  have hs0 : W.cell? ⟨Bc, 1, none⟩ = some (.bool s) := by rw [cell_of_row W Bc 1 _ _ _ hbx]; rfl
  clear hc hL hcs hY hbx hsl hv hvc
  refine callsIn_of_wp Try.func66 rfl trivial ?_ rfl
  simp only [Try.ntmps66, List.size_toArray, List.length_cons, List.length_nil, Nat.reduceAdd, Nat.reduceSub, Array.replicate_succ, Array.replicate_zero, List.push_toArray, List.append_toArray, List.nil_append, List.cons_append]
  cases s
  · obtain rfl : L = 0 := by rw [HL.out]; rfl
    gi_wp2
    gi_loopw [4] (fun v wr => ∃ k : Nat, k ≤ 256 ∧ v = .int .i64 ((k : Int)) ∧ J (vseq c k) wr ∧ Kp w0.heap.size Bc W wr) (fun v _ => 256 - (intOf v).toNat)
    case atStart => exact ⟨0, Nat.zero_le _, by simp, h0, Kp.refl _ _ _⟩
    case round =>
      obtain ⟨k, hk, rfl, hJs, hkp⟩ := hrel
      have hbr : Below w0.heap.size w0 wr := HB0.out.trans hkp.1
      have hrw := hkp.2.trans HBX.out
      have c0 : wr.cell? ⟨Bc, 0, none⟩ = some (.int .i64 f) := by rw [cell_of_row wr Bc 0 _ _ _ hrw]; rfl
      have c1 : wr.cell? ⟨Bc, 1, none⟩ = some (.bool false) := by rw [cell_of_row wr Bc 1 _ _ _ hrw]; rfl
      have c2 : wr.cell? ⟨Bc, 2, none⟩ = some (.int .i64 m) := by rw [cell_of_row wr Bc 2 _ _ _ hrw]; rfl
      have c3 : wr.cell? ⟨Bc, 3, none⟩ = some (.int .i64 b) := by rw [cell_of_row wr Bc 3 _ _ _ hrw]; rfl
      have c4 : wr.cell? ⟨Bc, 4, none⟩ = some (.int .i64 k1) := by rw [cell_of_row wr Bc 4 _ _ _ hrw]; rfl
      have c5 : wr.cell? ⟨Bc, 5, none⟩ = some (.int .i64 k2) := by rw [cell_of_row wr Bc 5 _ _ _ hrw]; rfl
      have c6 : wr.cell? ⟨Bc, 6, none⟩ = some (.slice A n cp) := by rw [cell_of_row wr Bc 6 _ _ _ hrw]; rfl
      have hltr : Bc < wr.heap.size := by
        rcases Nat.lt_or_ge Bc wr.heap.size with h | h
        · exact h
        · rw [Array.getElem?_eq_none h] at hrw; cases hrw
      clear hrw
      by_cases hlt2 : k < 256
      · obtain ⟨X, E, ho⟩ : ∃ X E : Int, ord c k = (X, E) := ⟨_, _, rfl⟩
        obtain ⟨q, hq⟩ : ∃ q, q = rawAt c k := ⟨_, rfl⟩
        have hord : valv c ((k : Int)) = (X, E) := by rw [← ho]; unfold ord; rw [HCS.out, ← HL.out, Int.zero_add]
        have HV := Lib.hid (by have := HVAL.out wr k hlt2 hbr; rw [Int.zero_add, hord] at this; exact this)
        have hqr : IntKind.u8.wrap ((k : Int)) = (q.toNat : Int) := by have := raw_conv 0 k; rw [Int.zero_add] at this; rw [this, hq]; unfold rawAt; rw [HCS.out, ← HL.out, Int.zero_add]
        have hnx : vseq c (k + 1) = if E = 0 then vseq c k ++ [(q, X)] else vseq c k := by rw [vseq, ho, ← hq]
        have HNX := Lib.hid hnx
        have hle := vseq_len c k
        have hcx : clp X = X := by
          have := valv_in HVC.out (least c.s + k)
          have e : ord c k = valv c (least c.s + k) := rfl
          rw [← e, ho] at this
          exact clp_in this.1 this.2
        clear hnx hq ho hord
        gi_wp2
        refine ⟨trivial, (callsIn_wide.2 (HV.out)).mono ?_⟩
        rintro e w4 ⟨rfl, hb4⟩
        have hk4 : Kp w0.heap.size Bc W w4 := hkp.trans ⟨hb4.mono hbr.size, hb4.block Bc hltr⟩
        have hJ4 := hJ _ wr w4 none hJs ⟨hb4.os, hb4.tape, hb4.output, hb4.size, fun i hi _ => hb4.block i hi⟩ (fun r e => by cases e)
        clear c0 c1 c2 c3 c4 c5 c6
        by_cases hE : E = 0
        · subst hE
          have hn2 := HNX.out
          rw [if_pos rfl] at hn2
          have HN2 := Lib.hid hn2
          obtain ⟨fn, tmps, assign, body, hy, hR⟩ := HY.out (vseq c k) (q, X) w4 hJ4 (by omega)
          dsimp only [encs] at hy
          rw [hcx] at hy
          clear hn2 hcx
          gi_wp2
          refine hR.mono ?_
          rintro e W3 (⟨rfl, hJ3, hk3⟩ | ⟨rfl, hJx3⟩)
          · gi_wp2
            go_roundw
            case rel => exact ⟨k + 1, by omega, by go_num, by rw [HN2.out]; exact hJ3, hk4.trans hk3⟩
            case measure => simp [intOf]; omega
          · gi_wp2
            refine bodyPost_ret (results_none rfl _ _ _) rfl ?_
            exact ⟨⟨_, rfl⟩, .inr ⟨_, trivial, hJx3⟩⟩
        · have hE2 : (E == 0) = false := by rw [beq_eq_false_iff_ne]; exact hE
          have hn2 := HNX.out
          rw [if_neg hE] at hn2
          have HN2 := Lib.hid hn2
          clear hn2 hE hcx
          gi_wp2
          refine ⟨fun _ h => (by cases h), ?_⟩
          gi_wp2
          go_roundw
          case rel => exact ⟨k + 1, by omega, by go_num, by rw [HN2.out]; exact hJ4, hk4⟩
          case measure => simp [intOf]; omega
      · obtain rfl : k = 256 := by omega
        gi_wp2
        go_end0
        exact ⟨⟨_, rfl⟩, .inl ⟨_, rfl, hJs⟩⟩
  · obtain rfl : L = -128 := by rw [HL.out]; rfl
    gi_wp2
    gi_loopw [4] (fun v wr => ∃ k : Nat, k ≤ 256 ∧ v = .int .i64 ((-128) + (k : Int)) ∧ J (vseq c k) wr ∧ Kp w0.heap.size Bc W wr) (fun v _ => 256 - (intOf v - (-128)).toNat)
    case atStart => exact ⟨0, Nat.zero_le _, by simp, h0, Kp.refl _ _ _⟩
    case round =>
      obtain ⟨k, hk, rfl, hJs, hkp⟩ := hrel
      have hbr : Below w0.heap.size w0 wr := HB0.out.trans hkp.1
      have hrw := hkp.2.trans HBX.out
      have c0 : wr.cell? ⟨Bc, 0, none⟩ = some (.int .i64 f) := by rw [cell_of_row wr Bc 0 _ _ _ hrw]; rfl
      have c1 : wr.cell? ⟨Bc, 1, none⟩ = some (.bool true) := by rw [cell_of_row wr Bc 1 _ _ _ hrw]; rfl
      have c2 : wr.cell? ⟨Bc, 2, none⟩ = some (.int .i64 m) := by rw [cell_of_row wr Bc 2 _ _ _ hrw]; rfl
      have c3 : wr.cell? ⟨Bc, 3, none⟩ = some (.int .i64 b) := by rw [cell_of_row wr Bc 3 _ _ _ hrw]; rfl
      have c4 : wr.cell? ⟨Bc, 4, none⟩ = some (.int .i64 k1) := by rw [cell_of_row wr Bc 4 _ _ _ hrw]; rfl
      have c5 : wr.cell? ⟨Bc, 5, none⟩ = some (.int .i64 k2) := by rw [cell_of_row wr Bc 5 _ _ _ hrw]; rfl
      have c6 : wr.cell? ⟨Bc, 6, none⟩ = some (.slice A n cp) := by rw [cell_of_row wr Bc 6 _ _ _ hrw]; rfl
      have hltr : Bc < wr.heap.size := by
        rcases Nat.lt_or_ge Bc wr.heap.size with h | h
        · exact h
        · rw [Array.getElem?_eq_none h] at hrw; cases hrw
      clear hrw
      by_cases hlt2 : k < 256
      · obtain ⟨X, E, ho⟩ : ∃ X E : Int, ord c k = (X, E) := ⟨_, _, rfl⟩
        obtain ⟨q, hq⟩ : ∃ q, q = rawAt c k := ⟨_, rfl⟩
        have hord : valv c ((-128) + (k : Int)) = (X, E) := by rw [← ho]; unfold ord; rw [HCS.out, ← HL.out]
        have HV := Lib.hid (by have := HVAL.out wr k hlt2 hbr; rw [hord] at this; exact this)
        have hqr : IntKind.u8.wrap ((-128) + (k : Int)) = (q.toNat : Int) := by rw [raw_conv, hq]; unfold rawAt; rw [HCS.out, ← HL.out]
        have hnx : vseq c (k + 1) = if E = 0 then vseq c k ++ [(q, X)] else vseq c k := by rw [vseq, ho, ← hq]
        have HNX := Lib.hid hnx
        have hle := vseq_len c k
        have hcx : clp X = X := by
          have := valv_in HVC.out (least c.s + k)
          have e : ord c k = valv c (least c.s + k) := rfl
          rw [← e, ho] at this
          exact clp_in this.1 this.2
        clear hnx hq ho hord
        gi_wp2
        refine ⟨trivial, (callsIn_wide.2 (HV.out)).mono ?_⟩
        rintro e w4 ⟨rfl, hb4⟩
        have hk4 : Kp w0.heap.size Bc W w4 := hkp.trans ⟨hb4.mono hbr.size, hb4.block Bc hltr⟩
        have hJ4 := hJ _ wr w4 none hJs ⟨hb4.os, hb4.tape, hb4.output, hb4.size, fun i hi _ => hb4.block i hi⟩ (fun r e => by cases e)
        clear c0 c1 c2 c3 c4 c5 c6
        by_cases hE : E = 0
        · subst hE
          have hn2 := HNX.out
          rw [if_pos rfl] at hn2
          have HN2 := Lib.hid hn2
          obtain ⟨fn, tmps, assign, body, hy, hR⟩ := HY.out (vseq c k) (q, X) w4 hJ4 (by omega)
          dsimp only [encs] at hy
          rw [hcx] at hy
          clear hn2 hcx
          gi_wp2
          refine hR.mono ?_
          rintro e W3 (⟨rfl, hJ3, hk3⟩ | ⟨rfl, hJx3⟩)
          · gi_wp2
            go_roundw
            case rel => exact ⟨k + 1, by omega, vi (by push_cast; omega), by rw [HN2.out]; exact hJ3, hk4.trans hk3⟩
            case measure => simp [intOf]; omega
          · gi_wp2
            refine bodyPost_ret (results_none rfl _ _ _) rfl ?_
            exact ⟨⟨_, rfl⟩, .inr ⟨_, trivial, hJx3⟩⟩
        · have hE2 : (E == 0) = false := by rw [beq_eq_false_iff_ne]; exact hE
          have hn2 := HNX.out
          rw [if_neg hE] at hn2
          have HN2 := Lib.hid hn2
          clear hn2 hE hcx
          gi_wp2
          refine ⟨fun _ h => (by cases h), ?_⟩
          gi_wp2
          go_roundw
          case rel => exact ⟨k + 1, by omega, vi (by push_cast; omega), by rw [HN2.out]; exact hJ4, hk4⟩
          case measure => simp [intOf]; omega
      · obtain rfl : k = 256 := by omega
        gi_wp2
        go_end0
        exact ⟨⟨_, rfl⟩, .inl ⟨_, rfl, hJs⟩⟩
theorem values_stops (f m b k1 k2 : Int) (s : Bool) (A : Option Addr) (n cp : Nat) (l : List Pt) (w0 : World) (hsl : PSl w0 A n cp l) (hv : vld ⟨f, s, m, b, k1, k2, l⟩ = true) (nf Bc : Nat) (hn : 1 ≤ nf) (w1 : World)
    (hb : Below w0.heap.size w0 w1) (hbx : w1.heap[Bc]? = some (.cells (cvs f m b k1 k2 s A n cp) 24 (0, 0))) :
    SeqStopsK Fence.wide nf Try.prog 66 #[.pointer (some ⟨Bc, 0, none⟩)] encs (Kp w0.heap.size Bc) (fun xs => xs = vseq ⟨f, s, m, b, k1, k2, l⟩ 256) (fun _ => True) 256 w1 := fun lp J Jx W hW hJ _ hY h0 => by
  have hlt : Bc < w1.heap.size := by
    rcases Nat.lt_or_ge Bc w1.heap.size with h | h
    · exact h
    · rw [Array.getElem?_eq_none h] at hbx; cases hbx
  exact values1_in f m b k1 k2 s A n cp l w0 hsl hv nf lp Bc hn J Jx W (hb.trans (hW.mono hb.size)) hJ ((hW.block Bc hlt).trans hbx) hY h0
theorem values_p (f m b k1 k2 : Int) (s : Bool) (A : Option Addr) (n cp : Nat) (w : World) :
    Calls Try.prog 53 #[.agg #[.int .i64 f, .bool s, .int .i64 m, .int .i64 b, .int .i64 k1, .int .i64 k2, .slice A n cp]] w fun e w' => e = .returned (.func (.func 66) #[] #[.pointer (some ⟨w.heap.size, 0, none⟩)]) ∧ w' = w.alloc (.cells (cvs f m b k1 k2 s A n cp) 24) := by
  go_enter Try.func53, Try.ntmps53
  go_wp2_with fail
  go_ret
  exact ⟨rfl, rfl⟩
end Go.Proofs.Ytkjjjphpbkcebaa.P4
