/- Walks: the dice's thresholds. -/
import Derived.Test.YtekhpcfggbegaaaS29
import Derived.Test.YtekhpcfggbegaaaS48
import Derived.Deep.RegionHeld3
namespace Go.Proofs.Ytekhpcfggbegaaa.Tl
open Go.RowKit Go.Proofs.Ytekhpcfggbegaaa.Mem Go.Proofs.Ytekhpcfggbegaaa.F2p Go.Proofs.Ytekhpcfggbegaaa.Made Go.Proofs.Ytekhpcfggbegaaa.C4l Go.Proofs.Ytekhpcfggbegaaa.D5 Go.Proofs.Ytekhpcfggbegaaa.Ta Go.Proofs.Ytekhpcfggbegaaa.Tb Go.Proofs.Ytekhpcfggbegaaa.Tm
set_option maxRecDepth 100000
set_option maxHeartbeats 1000000

/-- Thresholds at a block: the mask, and the raw readings. -/
def Tx (w : World) (r : Nat) (mx : UInt8) (raw : List UInt8) : Prop := w.heap[r]? = some (.cells (bvs (mx :: raw)).toArray 29 (0, 0))
section
variable {w w' : World} {r : Nat} {mx : UInt8} {raw : List UInt8}
theorem Tx.kept (h : Tx w r mx raw) {b : Option Nat} (hg : w.grownBy w' b) (hne : some r ≠ b) : Tx w' r mx raw := (hg.block r (lt_of_some h) hne).trans h
theorem Tx.c0 (h : Tx w r mx raw) : w.cell? ⟨r, 0, none⟩ = some (.int .u8 (mx.toNat : Int)) := cell_of_row w r 0 _ _ _ h
theorem Tx.fz (h : Tx w r mx raw) (i : Nat) : w.frozen? ⟨r, i, none⟩ = false := frozen_of_row w r i _ _ h
theorem Tx.there (h : Tx w r mx raw) {i : Nat} (hi : i < raw.length) : ∃ u, w.cell? ⟨r, 1 + i, none⟩ = some u := by
  rw [cell_of_row w r (1 + i) _ _ _ h]
  refine ⟨bv raw[i], ?_⟩
  rw [List.getElem?_toArray, bvs, List.getElem?_map, Nat.add_comm 1 i, List.getElem?_cons_succ, List.getElem?_eq_getElem hi]
  rfl
theorem Tx.set (h : Tx w r mx raw) (i : Nat) (v : UInt8) : Tx (w.setCell ⟨r, 1 + i, none⟩ (.int .u8 (v.toNat : Int))) r mx (raw.set i v) := by
  have := heap_setCell_same w r (1 + i) _ _ (.int .u8 (v.toNat : Int)) h
  unfold Tx
  rw [this]
  congr 2
  rw [List.setIfInBounds_toArray]
  congr 1
  unfold bvs
  rw [Nat.add_comm 1 i, List.map_cons, List.map_cons, List.set_cons_succ, List.map_set]
  rfl
end
/-- What the dice's thresholds leave. -/
def Thd (sg : Bool) (w : World) (g n c : Nat) (A : Option Addr) (l : List Int) (e : Ending) (w' : World) : Prop := ∃ mx r0 r1 r2 r3 r4 r5 : UInt8, e = .returned (.agg #[.int .u8 (mx.toNat : Int), .int .u8 (r0.toNat : Int), .int .u8 (r1.toNat : Int), .int .u8 (r2.toNat : Int), .int .u8 (r3.toNat : Int), .int .u8 (r4.toNat : Int), .int .u8 (r5.toNat : Int)]) ∧
  lims sg mx.toNat [r0, r1, r2, r3, r4, r5] = true ∧ Dz w' g A n c l ∧ w.grownBy w' (some g)
/-- Where a walk of the thresholds stands. r: the result's block, F: the thresholds' block, O: the order's. -/
structure Tt (w0 w : World) (g n c : Nat) (A : Option Addr) (l : List Int) (r F O : Nat) (mx : UInt8) (raw : List UInt8) : Prop where
  dz : Dz w g A n c l
  res : w.heap[r]? = some (.cells #[.int .u8 0, .int .u8 0, .int .u8 0, .int .u8 0, .int .u8 0, .int .u8 0, .int .u8 0] 29 (0, 0))
  tx : Tx w F mx raw
  od : w.heap[O]? = some (.cells #[.int .i64 2, .int .i64 1, .int .i64 0, .int .i64 3, .int .i64 4, .int .i64 5] 140 (0, 0))
  gr : w0.grownBy w (some g)
  lo : w0.heap.size ≤ r ∧ r < F ∧ F < O ∧ g < w0.heap.size
section
variable {w0 w w' : World} {g n c r F O : Nat} {A : Option Addr} {l : List Int} {mx : UInt8} {raw : List UInt8}
theorem Tt.step (h : Tt w0 w g n c A l r F O mx raw) (hd : Dz w' g A n c l) (hg : w.grownBy w' (some g)) : Tt w0 w' g n c A l r F O mx raw :=
  ⟨hd, (hg.block r (lt_of_some h.res) (fun e => by injection e; have := h.lo; omega)).trans h.res, h.tx.kept hg (fun e => by injection e; have := h.lo; omega), (hg.block O (lt_of_some h.od) (fun e => by injection e; have := h.lo; omega)).trans h.od, grown_trans h.gr hg, h.lo⟩
theorem Tt.drew (h : Tt w0 w g n c A l r F O mx raw) : Tt w0 w.drew g n c A l r F O mx raw := ⟨dz_drew h.dz, h.res, h.tx, h.od, grown_drew h.gr, h.lo⟩
theorem Tt.drewN (h : Tt w0 w g n c A l r F O mx raw) (k : Nat) : Tt w0 (w.drewN k) g n c A l r F O mx raw := by
  obtain ⟨a, ha, hd⟩ := h.dz.at_
  exact ⟨⟨h.dz.len, h.dz.bnd, h.dz.few, Rd.drewN h.dz.row k, a, ha, hd⟩, h.res, h.tx, h.od, grown_drewN h.gr k, h.lo⟩
theorem Tt.set (h : Tt w0 w g n c A l r F O mx raw) (i : Nat) (v : UInt8) : Tt w0 (w.setCell ⟨F, 1 + i, none⟩ (.int .u8 (v.toNat : Int))) g n c A l r F O mx (raw.set i v) :=
  ⟨h.dz.grown (set_grown w F (1 + i) _) (fun e => by injection e; have := h.lo; omega) (fun k hk => by injection hk; have := h.lo; omega),
    (heap_setCell_other w ⟨F, 1 + i, none⟩ r _ (fun e => by have := h.lo; simp at e; omega)).trans h.res, h.tx.set i v,
    (heap_setCell_other w ⟨F, 1 + i, none⟩ O _ (fun e => by have := h.lo; simp at e; omega)).trans h.od,
    grown_new h.gr (set_grown w F (1 + i) _) (fun b hb => by injection hb; have := h.lo; omega), h.lo⟩
theorem Tt.ordc (h : Tt w0 w g n c A l r F O mx raw) {k : Nat} (hk : k < 6) : w.cell? ⟨O, k, none⟩ = some (.int .i64 ((ord k : Nat) : Int)) := by
  rw [cell_of_row w O k _ _ _ h.od]
  rcases (show k = 0 ∨ k = 1 ∨ k = 2 ∨ k = 3 ∨ k = 4 ∨ k = 5 by omega) with rfl | rfl | rfl | rfl | rfl | rfl <;> rfl
end
theorem one_th (mx r0 r1 r2 r3 r4 r5 : UInt8) : (#[.int .u8 (mx.toNat : Int), .int .u8 (r0.toNat : Int), .int .u8 (r1.toNat : Int), .int .u8 (r2.toNat : Int), .int .u8 (r3.toNat : Int), .int .u8 (r4.toNat : Int), .int .u8 (r5.toNat : Int)] : Array Value).all (·.oneCell') = true := by
  rw [← Array.all_toList]
  rfl
theorem six (l : List UInt8) (h : l.length = 6) : ∃ a b c d e f, l = [a, b, c, d, e, f] := by
  match l, h with
  | [a, b, c, d, e, f], _ => exact ⟨a, b, c, d, e, f, rfl⟩
theorem thr_any {w : World} {g n c : Nat} {A : Option Addr} {l : List Int} (sg : Bool) (h : Dz w g A n c l) :
    Calls Try.prog 53 #[.pointer (some ⟨g, 0, none⟩), .bool sg] w (Thd sg w g n c A l) := by
  have hlt := h.lt
  have hal0 := World.grownBy_alloc w (.cells #[.int .u8 0, .int .u8 0, .int .u8 0, .int .u8 0, .int .u8 0, .int .u8 0, .int .u8 0] 29) (some g)
  have hd0 := h.grown (World.grownBy_alloc w (.cells #[.int .u8 0, .int .u8 0, .int .u8 0, .int .u8 0, .int .u8 0, .int .u8 0, .int .u8 0] 29) none) (by simp) (fun k hk => by cases hk)
  have hst0 : (w.alloc (.cells #[.int .u8 0, .int .u8 0, .int .u8 0, .int .u8 0, .int .u8 0, .int .u8 0, .int .u8 0] 29)).heap[w.heap.size]? = some (.cells #[.int .u8 0, .int .u8 0, .int .u8 0, .int .u8 0, .int .u8 0, .int .u8 0, .int .u8 0] 29 (0, 0)) := heap_alloc_new w _
  clear h
  go_enter Try.func53, Try.ntmps53
  go_wp2_with fail
  refine (hd0.next 64 (by omega) (by omega)).mono ?_
  rintro e w2 ⟨q, hq, rfl, hd2, hg2⟩
  have hst2 := (hg2.block w.heap.size (lt_of_some hst0) (fun e => by injection e; omega)).trans hst0
  have hgw2 := grown_trans hal0 hg2
  obtain ⟨mx, hmx⟩ := u8_int q (by omega)
  have hm63 : mx.toNat ≤ 63 := by omega
  clear hd0 hal0 hst0 hg2
  have HMX := Lib.hid hmx
  clear hmx
  go_wp2_with fail
  have htx : Tx (w2.alloc (.cells #[.int .u8 (q : Int), .int .u8 0, .int .u8 0, .int .u8 0, .int .u8 0, .int .u8 0, .int .u8 0] 29)) w2.heap.size mx [0, 0, 0, 0, 0, 0] := by
    unfold Tx
    rw [heap_alloc_new, HMX.out]
    rfl
  have hd3 := hd2.grown (World.grownBy_alloc w2 (.cells #[.int .u8 (q : Int), .int .u8 0, .int .u8 0, .int .u8 0, .int .u8 0, .int .u8 0, .int .u8 0] 29) none) (by simp) (fun k hk => by cases hk)
  have hst3 := (heap_alloc_old w2 (.cells #[.int .u8 (q : Int), .int .u8 0, .int .u8 0, .int .u8 0, .int .u8 0, .int .u8 0, .int .u8 0] 29) (lt_of_some hst2)).trans hst2
  have hgw3 := grown_trans hgw2 (World.grownBy_alloc w2 (.cells #[.int .u8 (q : Int), .int .u8 0, .int .u8 0, .int .u8 0, .int .u8 0, .int .u8 0, .int .u8 0] 29) (some g))
  have hF := lt_of_some hst2
  refine (C4v.least_r sg _).mono ?_
  rintro e w' ⟨rfl, rfl⟩
  have hL1 := C4p.num_in sg 0
  have hL2 : -128 ≤ C4p.least sg ∧ C4p.least sg ≤ 0 := by unfold C4p.least; split <;> omega
  generalize w2.alloc (.cells #[.int .u8 (q : Int), .int .u8 0, .int .u8 0, .int .u8 0, .int .u8 0, .int .u8 0, .int .u8 0] 29) = w3 at *
  generalize w2.heap.size = F at *
  clear hd2 hst2 hgw2 hL1
  go_wp2_with fail
  refine (hd3.next 40 (by omega) (by omega)).mono ?_
  rintro e w4 ⟨q2, hq2, rfl, hd4, hg4⟩
  have hst4 := (hg4.block w.heap.size (lt_of_some hst3) (fun e => by injection e; omega)).trans hst3
  have htx4 := htx.kept hg4 (fun e => by injection e; omega)
  have hgw4 := grown_trans hgw3 hg4
  have hO := lt_of_some htx4
  clear hd3 hst3 htx hg4 hgw3
  have hT : Tt w (w4.alloc (.cells #[.int .i64 2, .int .i64 1, .int .i64 0, .int .i64 3, .int .i64 4, .int .i64 5] 140)) g n c A l w.heap.size F w4.heap.size mx [0, 0, 0, 0, 0, 0] :=
    ⟨hd4.grown (World.grownBy_alloc w4 _ none) (by simp) (fun k hk => by cases hk), (heap_alloc_old w4 _ (lt_of_some hst4)).trans hst4, (heap_alloc_old w4 _ hO).trans htx4, heap_alloc_new w4 _, grown_trans hgw4 (World.grownBy_alloc w4 _ (some g)), Nat.le_refl _, hF, hO, hlt⟩
  have hI : Inv sg mx.toNat 0 (C4p.least sg + (q2 : Int)) [0, 0, 0, 0, 0, 0] := Inv.start (by omega) (by omega)
  clear hd4 hst4 htx4 hgw4
  go_wp2_with fail
  generalize w4.alloc (.cells #[.int .i64 2, .int .i64 1, .int .i64 0, .int .i64 3, .int .i64 4, .int .i64 5] 140) = w5 at *
  generalize w4.heap.size = O at *
  generalize hx0 : C4p.least sg + (q2 : Int) = x0 at *
  clear hx0 hO hq hq2 HMX
  go_loopw [6, 8] (fun vx vk wr => ∃ (k : Nat) (x : Int) (raw : List UInt8), k ≤ 6 ∧ vk = .int .i64 (k : Int) ∧ vx = .int .i64 x ∧ Tt w wr g n c A l w.heap.size F O mx raw ∧ Inv sg mx.toNat k x raw) (fun _ vk _ => 6 - (intOf vk).toNat)
  case atStart => exact ⟨0, x0, _, by omega, rfl, rfl, hT, hI⟩
  case round =>
    clear hT hI
    obtain ⟨k, x, raw, hk, rfl, rfl, hT, hI⟩ := hrel
    have hlo := hI.lo
    have hhi : x ≤ C4p.least sg + 39 + 35 * (k : Int) + 1 := by
      have h1 := hI.hi
      have h2 : (if 3 < k then (1 : Int) else 0) ≤ 1 := by split <;> omega
      omega
    by_cases hk6 : k < 6
    · have hmiss := hI.miss hk6
      have hhit := hI.hit hk6
      have hlen := hI.len
      have hol := ord_lt hk6
      have hco := hT.ordc hk6
      have hcx : (if k = 3 then x + 1 else x) = now k x := rfl
      have hnx : x ≤ now k x ∧ now k x ≤ x + 1 := by unfold now; split <;> omega
      have HT := hT.drew
      obtain ⟨bh, hbh⟩ : ∃ bh, bh = has mx.toNat (ord k) := ⟨_, rfl⟩
      have HH := Lib.hid fun (u : World) => by have := has_r mx.toNat (ord k) (by omega) (by omega) u; rw [← hbh] at this; exact this
      rw [← hbh] at hmiss hhit
      have HM := Lib.hid hmiss
      have HI := Lib.hid hhit
      have HL := Lib.hid hlen
      clear hbh hmiss hhit hlen hI hcx
      generalize hod : ord k = o at *
      have HOD := Lib.hid hod
      clear hod
      by_cases h3 : k = 3
      · as_aux_lemma =>
        have hnow : now k x = x + 1 := by unfold now; rw [if_pos h3]
        rw [hnow] at HI HM hnx
        subst h3
        clear hnow
        have hm0 := hT.tx.c0
        have kk6 : (3 : Int) < 6 := by omega
        go_wp2_with fail
        go_quiet ((go_at_call 88; exact quiet_same (HH.out _)))
        all_goals
          cases bh
          · go_wp2_with fail
            exact ⟨⟨3 + 1, x + 1, raw, by omega, by first | rfl | go_num, rfl, hT.drewN _, HM.out rfl⟩, by simp [intOf]; try omega⟩
          · go_wp2_with fail
            have HT1 := (hT.drewN nq).drew
            obtain ⟨uu, hcF⟩ := HT1.tx.there (i := o) (by rw [HL.out]; exact hol)
            have hfF := HT1.tx.fz (1 + o)
            have hcF2 : (wr.drewN (nq + 1)).cell? ⟨F, 1 + o, none⟩ = some uu := hcF
            have hfF2 : (wr.drewN (nq + 1)).frozen? ⟨F, 1 + o, none⟩ = false := hfF
            have KEEP1 := Lib.hid (by have := HT1.ordc (k := 3) (by omega); rw [HOD.out] at this; exact this)
            have KEEP2 := Lib.hid (by have := (HT1.set o (C4p.rawOf (x + 1))).ordc (k := 3) (by omega); rw [HOD.out] at this; exact this)
            have hio : (o : Int) < 6 := by omega
            have hio0 : (0 : Int) ≤ (o : Int) := by omega
            have kk6 : (3 : Int) < 6 := by omega
            have HR := Lib.hid fun (u : World) => C4v.raw_r (x + 1) u (by omega) (by omega)
            go_region_held3 (fun V => V.cell? ⟨O, 3, none⟩ = some (.int .i64 ((o : Nat) : Int))) (first | exact KEEP1.out | exact KEEP2.out)
              (first
                | (go_at_call 86; (with_reducible refine (HR.out _).mono ?_); rintro e w2 ⟨rfl, rfl⟩))
            have HT2 := (hT.drewN (nq + 1)).set o (C4p.rawOf (x + 1))
            have HN := Lib.hid (HT2.dz.next 36 (by omega) (by omega))
            clear hcF hfF hcF2 hfF2 HT1 hT hio hio0
            go_wp2_with fail
            refine HN.out.mono ?_
            rintro e w7 ⟨q7, hq7, rfl, hd7, hg7⟩
            have HT3 := HT2.step hd7 hg7
            go_wp2_with fail
            exact ⟨⟨3 + 1, x + 1 + (q7 : Int), raw.set o (C4p.rawOf (x + 1)), by omega, by first | rfl | go_num, vi (by omega), HT3, HI.out (by first | rfl | trivial) q7 hq7⟩, by simp [intOf]; try omega⟩
      · as_aux_lemma =>
        have hnow : now k x = x := by unfold now; rw [if_neg h3]
        rw [hnow] at HI HM hnx
        have h3' : ((k : Int) == 3) = false := by rw [beq_eq_false_iff_ne]; omega
        clear hnow h3
        have hm0 := hT.tx.c0
        have kk6 : (k : Int) < 6 := by omega
        go_wp2_with fail
        go_quiet ((go_at_call 88; exact quiet_same (HH.out _)))
        all_goals
          cases bh
          · go_wp2_with fail
            exact ⟨⟨k + 1, x, raw, by omega, by first | rfl | go_num, rfl, hT.drewN _, HM.out rfl⟩, by simp [intOf]; try omega⟩
          · go_wp2_with fail
            have HT1 := (hT.drewN nq).drew
            obtain ⟨uu, hcF⟩ := HT1.tx.there (i := o) (by rw [HL.out]; exact hol)
            have hfF := HT1.tx.fz (1 + o)
            have hcF2 : (wr.drewN (nq + 1)).cell? ⟨F, 1 + o, none⟩ = some uu := hcF
            have hfF2 : (wr.drewN (nq + 1)).frozen? ⟨F, 1 + o, none⟩ = false := hfF
            have KEEP1 := Lib.hid (by have := HT1.ordc (k := k) (by omega); rw [HOD.out] at this; exact this)
            have KEEP2 := Lib.hid (by have := (HT1.set o (C4p.rawOf (x))).ordc (k := k) (by omega); rw [HOD.out] at this; exact this)
            have hio : (o : Int) < 6 := by omega
            have hio0 : (0 : Int) ≤ (o : Int) := by omega
            have kk6 : (k : Int) < 6 := by omega
            have HR := Lib.hid fun (u : World) => C4v.raw_r (x) u (by omega) (by omega)
            go_region_held3 (fun V => V.cell? ⟨O, k, none⟩ = some (.int .i64 ((o : Nat) : Int))) (first | exact KEEP1.out | exact KEEP2.out)
              (first
                | (go_at_call 86; (with_reducible refine (HR.out _).mono ?_); rintro e w2 ⟨rfl, rfl⟩))
            have HT2 := (hT.drewN (nq + 1)).set o (C4p.rawOf (x))
            have HN := Lib.hid (HT2.dz.next 36 (by omega) (by omega))
            clear hcF hfF hcF2 hfF2 HT1 hT hio hio0
            go_wp2_with fail
            refine HN.out.mono ?_
            rintro e w7 ⟨q7, hq7, rfl, hd7, hg7⟩
            have HT3 := HT2.step hd7 hg7
            go_wp2_with fail
            exact ⟨⟨k + 1, x + (q7 : Int), raw.set o (C4p.rawOf (x)), by omega, by first | rfl | go_num, vi (by omega), HT3, HI.out (by first | rfl | trivial) q7 hq7⟩, by simp [intOf]; try omega⟩
    · obtain rfl : k = 6 := by omega
      have hfin := hI.fin hm63
      have hlen := hI.len
      obtain ⟨r0, r1, r2, r3, r4, r5, rfl⟩ := six raw hlen
      have hth : Th wr F mx r0 r1 r2 r3 r4 r5 := hT.tx
      obtain ⟨c0, c1, c2, c3, c4, c5, c6⟩ := hth.cells
      have hres := hT.res
      clear hlen hI
      go_wp2_with (refine wpList_store_row rfl _ (.tmp 4) (.tmp 45) rfl w.heap.size #[.int .u8 (mx.toNat : Int), .int .u8 (r0.toNat : Int), .int .u8 (r1.toNat : Int), .int .u8 (r2.toNat : Int), .int .u8 (r3.toNat : Int), .int .u8 (r4.toNat : Int), .int .u8 (r5.toNat : Int)] rfl rfl _ _ hres (by kernel_rfl) rfl (one_th mx r0 r1 r2 r3 r4 r5) ?_; refine Hid.out ?_)
      refine Lib.hid ?_
      have hrow := setRow_heap wr w.heap.size _ #[.int .u8 (mx.toNat : Int), .int .u8 (r0.toNat : Int), .int .u8 (r1.toNat : Int), .int .u8 (r2.toNat : Int), .int .u8 (r3.toNat : Int), .int .u8 (r4.toNat : Int), .int .u8 (r5.toNat : Int)] _ _ hres
      have hgr : wr.grownBy (wr.setRow w.heap.size #[.int .u8 (mx.toNat : Int), .int .u8 (r0.toNat : Int), .int .u8 (r1.toNat : Int), .int .u8 (r2.toNat : Int), .int .u8 (r3.toNat : Int), .int .u8 (r4.toNat : Int), .int .u8 (r5.toNat : Int)]) (some w.heap.size) := ⟨rfl, rfl, rfl, by simp, fun k _ hk => setRow_other wr w.heap.size k _ (fun he => hk (by rw [he]))⟩
      have hd6 := hT.dz.grown hgr (fun e => by injection e; omega) (fun k hk => by injection hk; omega)
      have hg6 := grown_new hT.gr hgr (fun b hb => by injection hb; omega)
      have P := Lib.hid (And.intro hrow (And.intro hd6 hg6))
      clear hrow hgr hd6 hg6 hT hth hres
      go_wp2_with fail
      exact bodyPost_ret (results_cell_row Try.results53 _ _ w.heap.size _ _ _ _ rfl P.out.1 Try.underlying29 rfl (by kernel_rfl)) rfl ⟨mx, r0, r1, r2, r3, r4, r5, rfl, hfin, P.out.2.1, P.out.2.2⟩
end Go.Proofs.Ytekhpcfggbegaaa.Tl
