/- Walks: the program's package clock: times, Stamp, Advance. -/
import Derived.Test.YtncpbgmbneobiaaV9a
import Derived.Deep.RegionHeld3
namespace Go.Proofs.Ytncpbgmbneobiaa.V9
open Go.RowKit Go.Proofs.Ytncpbgmbneobiaa.Mem Go.Proofs.Ytncpbgmbneobiaa.F2p Go.Proofs.Ytncpbgmbneobiaa.V7
set_option maxRecDepth 100000
set_option maxHeartbeats 1000000

/-- At the block r lies the clock c, and may be written. -/
def CBox (w : World) (r : Nat) (c : Ck) : Prop := w.heap[r]? = some (.cells c.cells 37 (0, 0))
theorem CBox.lt {w : World} {r : Nat} {c : Ck} (h : CBox w r c) : r < w.heap.size := lt_of_some h
theorem CBox.new (w : World) (c : Ck) : CBox (w.alloc (.cells c.cells 37)) w.heap.size c := heap_alloc_new w _
theorem CBox.below {B r : Nat} {w w' : World} {c : Ck} (h : CBox w r c) (hb : Below B w w') (hr : r < B) : CBox w' r c := (hb.block r hr).trans h
theorem CBox.alloc {r : Nat} {w : World} {c : Ck} (h : CBox w r c) (o : Obj) : CBox (w.alloc o) r c := (heap_alloc_old w o (CBox.lt h)).trans h
theorem CBox.grown {r : Nat} {w w' : World} {c : Ck} {b : Option Nat} (h : CBox w r c) (hg : w.grownBy w' b) (hr : some r ≠ b) : CBox w' r c := (hg.block r h.lt hr).trans h
section
variable {w : World} {r : Nat} {k : Ck} (h : CBox w r k)
include h
theorem CBox.at_ (i : Nat) : w.cell? ⟨r, i, none⟩ = k.cells[i]? := cell_of_row w r i _ _ _ h
theorem CBox.fz (i : Nat) : w.frozen? ⟨r, i, none⟩ = false := frozen_of_row w r i _ _ h
theorem CBox.c0 : w.cell? ⟨r, 0, none⟩ = some (.int .i64 k.t) := h.at_ 0
theorem CBox.c1 : w.cell? ⟨r, 1, none⟩ = some (.int .i64 k.b) := h.at_ 1
theorem CBox.c2 : w.cell? ⟨r, 2, none⟩ = some (.bool k.s) := h.at_ 2
theorem CBox.set (i : Nat) (v : Value) (c' : Ck) (he : k.cells.setIfInBounds i v = c'.cells) : CBox (w.setCell ⟨r, i, none⟩ v) r c' := by
  unfold CBox
  rw [← he]
  exact heap_setCell_same w r i _ _ v h
end
theorem CBox.load {w : World} {r : Nat} {k : Ck} (h : CBox w r k) : (loadVar 37 ⟨r, 0, none⟩).run Try.prog w = .ok k.v w := run_loadVar_row w r _ _ _ _ _ h Try.underlying37 rfl (by kernel_rfl)
theorem ck_one (c : Ck) : c.cells.all (·.oneCell') = true := by
  simp [Ck.cells, Value.oneCell']
theorem wpList_store_ck {ops : Array Oper} {rest : List Oper} {o : Oper} {a : Act} {w : World} {Q : Exit → Act → World → Prop} (hgd : o.guard = none) (x y : Operand) (ho : o.op = .store 37 x y)
    (r : Nat) (e e0 : Ck) (hx : a.eval x = .pointer (some ⟨r, 0, none⟩)) (hy : a.eval y = e.v) (hb : CBox w r e0)
    (h : ∀ w', CBox w' r e → w.grownBy w' (some r) → wpList Try.prog ops Q rest (a.put o.dst undef) w') : wpList Try.prog ops Q (o :: rest) a w :=
  wpList_store_row hgd _ x y ho r e.cells hx hy _ _ hb (by kernel_rfl) rfl (ck_one e)
    (h _ (setRow_heap w r _ _ _ _ hb) ⟨rfl, rfl, rfl, by simp, fun k _ hk => setRow_other w r k _ (fun he => hk (by rw [he]))⟩)
theorem wpList_load_ck {ops : Array Oper} {rest : List Oper} {o : Oper} {a : Act} {w : World} {Q : Exit → Act → World → Prop} (hgd : o.guard = none) (x : Operand) (ho : o.op = .load 37 x)
    (r : Nat) (e : Ck) (hx : a.eval x = .pointer (some ⟨r, 0, none⟩)) (hb : CBox w r e)
    (h : wpList Try.prog ops Q rest (a.put o.dst e.v) w) : wpList Try.prog ops Q (o :: rest) a w :=
  wpList_load_row hgd _ x ho r hx _ _ _ _ hb Try.underlying37 rfl (by kernel_rfl) h
theorem out_ck2 {p q : Tmp} {a : Act} {w : World} {r : Nat} {e : Ck} {v : Value} {Q : Ending → World → Prop} {fn : Func} (hr : fn.results = #[.cell p 37, .tmp q]) (hp : a.tmps.getD p undef = .pointer (some ⟨r, 0, none⟩)) (hq : a.tmps.getD q undef = v) (hd : a.defers = []) (hb : CBox w r e) (h : Q (.returned (.tuple #[e.v, v])) w) :
    bodyPost Try.prog fn Q .ret a w := by
  refine bodyPost_ret ?_ hd h
  have hp' : a.tmps[p]?.getD undef = .pointer (some ⟨r, 0, none⟩) := by simpa using hp
  have hq' : a.tmps[q]?.getD undef = v := by simpa using hq
  simp [results, hr, hp', hq', asAddr, hb.load]
theorem out_ck3 {p q s : Tmp} {a : Act} {w : World} {r : Nat} {e : Ck} {u v : Value} {Q : Ending → World → Prop} {fn : Func} (hr : fn.results = #[.cell p 37, .tmp s, .tmp q]) (hp : a.tmps.getD p undef = .pointer (some ⟨r, 0, none⟩)) (hs : a.tmps.getD s undef = u) (hq : a.tmps.getD q undef = v) (hd : a.defers = []) (hb : CBox w r e) (h : Q (.returned (.tuple #[e.v, u, v])) w) :
    bodyPost Try.prog fn Q .ret a w := by
  refine bodyPost_ret ?_ hd h
  have hp' : a.tmps[p]?.getD undef = .pointer (some ⟨r, 0, none⟩) := by simpa using hp
  have hq' : a.tmps[q]?.getD undef = v := by simpa using hq
  have hs' : a.tmps[s]?.getD undef = u := by simpa using hs
  simp [results, hr, hp', hq', hs', asAddr, hb.load]
/-- What timeOf answers. -/
theorem tm_p (c : Ck) (hk : c.ok = true) (w : World) : Calls Try.prog 64 #[c.v] w fun x w' => x = .returned (.int .u32 c.tm) ∧ Below w.heap.size w w' := by
  obtain ⟨h1, h2, h3, h4, h5⟩ := Ck.ok_b hk
  have hsec := Lib.hid (fun u => seconds_p c h1 h2 u)
  unfold Ck.tm at h4 h5 ⊢
  obtain ⟨t, b, s⟩ := c
  simp only [Ck.v, Ck.cells] at *
  have hw : wrap64 (t / 10 + b) = t / 10 + b := by unfold wrap64; omega
  have hw2 : IntKind.u32.wrap (t / 10 + b) = t / 10 + b := IntWalk.u32_in _ ⟨by omega, by omega⟩
  clear hk h3
  have KEEP : Hid (∀ V, Below (w.heap.size + 1) (w.alloc (.cells #[.int .i64 t, .int .i64 b, .bool s] 37)) V → V.cell? ⟨w.heap.size, 0, none⟩ = some (.int .i64 t) ∧ V.cell? ⟨w.heap.size, 1, none⟩ = some (.int .i64 b) ∧ V.cell? ⟨w.heap.size, 2, none⟩ = some (.bool s) ∧ Below (w.heap.size + 1) (w.alloc (.cells #[.int .i64 t, .int .i64 b, .bool s] 37)) V) := Lib.hid fun V hV =>
    have hB := CBox.below (CBox.new w ⟨t, b, s⟩) hV (by omega)
    ⟨hB.c0, hB.c1, hB.c2, hV⟩
  have hs0 : Below w.heap.size w (w.alloc (.cells #[.int .i64 t, .int .i64 b, .bool s] 37)) := (Below.refl _ _).alloc (Nat.le_refl _) _
  have hz0 : (w.alloc (.cells #[.int .i64 t, .int .i64 b, .bool s] 37)).heap.size = w.heap.size + 1 := by simp
  go_enter Try.func64, Try.ntmps64
  go_wp2_with fail
  generalize hw0 : w.alloc (.cells #[.int .i64 t, .int .i64 b, .bool s] 37) = w0 at *
  have HV : Below (w.heap.size + 1) w0 w0.drew := (Below.refl _ _).drew
  clear hw0
  have HS0 := Lib.hid hs0
  clear hs0
  go_region_held3 (fun V => V.cell? ⟨w.heap.size, 0, none⟩ = some (.int .i64 t) ∧ V.cell? ⟨w.heap.size, 1, none⟩ = some (.int .i64 b) ∧ V.cell? ⟨w.heap.size, 2, none⟩ = some (.bool s) ∧ Below (w.heap.size + 1) w0 V) (first | exact KEEP.out _ HV)
    (first
      | (go_at_call 66; go_loud (refine (hsec.out _).mono ?_); rintro e w2 ⟨rfl, hb2⟩; have HV := HV.trans (hb2.mono (by have := HV.size; omega))))
  all_goals
    go_wp2_with fail
    go_ret
    exact ⟨ret_int (by rw [IntWalk.i64_in _ ⟨by omega, by omega⟩, hw2]), HS0.out.trans (HV.mono (by omega))⟩
/-- What Stamp answers. -/
def stp (c : Ck) : Value := if c.ok then .tuple #[.int .u32 c.tm, .int .i64 0] else .tuple #[.int .u32 0, .int .i64 1]
theorem stamp_p (c : Ck) (hf : c.Fit) (w : World) : Calls Try.prog 39 #[c.v] w fun x w' => x = .returned (stp c) ∧ Below w.heap.size w w' := by
  have hv := Lib.hid (fun u => valid_ck c hf u)
  have ht := Lib.hid (fun hk u => tm_p c hk u)
  unfold stp
  rcases hk : c.ok with _ | _
  · rw [hk] at hv
    rw [if_neg (by simp)]
    obtain ⟨t, b, s⟩ := c
    simp only [Ck.v, Ck.cells] at *
    clear hk ht hf
    go_enter Try.func39, Try.ntmps39
    go_wp2_with fail
    refine (hv.out _).mono ?_
    rintro e w1 ⟨rfl, hb1⟩
    have hs1 : Below w.heap.size w w1 := ((Below.refl _ _).alloc (Nat.le_refl _) _).trans (hb1.mono (by simp))
    clear hb1
    go_wp2_with fail
    go_ret2
    exact ⟨rfl, hs1⟩
  · rw [hk] at hv
    rw [if_pos rfl]
    have ht := Lib.hid (ht.out hk)
    obtain ⟨m, hm⟩ : ∃ m, m = c.tm := ⟨_, rfl⟩
    rw [← hm] at ht ⊢
    clear hm
    obtain ⟨t, b, s⟩ := c
    simp only [Ck.v, Ck.cells] at *
    clear hk hf
    go_enter Try.func39, Try.ntmps39
    go_wp2_with fail
    refine (hv.out _).mono ?_
    rintro e w1 ⟨rfl, hb1⟩
    have hB : CBox w1 w.heap.size ⟨t, b, s⟩ := CBox.below (CBox.new w ⟨t, b, s⟩) hb1 (by simp)
    have c0 : w1.cell? ⟨w.heap.size, 0, none⟩ = some (.int .i64 t) := hB.c0
    have c1 : w1.cell? ⟨w.heap.size, 1, none⟩ = some (.int .i64 b) := hB.c1
    have c2 : w1.cell? ⟨w.heap.size, 2, none⟩ = some (.bool s) := hB.c2
    have hs1 : Below w.heap.size w w1 := ((Below.refl _ _).alloc (Nat.le_refl _) _).trans (hb1.mono (by simp))
    clear hb1 hB
    go_wp2_with fail
    refine (ht.out _).mono ?_
    rintro e w2 ⟨rfl, hb2⟩
    have hs2 := hs1.trans (hb2.mono hs1.size)
    clear hb2 hs1
    go_wp2_with fail
    go_ret2
    exact ⟨rfl, hs2⟩
/-- What Advance answers: clock and error. -/
def adv (c : Ck) (n : Int) : Ck × Int := if c.ok then (if n < 0 ∨ 17179869184 - c.t < n then (Ck.none, 2) else if (Ck.mk (c.t + n) c.b c.s).ok then (⟨c.t + n, c.b, c.s⟩, 0) else (Ck.none, 2)) else (Ck.none, 1)
theorem advance_p (c : Ck) (hf : c.Fit) (n : Int) (w : World) : Calls Try.prog 38 #[c.v, .int .i64 n] w fun x w' => x = .returned (.tuple #[(adv c n).1.v, .int .i64 (adv c n).2]) ∧ Below w.heap.size w w' := by
  have hv := Lib.hid (fun u => valid_ck c hf u)
  unfold adv
  rcases hk : c.ok with _ | _
  · rw [hk] at hv
    rw [if_neg (by simp)]
    obtain ⟨t, b, s⟩ := c
    simp only [Ck.v, Ck.cells, Ck.none] at *
    clear hk hf
    have hs0 : Below w.heap.size w ((w.alloc (.cells (Ck.mk t b s).cells 37)).alloc (.cells Ck.none.cells 37)) := ((Below.refl _ _).alloc (Nat.le_refl _) _).alloc (by simp) _
    have hr0 := CBox.new (w.alloc (.cells (Ck.mk t b s).cells 37)) Ck.none
    have hz0 : (w.alloc (.cells (Ck.mk t b s).cells 37)).heap.size = w.heap.size + 1 := by simp
    have hz1 : ((w.alloc (.cells (Ck.mk t b s).cells 37)).alloc (.cells Ck.none.cells 37)).heap.size = w.heap.size + 2 := by simp
    rw [hz0] at hr0
    simp only [Ck.cells, Ck.none] at hs0 hr0 hz1
    replace hr0 := Lib.hid hr0
    replace hs0 := Lib.hid hs0
    go_enter Try.func38, Try.ntmps38
    go_wp2_with fail
    refine (hv.out _).mono ?_
    rintro e w1 ⟨rfl, hb1⟩
    have hs1 := hs0.out.trans (hb1.mono (by omega))
    have hR : CBox w1 (w.heap.size + 1) Ck.none := CBox.below hr0.out hb1 (by omega)
    clear hb1
    go_wp2_with (refine wpList_store_ck rfl (.tmp 4) (.tmp 9) rfl (w.heap.size + 1) Ck.none Ck.none rfl rfl hR ?_; intro w2 hR2 hg2)
    exact out_ck2 (r := w.heap.size + 1) Try.results38 rfl rfl rfl hR2 ⟨rfl, hs1.grown hg2 hs1.size (fun k hk => by injection hk; omega)⟩
  · rw [hk] at hv
    rw [if_pos rfl]
    obtain ⟨h1, h2, -, -, -⟩ := Ck.ok_b hk
    obtain ⟨ft, fb⟩ := hf
    obtain ⟨t, b, s⟩ := c
    simp only [Ck.v, Ck.cells, Ck.none] at *
    clear hk ft
    have hw1 : wrap64 (17179869184 - t) = 17179869184 - t := by unfold wrap64; omega
    by_cases hn : n < 0 ∨ 17179869184 - t < n
    · rw [if_pos hn]
      have hs0 : Below w.heap.size w ((w.alloc (.cells (Ck.mk t b s).cells 37)).alloc (.cells Ck.none.cells 37)) := ((Below.refl _ _).alloc (Nat.le_refl _) _).alloc (by simp) _
      have hr0 := CBox.new (w.alloc (.cells (Ck.mk t b s).cells 37)) Ck.none
      have hc0 := (CBox.new w (Ck.mk t b s)).alloc (.cells Ck.none.cells 37)
      have hz0 : (w.alloc (.cells (Ck.mk t b s).cells 37)).heap.size = w.heap.size + 1 := by simp
      have hz1 : ((w.alloc (.cells (Ck.mk t b s).cells 37)).alloc (.cells Ck.none.cells 37)).heap.size = w.heap.size + 2 := by simp
      rw [hz0] at hr0
      simp only [Ck.cells, Ck.none] at hs0 hr0 hz1 hc0
      replace hr0 := Lib.hid hr0
      replace hs0 := Lib.hid hs0
      replace hc0 := Lib.hid hc0
      rcases Int.lt_or_le n 0 with hn0 | hn0
      · clear hn
        go_enter Try.func38, Try.ntmps38
        go_wp2_with fail
        refine (hv.out _).mono ?_
        rintro e w1 ⟨rfl, hb1⟩
        have hs1 := Lib.hid (hs0.out.trans (hb1.mono (by omega)))
        have hR := CBox.below hr0.out hb1 (by omega)
        have hC := CBox.below hc0.out hb1 (by omega)
        have c0 : w1.cell? ⟨w.heap.size, 0, none⟩ = some (.int .i64 t) := hC.c0
        have f0 := hC.fz 0
        clear hb1
        go_wp2_with (refine wpList_store_ck rfl (.tmp 4) (.tmp 19) rfl (w.heap.size + 1) Ck.none Ck.none rfl rfl hR ?_; intro w2 hR2 hg2)
        exact out_ck2 (r := w.heap.size + 1) Try.results38 rfl rfl rfl hR2 ⟨rfl, hs1.out.grown hg2 hs1.out.size (fun k hk => by injection hk; omega)⟩
      · have hn1 : 17179869184 - t < n := by omega
        clear hn
        go_enter Try.func38, Try.ntmps38
        go_wp2_with fail
        refine (hv.out _).mono ?_
        rintro e w1 ⟨rfl, hb1⟩
        have hs1 := Lib.hid (hs0.out.trans (hb1.mono (by omega)))
        have hR := CBox.below hr0.out hb1 (by omega)
        have hC := CBox.below hc0.out hb1 (by omega)
        have c0 : w1.cell? ⟨w.heap.size, 0, none⟩ = some (.int .i64 t) := hC.c0
        have f0 := hC.fz 0
        clear hb1
        go_wp2_with (refine wpList_store_ck rfl (.tmp 4) (.tmp 19) rfl (w.heap.size + 1) Ck.none Ck.none rfl rfl hR ?_; intro w2 hR2 hg2)
        exact out_ck2 (r := w.heap.size + 1) Try.results38 rfl rfl rfl hR2 ⟨rfl, hs1.out.grown hg2 hs1.out.size (fun k hk => by injection hk; omega)⟩
    · rw [if_neg hn]
      have hn0 : ¬ n < 0 := by omega
      have hn1 : ¬ 17179869184 - t < n := by omega
      have hw2 : wrap64 (t + n) = t + n := by unfold wrap64; omega
      have hv2 := Lib.hid (fun u => valid_ck ⟨t + n, b, s⟩ ⟨by show _ ≤ t + n ∧ t + n ≤ _; omega, fb⟩ u)
      clear hn
      obtain ⟨x, hx⟩ : ∃ x, t + n = x := ⟨_, rfl⟩
      rw [hx] at hv2 hw2 ⊢
      have hx := Lib.hid hx
      obtain ⟨k, hk⟩ : ∃ k, k = (Ck.mk x b s).ok := ⟨_, rfl⟩
      rw [← hk] at hv2 ⊢
      clear hk
      simp only [Ck.v, Ck.cells] at hv2
      have hs0 : Below w.heap.size w ((w.alloc (.cells (Ck.mk t b s).cells 37)).alloc (.cells Ck.none.cells 37)) := ((Below.refl _ _).alloc (Nat.le_refl _) _).alloc (by simp) _
      have hr0 := CBox.new (w.alloc (.cells (Ck.mk t b s).cells 37)) Ck.none
      have hc0 := (CBox.new w (Ck.mk t b s)).alloc (.cells Ck.none.cells 37)
      have hz0 : (w.alloc (.cells (Ck.mk t b s).cells 37)).heap.size = w.heap.size + 1 := by simp
      have hz1 : ((w.alloc (.cells (Ck.mk t b s).cells 37)).alloc (.cells Ck.none.cells 37)).heap.size = w.heap.size + 2 := by simp
      rw [hz0] at hr0
      simp only [Ck.cells, Ck.none] at hs0 hr0 hz1 hc0
      replace hr0 := Lib.hid hr0
      replace hs0 := Lib.hid hs0
      replace hc0 := Lib.hid hc0
      go_enter Try.func38, Try.ntmps38
      go_wp2_with fail
      refine (hv.out _).mono ?_
      rintro e w1 ⟨rfl, hb1⟩
      have hs1 := Lib.hid (hs0.out.trans (hb1.mono (by omega)))
      have hR := CBox.below hr0.out hb1 (by omega)
      have hC := CBox.below hc0.out hb1 (by omega)
      have c0 : w1.cell? ⟨w.heap.size, 0, none⟩ = some (.int .i64 t) := hC.c0
      have f0 := hC.fz 0
      clear hb1
      go_upto_region 6 with fail
      have g2 := set_grown w1 w.heap.size 0 (.int .i64 x)
      have hC2 := hC.set 0 (.int .i64 x) ⟨x, b, s⟩ rfl
      have hR2 := hR.grown g2 (fun e => by injection e; omega)
      have hs2 := Lib.hid (hs1.out.grown g2 hs1.out.size (fun k hk => by injection hk; omega))
      clear g2 hR hC c0 f0 hs1
      generalize w1.setCell ⟨w.heap.size, 0, none⟩ (.int .i64 x) = w2 at *
      have d0 : w2.cell? ⟨w.heap.size, 0, none⟩ = some (.int .i64 x) := hC2.c0
      have d1 : w2.cell? ⟨w.heap.size, 1, none⟩ = some (.int .i64 b) := hC2.c1
      have d2 : w2.cell? ⟨w.heap.size, 2, none⟩ = some (.bool s) := hC2.c2
      have hlt2 := hC2.lt
      have hltR := hR2.lt
      replace hC2 := Lib.hid hC2
      replace hR2 := Lib.hid hR2
      go_wp2_with fail
      refine (hv2.out _).mono ?_
      rintro e w3 ⟨rfl, hb3⟩
      have hs3 := Lib.hid (hs2.out.trans (hb3.mono hs2.out.size))
      have hR3 := CBox.below hR2.out hb3 hltR
      have hC3 := CBox.below hC2.out hb3 hlt2
      clear hb3 d0 d1 d2
      cases k
      · go_wp2_with (refine wpList_store_ck rfl (.tmp 4) (.tmp 28) rfl (w.heap.size + 1) Ck.none Ck.none rfl rfl hR3 ?_; intro w4 hR4 hg4)
        exact out_ck2 (r := w.heap.size + 1) Try.results38 rfl rfl rfl hR4 ⟨rfl, hs3.out.grown hg4 hs3.out.size (fun k hk => by injection hk; omega)⟩
      · go_wp2_with (first
          | (refine wpList_load_ck rfl (.tmp 2) rfl w.heap.size ⟨x, b, s⟩ rfl hC3 ?_)
          | (refine wpList_store_ck rfl (.tmp 4) (.tmp 29) rfl (w.heap.size + 1) ⟨x, b, s⟩ Ck.none rfl rfl hR3 ?_; intro w4 hR4 hg4))
        exact out_ck2 (r := w.heap.size + 1) Try.results38 rfl rfl rfl hR4 ⟨rfl, hs3.out.grown hg4 hs3.out.size (fun k hk => by injection hk; omega)⟩
end Go.Proofs.Ytncpbgmbneobiaa.V9
