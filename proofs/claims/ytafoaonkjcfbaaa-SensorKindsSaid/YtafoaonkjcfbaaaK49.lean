/- Walks: the dice's odd sensor records. -/
import Derived.Test.YtafoaonkjcfbaaaK41
import Derived.Test.YtafoaonkjcfbaaaK42
import Derived.Test.YtafoaonkjcfbaaaK48
import Derived.Deep.MidRow
namespace Go.Proofs.Ytafoaonkjcfbaaa.Tl
open Go.RowKit Go.Proofs.Ytafoaonkjcfbaaa.Mem Go.Proofs.Ytafoaonkjcfbaaa.F2p Go.Proofs.Ytafoaonkjcfbaaa.Made Go.Proofs.Ytafoaonkjcfbaaa.C4l Go.Proofs.Ytafoaonkjcfbaaa.D5 Go.Proofs.Ytafoaonkjcfbaaa.Ta Go.Proofs.Ytafoaonkjcfbaaa.Tb Go.Proofs.Ytafoaonkjcfbaaa.Ya
set_option maxRecDepth 100000
set_option maxHeartbeats 2000000

/-- What the dice's OddSensor leaves: some record. -/
def SnO (w : World) (g n c : Nat) (A : Option Addr) (l : List Int) (e : Ending) (w' : World) : Prop :=
  ∃ (s : Sn) (V : Value), e = .returned (.agg (cells s V)) ∧ s.nm.size ≤ 1000 ∧ POwn w.heap.size w' V s.c.p ∧ Dz w' g A n c l ∧ w.grownBy w' (some g)
theorem sendO {w0 w : World} {g n c r : Nat} {A : Option Addr} {l : List Int} {s : Sn} {V : Value} {a : Act} {p : Tmp} {fn : Func}
    (hf : fn.results = #[.cell p 59]) (hd0 : Dz w g A n c l) (hr : Bx w r s V) (hg0 : w0.grownBy w (some g)) (hnm : s.nm.size ≤ 1000) (ho : POwn w0.heap.size w V s.c.p) (ht : a.tmps.getD p undef = .pointer (some ⟨r, 0, none⟩)) (hd : a.defers = []) :
    bodyPost Try.prog fn (SnO w0 g n c A l) .ret a w :=
  bodyPost_ret (results_cell_row hf _ _ r _ _ _ _ ht hr Try.underlying59 rfl (by kernel_rfl)) hd ⟨s, V, rfl, hnm, ho, hd0, hg0⟩
def setRaw (s : Sn) (k : Nat) (x : UInt8) : Sn := match k with
  | 0 => { s with r0 := x }
  | 1 => { s with r1 := x }
  | 2 => { s with r2 := x }
  | 3 => { s with r3 := x }
  | 4 => { s with r4 := x }
  | _ => { s with r5 := x }
theorem set_raw (s : Sn) (V : Value) (k : Nat) (hk : k < 6) (x : UInt8) : (cells s V).setIfInBounds (15 + k) (.int .u8 (x.toNat : Int)) = cells (setRaw s k x) V := by
  rcases (show k = 0 ∨ k = 1 ∨ k = 2 ∨ k = 3 ∨ k = 4 ∨ k = 5 by omega) with rfl | rfl | rfl | rfl | rfl | rfl <;> rfl
theorem setRaw_same (s : Sn) (k : Nat) (x : UInt8) : (setRaw s k x).c.p = s.c.p ∧ (setRaw s k x).nm = s.nm := by
  unfold setRaw
  split <;> exact ⟨rfl, rfl⟩
theorem vs_nm {s : Sn} (hv : vs s = true) : s.nm.size ≤ 1000 := by
  unfold vs okn at hv
  simp only [Bool.and_eq_true] at hv
  have h := of_decide_eq_true hv.1.1
  rw [bl_len] at h
  omega
theorem oddsensor_any {w : World} {g n c : Nat} {A : Option Addr} {l : List Int} (h : Dz w g A n c l) :
    Calls Try.prog 28 #[.pointer (some ⟨g, 0, none⟩)] w (SnO w g n c A l) := by
  have hlt := h.lt
  have hal0 := World.grownBy_alloc w (.cells #[.int .u8 0, .int .u8 0, .int .u8 0, .string ⟨#[]⟩, .int .u8 0, .int .u8 0, .bool false, .int .i64 0, .bool false, .int .i64 0, .int .i64 0, .int .i64 0, .int .i64 0, .slice none 0 0, .int .u8 0, .int .u8 0, .int .u8 0, .int .u8 0, .int .u8 0, .int .u8 0, .int .u8 0, .int .u8 0, .int .u8 0, .int .u16 0, .int .u16 0, .int .u16 0, .bool false, .int .i64 0] 59) (some g)
  have hd0 := h.grown (World.grownBy_alloc w (.cells #[.int .u8 0, .int .u8 0, .int .u8 0, .string ⟨#[]⟩, .int .u8 0, .int .u8 0, .bool false, .int .i64 0, .bool false, .int .i64 0, .int .i64 0, .int .i64 0, .int .i64 0, .slice none 0 0, .int .u8 0, .int .u8 0, .int .u8 0, .int .u8 0, .int .u8 0, .int .u8 0, .int .u8 0, .int .u8 0, .int .u8 0, .int .u16 0, .int .u16 0, .int .u16 0, .bool false, .int .i64 0] 59) none) (by simp) (fun k hk => by cases hk)
  have hst0 := Bx.zero w
  have hsz0 : w.heap.size < (w.alloc (.cells #[.int .u8 0, .int .u8 0, .int .u8 0, .string ⟨#[]⟩, .int .u8 0, .int .u8 0, .bool false, .int .i64 0, .bool false, .int .i64 0, .int .i64 0, .int .i64 0, .int .i64 0, .slice none 0 0, .int .u8 0, .int .u8 0, .int .u8 0, .int .u8 0, .int .u8 0, .int .u8 0, .int .u8 0, .int .u8 0, .int .u8 0, .int .u16 0, .int .u16 0, .int .u16 0, .bool false, .int .i64 0] 59)).heap.size := by rw [World.size_alloc]; omega
  clear h
  go_enter Try.func28, Try.ntmps28
  go_wp2_with fail
  generalize w.alloc (.cells #[.int .u8 0, .int .u8 0, .int .u8 0, .string ⟨#[]⟩, .int .u8 0, .int .u8 0, .bool false, .int .i64 0, .bool false, .int .i64 0, .int .i64 0, .int .i64 0, .int .i64 0, .slice none 0 0, .int .u8 0, .int .u8 0, .int .u8 0, .int .u8 0, .int .u8 0, .int .u8 0, .int .u8 0, .int .u8 0, .int .u8 0, .int .u16 0, .int .u16 0, .int .u16 0, .bool false, .int .i64 0] 59) = w1 at *
  refine hd0.byte.mono ?_
  rintro e w2 ⟨nu, rfl, hd2, hg2⟩
  have hst2 := hst0.kept hg2 (fun e => by injection e; omega)
  have hal2 := grown_trans hal0 hg2
  have hsz2 : w1.heap.size ≤ w2.heap.size := hg2.size
  clear hst0 hal0 hd0 hg2
  go_wp2_with fail
  refine (sensor_any nu hd2).mono ?_
  rintro e w3 ⟨s, V, rfl, hv, -, -, hown, hd3, hg3⟩
  obtain ⟨VA, vn, vc, rfl, -⟩ := hown.sl
  have hnm := vs_nm hv
  have hst3 := hst2.kept hg3 (fun e => by injection e; omega)
  have hal3 := grown_trans hal2 hg3
  have hsz3 : w2.heap.size ≤ w3.heap.size := hg3.size
  have hz3 := Bx.zero w3
  have hd4 := hd3.grown (World.grownBy_alloc w3 (.cells #[.int .u8 0, .int .u8 0, .int .u8 0, .string ⟨#[]⟩, .int .u8 0, .int .u8 0, .bool false, .int .i64 0, .bool false, .int .i64 0, .int .i64 0, .int .i64 0, .int .i64 0, .slice none 0 0, .int .u8 0, .int .u8 0, .int .u8 0, .int .u8 0, .int .u8 0, .int .u8 0, .int .u8 0, .int .u8 0, .int .u8 0, .int .u16 0, .int .u16 0, .int .u16 0, .bool false, .int .i64 0] 59) none) (by simp) (fun k hk => by cases hk)
  have hst4 := hst3.alloc (.cells #[.int .u8 0, .int .u8 0, .int .u8 0, .string ⟨#[]⟩, .int .u8 0, .int .u8 0, .bool false, .int .i64 0, .bool false, .int .i64 0, .int .i64 0, .int .i64 0, .int .i64 0, .slice none 0 0, .int .u8 0, .int .u8 0, .int .u8 0, .int .u8 0, .int .u8 0, .int .u8 0, .int .u8 0, .int .u8 0, .int .u8 0, .int .u16 0, .int .u16 0, .int .u16 0, .bool false, .int .i64 0] 59)
  have hal4 := grown_trans hal3 (World.grownBy_alloc w3 (.cells #[.int .u8 0, .int .u8 0, .int .u8 0, .string ⟨#[]⟩, .int .u8 0, .int .u8 0, .bool false, .int .i64 0, .bool false, .int .i64 0, .int .i64 0, .int .i64 0, .int .i64 0, .slice none 0 0, .int .u8 0, .int .u8 0, .int .u8 0, .int .u8 0, .int .u8 0, .int .u8 0, .int .u8 0, .int .u8 0, .int .u8 0, .int .u16 0, .int .u16 0, .int .u16 0, .bool false, .int .i64 0] 59) (some g))
  have hown4 : POwn w2.heap.size (w3.alloc (.cells #[.int .u8 0, .int .u8 0, .int .u8 0, .string ⟨#[]⟩, .int .u8 0, .int .u8 0, .bool false, .int .i64 0, .bool false, .int .i64 0, .int .i64 0, .int .i64 0, .int .i64 0, .slice none 0 0, .int .u8 0, .int .u8 0, .int .u8 0, .int .u8 0, .int .u8 0, .int .u8 0, .int .u8 0, .int .u8 0, .int .u8 0, .int .u16 0, .int .u16 0, .int .u16 0, .bool false, .int .i64 0] 59)) (.slice VA vn vc) s.c.p := World.ownsRow.alloc hown _
  clear hst2 hal2 hd2 hg3 hst3 hal3 hd3 hown hv
  go_wp2_with (refine wpList_store_bx rfl (.tmp 3) (.tmp 7) rfl w3.heap.size s noSn (.slice VA vn vc) (.slice none 0 0) rfl rfl rfl hz3 ?_; intro w4 hx4 hg4; refine Hid.out ?_)
  refine Lib.hid ?_
  have hS : Ss w w4 g n c A l w.heap.size w3.heap.size s (.slice VA vn vc) := ⟨hd4.grown hg4 (fun e => by injection e; omega) (fun k hk => by injection hk; omega), hst4.kept hg4 (fun e => by injection e; omega), hx4, grown_new hal4 hg4 (fun b hb => by injection hb; omega), Nat.le_refl _, by omega, hlt⟩
  have hp := pown_far hown4 hz3 hg4
  obtain ⟨B, hBe⟩ : ∃ B, B = w2.heap.size := ⟨_, rfl⟩
  rw [← hBe] at hp
  have hB : g < B ∧ w.heap.size ≤ B := by omega
  have hB3 : B ≤ w3.heap.size := by omega
  have h43 : w3.heap.size < w4.heap.size := hx4.lt
  clear hd4 hst4 hal4 hown4 hg4 hx4 hz3 hBe hsz2 hsz3
  obtain ⟨F, hF⟩ : ∃ F, F = w3.heap.size := ⟨_, rfl⟩
  rw [← hF] at hS hB3 h43 ⊢
  have hlo := hS.lo
  clear hF
  go_wp2_with fail
  refine (hS.next 12 (by omega) (by omega)).mono ?_
  rintro e w4' ⟨q, hq, rfl, hS4, hg4⟩
  have hp4 := pown_kept hp hg4 hB.1
  have hBw : B ≤ w4'.heap.size := by have := hg4.size; omega
  clear hS hp hg4 h43
  have hS := hS4
  have hp := hp4
  clear hS4 hp4
  generalize w4' = w4 at *
  rcases (show q = 0 ∨ q = 1 ∨ q = 2 ∨ q = 3 ∨ q = 4 ∨ q = 5 ∨ q = 6 ∨ q = 7 ∨ q = 8 ∨ 9 ≤ q by omega) with rfl | rfl | rfl | rfl | rfl | rfl | rfl | rfl | rfl | hq9
  · as_aux_lemma =>
    go_wp2_with fail
    refine (hS.next 19 (by omega) (by omega)).mono ?_
    rintro e w5 ⟨r, hr, rfl, hS5, hg5⟩
    have hp5 := pown_kept hp hg5 hB.1
    clear hS hp hg5
    go_wp2_with fail
    refine (hS5.dz.text ⟨#[97, 127]⟩ r (by decide) (by decide) (by omega)).mono ?_
    rintro e w6 ⟨t, rfl, ht, -, hd6, hg6⟩
    have hS6 := hS5.step hd6 hg6
    have hp6 := pown_kept hp5 hg6 hB.1
    clear hS5 hp5 hd6 hg6
    have kk : w6.cell? ⟨F, 3, none⟩ = some (.string s.nm) := hS6.cv.c 3
    have ff := hS6.cv.fz 3
    have hp9 := pown_far hp6 hS6.cv (set_grown w6 F 3 (.string t))
    have hS9 := hS6.set 3 (.string t) { s with nm := t } (.slice VA vn vc) rfl
    clear hS6 hp6
    go_wp2_with (first
      | (refine wpList_load_bx rfl (.tmp 3) rfl _ _ _ rfl hS9.cv ?_)
      | (refine wpList_store_bx rfl (.tmp 2) (.tmp 66) rfl w.heap.size { s with nm := t } noSn (.slice VA vn vc) (.slice none 0 0) rfl rfl rfl hS9.res ?_; intro wz hxz hgz; refine Hid.out ?_))
    refine Lib.hid ?_
    have hdz := hS9.dz.grown hgz (fun e => by injection e; omega) (fun k hk => by injection hk; omega)
    have hgr := grown_new hS9.gr hgz (fun b hb => by injection hb; omega)
    have hpz := pown_far hp9 hS9.res hgz
    clear hS9 hgz hp9
    go_wp2_with fail
    exact sendO Try.results28 hdz hxz hgr (show t.size ≤ 1000 by omega) (pown_base hpz hB.2) rfl rfl
  · as_aux_lemma =>
    go_wp2_with fail
    refine (hS.next 8 (by omega) (by omega)).mono ?_
    rintro e w5 ⟨r, hr, rfl, hS5, hg5⟩
    have hp5 := pown_kept hp hg5 hB.1
    clear hS hp hg5
    have kk : w5.cell? ⟨F, 27, none⟩ = some (.int .i64 s.sm) := hS5.cv.c 27
    have ff := hS5.cv.fz 27
    have hp9 := pown_far hp5 hS5.cv (set_grown w5 F 27 (.int .i64 ((r : Int) - 1)))
    have hS9 := hS5.set 27 (.int .i64 ((r : Int) - 1)) { s with sm := (r : Int) - 1 } (.slice VA vn vc) rfl
    clear hS5 hp5
    go_wp2_with (first
      | (refine wpList_load_bx rfl (.tmp 3) rfl _ _ _ rfl hS9.cv ?_)
      | (refine wpList_store_bx rfl (.tmp 2) (.tmp 66) rfl w.heap.size { s with sm := (r : Int) - 1 } noSn (.slice VA vn vc) (.slice none 0 0) rfl rfl rfl hS9.res ?_; intro wz hxz hgz; refine Hid.out ?_))
    refine Lib.hid ?_
    have hdz := hS9.dz.grown hgz (fun e => by injection e; omega) (fun k hk => by injection hk; omega)
    have hgr := grown_new hS9.gr hgz (fun b hb => by injection hb; omega)
    have hpz := pown_far hp9 hS9.res hgz
    clear hS9 hgz hp9
    go_wp2_with fail
    exact sendO Try.results28 hdz hxz hgr hnm (pown_base hpz hB.2) rfl rfl
  · as_aux_lemma =>
    have hS5 := hS
    have hp5 := hp
    clear hS hp
    generalize w4 = w5 at *
    have kk : w5.cell? ⟨F, 6, none⟩ = some (.bool s.d) := hS5.cv.c 6
    have ff := hS5.cv.fz 6
    have hp9 := pown_far hp5 hS5.cv (set_grown w5 F 6 (.bool (!s.d)))
    have hS9 := hS5.set 6 (.bool (!s.d)) { s with d := !s.d } (.slice VA vn vc) rfl
    clear hS5 hp5
    go_wp2_with (first
      | (refine wpList_load_bx rfl (.tmp 3) rfl _ _ _ rfl hS9.cv ?_)
      | (refine wpList_store_bx rfl (.tmp 2) (.tmp 66) rfl w.heap.size { s with d := !s.d } noSn (.slice VA vn vc) (.slice none 0 0) rfl rfl rfl hS9.res ?_; intro wz hxz hgz; refine Hid.out ?_))
    refine Lib.hid ?_
    have hdz := hS9.dz.grown hgz (fun e => by injection e; omega) (fun k hk => by injection hk; omega)
    have hgr := grown_new hS9.gr hgz (fun b hb => by injection hb; omega)
    have hpz := pown_far hp9 hS9.res hgz
    clear hS9 hgz hp9
    go_wp2_with fail
    exact sendO Try.results28 hdz hxz hgr hnm (pown_base hpz hB.2) rfl rfl
  · as_aux_lemma =>
    go_wp2_with fail
    refine (hS.next 6 (by omega) (by omega)).mono ?_
    rintro e w5 ⟨r, hr, rfl, hS5, hg5⟩
    have hp5 := pown_kept hp hg5 hB.1
    clear hS hp hg5
    go_wp2_with fail
    refine hS5.byte.mono ?_
    rintro e w6 ⟨x, rfl, hS6, hg6⟩
    have hp6 := pown_kept hp5 hg6 hB.1
    clear hS5 hp5 hg6
    have kk := raw_cell hS6.cv r hr
    have ff := hS6.cv.fz (15 + r)
    have hp9 := pown_far hp6 hS6.cv (set_grown w6 F (15 + r) (.int .u8 (x.toNat : Int)))
    have hS9 := hS6.set (15 + r) (.int .u8 (x.toNat : Int)) (setRaw s r x) (.slice VA vn vc) (set_raw s _ r hr x)
    have hvp : (setRaw s r x).c.p = s.c.p ∧ (setRaw s r x).nm = s.nm := setRaw_same s r x
    rw [← hvp.1] at hp9
    rw [← hvp.2] at hnm
    have b1 : (0 : Int) ≤ (r : Int) := by omega
    have b2 : (r : Int) < 6 := by omega
    clear hS6 hp6 hvp
    go_wp2_with (first
      | (refine wpList_load_bx rfl (.tmp 3) rfl _ _ _ rfl hS9.cv ?_)
      | (refine wpList_store_bx rfl (.tmp 2) (.tmp 66) rfl w.heap.size (setRaw s r x) noSn (.slice VA vn vc) (.slice none 0 0) rfl rfl rfl hS9.res ?_; intro wz hxz hgz; refine Hid.out ?_))
    refine Lib.hid ?_
    have hdz := hS9.dz.grown hgz (fun e => by injection e; omega) (fun k hk => by injection hk; omega)
    have hgr := grown_new hS9.gr hgz (fun b hb => by injection hb; omega)
    have hpz := pown_far hp9 hS9.res hgz
    clear hS9 hgz hp9
    go_wp2_with fail
    exact sendO Try.results28 hdz hxz hgr hnm (pown_base hpz hB.2) rfl rfl
  · as_aux_lemma =>
    go_wp2_with fail
    refine hS.byte.mono ?_
    rintro e w5 ⟨r, rfl, hS5, hg5⟩
    have hp5 := pown_kept hp hg5 hB.1
    clear hS hp hg5
    have kk : w5.cell? ⟨F, 14, none⟩ = some (.int .u8 (s.mx.toNat : Int)) := hS5.cv.c 14
    have ff := hS5.cv.fz 14
    have hp9 := pown_far hp5 hS5.cv (set_grown w5 F 14 (.int .u8 (r.toNat : Int)))
    have hS9 := hS5.set 14 (.int .u8 (r.toNat : Int)) { s with mx := r } (.slice VA vn vc) rfl
    clear hS5 hp5
    go_wp2_with (first
      | (refine wpList_load_bx rfl (.tmp 3) rfl _ _ _ rfl hS9.cv ?_)
      | (refine wpList_store_bx rfl (.tmp 2) (.tmp 66) rfl w.heap.size { s with mx := r } noSn (.slice VA vn vc) (.slice none 0 0) rfl rfl rfl hS9.res ?_; intro wz hxz hgz; refine Hid.out ?_))
    refine Lib.hid ?_
    have hdz := hS9.dz.grown hgz (fun e => by injection e; omega) (fun k hk => by injection hk; omega)
    have hgr := grown_new hS9.gr hgz (fun b hb => by injection hb; omega)
    have hpz := pown_far hp9 hS9.res hgz
    clear hS9 hgz hp9
    go_wp2_with fail
    exact sendO Try.results28 hdz hxz hgr hnm (pown_base hpz hB.2) rfl rfl
  · as_aux_lemma =>
    go_wp2_with fail
    refine (hS.next 65536 (by omega) (by omega)).mono ?_
    rintro e w5 ⟨r, hr, rfl, hS5, hg5⟩
    have hp5 := pown_kept hp hg5 hB.1
    clear hS hp hg5
    have hr16 : IntKind.u16.wrap (r : Int) = (r : Int) := IntWalk.u16_in _ ⟨by omega, by omega⟩
    have kk : w5.cell? ⟨F, 23, none⟩ = some (.int .u16 (s.st : Int)) := hS5.cv.c 23
    have ff := hS5.cv.fz 23
    have hp9 := pown_far hp5 hS5.cv (set_grown w5 F 23 (.int .u16 (r : Int)))
    have hS9 := hS5.set 23 (.int .u16 (r : Int)) { s with st := r } (.slice VA vn vc) rfl
    clear hS5 hp5
    go_wp2_with (first
      | (refine wpList_load_bx rfl (.tmp 3) rfl _ _ _ rfl hS9.cv ?_)
      | (refine wpList_store_bx rfl (.tmp 2) (.tmp 66) rfl w.heap.size { s with st := r } noSn (.slice VA vn vc) (.slice none 0 0) rfl rfl rfl hS9.res ?_; intro wz hxz hgz; refine Hid.out ?_))
    refine Lib.hid ?_
    have hdz := hS9.dz.grown hgz (fun e => by injection e; omega) (fun k hk => by injection hk; omega)
    have hgr := grown_new hS9.gr hgz (fun b hb => by injection hb; omega)
    have hpz := pown_far hp9 hS9.res hgz
    clear hS9 hgz hp9
    go_wp2_with fail
    exact sendO Try.results28 hdz hxz hgr hnm (pown_base hpz hB.2) rfl rfl
  · as_aux_lemma =>
    go_wp2_with fail
    refine (hS.next 65536 (by omega) (by omega)).mono ?_
    rintro e w5 ⟨r, hr, rfl, hS5, hg5⟩
    have hp5 := pown_kept hp hg5 hB.1
    clear hS hp hg5
    have hr16 : IntKind.u16.wrap (r : Int) = (r : Int) := IntWalk.u16_in _ ⟨by omega, by omega⟩
    have kk : w5.cell? ⟨F, 24, none⟩ = some (.int .u16 (s.av : Int)) := hS5.cv.c 24
    have ff := hS5.cv.fz 24
    have hp9 := pown_far hp5 hS5.cv (set_grown w5 F 24 (.int .u16 (r : Int)))
    have hS9 := hS5.set 24 (.int .u16 (r : Int)) { s with av := r } (.slice VA vn vc) rfl
    clear hS5 hp5
    go_wp2_with (first
      | (refine wpList_load_bx rfl (.tmp 3) rfl _ _ _ rfl hS9.cv ?_)
      | (refine wpList_store_bx rfl (.tmp 2) (.tmp 66) rfl w.heap.size { s with av := r } noSn (.slice VA vn vc) (.slice none 0 0) rfl rfl rfl hS9.res ?_; intro wz hxz hgz; refine Hid.out ?_))
    refine Lib.hid ?_
    have hdz := hS9.dz.grown hgz (fun e => by injection e; omega) (fun k hk => by injection hk; omega)
    have hgr := grown_new hS9.gr hgz (fun b hb => by injection hb; omega)
    have hpz := pown_far hp9 hS9.res hgz
    clear hS9 hgz hp9
    go_wp2_with fail
    exact sendO Try.results28 hdz hxz hgr hnm (pown_base hpz hB.2) rfl rfl
  · as_aux_lemma =>
    go_wp2_with fail
    refine (odd_any hS.dz).mono ?_
    rintro e w5 ⟨f, m, b, k1, k2, sc, QV, p, rfl, -, hp5, hd5, hg5⟩
    obtain ⟨QA, qn, qc, rfl, -⟩ := hp5.sl
    have hS5 := hS.step hd5 hg5
    have hp5 := pown_base hp5 (show B ≤ w4.heap.size from hBw)
    clear hS hp hd5 hg5
    have kk7 : w5.cell? ⟨F, 7, none⟩ = some (.int .i64 s.c.f) := hS5.cv.c 7
    have ff7 := hS5.cv.fz 7
    have kk8 : w5.cell? ⟨F, 8, none⟩ = some (.bool s.c.s) := hS5.cv.c 8
    have ff8 := hS5.cv.fz 8
    have kk9 : w5.cell? ⟨F, 9, none⟩ = some (.int .i64 s.c.m) := hS5.cv.c 9
    have ff9 := hS5.cv.fz 9
    have kk10 : w5.cell? ⟨F, 10, none⟩ = some (.int .i64 s.c.b) := hS5.cv.c 10
    have ff10 := hS5.cv.fz 10
    have kk11 : w5.cell? ⟨F, 11, none⟩ = some (.int .i64 s.c.k1) := hS5.cv.c 11
    have ff11 := hS5.cv.fz 11
    have kk12 : w5.cell? ⟨F, 12, none⟩ = some (.int .i64 s.c.k2) := hS5.cv.c 12
    have ff12 := hS5.cv.fz 12
    have kk13 : w5.cell? ⟨F, 13, none⟩ = some (.slice VA vn vc) := hS5.cv.c 13
    have ff13 := hS5.cv.fz 13
    have hth : w5.there F 7 7 := fun j hj => ⟨by
      rw [hS5.cv.c]
      rcases (show j = 0 ∨ j = 1 ∨ j = 2 ∨ j = 3 ∨ j = 4 ∨ j = 5 ∨ j = 6 by omega) with rfl | rfl | rfl | rfl | rfl | rfl | rfl <;> rfl, hS5.cv.fz _⟩
    have q7 := pown_far hp5 hS5.cv (set_grown _ F 7 (.int .i64 f))
    have s7 := hS5.set 7 (.int .i64 f) { s with c := { s.c with f := f } } (.slice VA vn vc) rfl
    have q8 := pown_far q7 s7.cv (set_grown _ F 8 (.bool sc))
    have s8 := s7.set 8 (.bool sc) { s with c := { s.c with f := f, s := sc } } (.slice VA vn vc) rfl
    have q9 := pown_far q8 s8.cv (set_grown _ F 9 (.int .i64 m))
    have s9 := s8.set 9 (.int .i64 m) { s with c := { s.c with f := f, s := sc, m := m } } (.slice VA vn vc) rfl
    have q10 := pown_far q9 s9.cv (set_grown _ F 10 (.int .i64 b))
    have s10 := s9.set 10 (.int .i64 b) { s with c := { s.c with f := f, s := sc, m := m, b := b } } (.slice VA vn vc) rfl
    have q11 := pown_far q10 s10.cv (set_grown _ F 11 (.int .i64 k1))
    have s11 := s10.set 11 (.int .i64 k1) { s with c := { s.c with f := f, s := sc, m := m, b := b, k1 := k1 } } (.slice VA vn vc) rfl
    have q12 := pown_far q11 s11.cv (set_grown _ F 12 (.int .i64 k2))
    have s12 := s11.set 12 (.int .i64 k2) { s with c := { s.c with f := f, s := sc, m := m, b := b, k1 := k1, k2 := k2 } } (.slice VA vn vc) rfl
    have q13 := pown_far q12 s12.cv (set_grown _ F 13 (.slice QA qn qc))
    have s13 := s12.set 13 (.slice QA qn qc) { s with c := { s.c with f := f, s := sc, m := m, b := b, k1 := k1, k2 := k2, p := p } } (.slice QA qn qc) rfl
    have hp9 := q13
    have hS9 := s13
    clear q7 q8 q9 q10 q11 q12 q13 s7 s8 s9 s10 s11 s12 s13 hS5 hp5
    obtain ⟨s9, hs9⟩ : ∃ s9 : Sn, s9 = { s with c := { s.c with f := f, s := sc, m := m, b := b, k1 := k1, k2 := k2, p := p } } := ⟨_, rfl⟩
    have hnm9 : s9.nm.size ≤ 1000 := by rw [hs9]; exact hnm
    have hcp : p = s9.c.p := by rw [hs9]
    rw [← hs9] at hS9
    rw [hcp] at hp9
    clear hs9 hcp
    have hS8 : Ss w (w5.setCells F 7 [.int .i64 f, .bool sc, .int .i64 m, .int .i64 b, .int .i64 k1, .int .i64 k2, .slice QA qn qc]) g n c A l w.heap.size F s9 (.slice QA qn qc) := hS9
    have hp8 : POwn B (w5.setCells F 7 [.int .i64 f, .bool sc, .int .i64 m, .int .i64 b, .int .i64 k1, .int .i64 k2, .slice QA qn qc]) (.slice QA qn qc) s9.c.p := hp9
    have hone : (#[.int .i64 f, .bool sc, .int .i64 m, .int .i64 b, .int .i64 k1, .int .i64 k2, .slice QA qn qc] : Array Value).all (fun x => x.oneCell') = true := by simp [Value.oneCell']
    have HS8 := Lib.hid hS8
    have HP8 := Lib.hid hp8
    clear hS8 hp8 hS9 hp9 kk7 kk8 kk9 kk10 kk11 kk12 kk13 ff7 ff8 ff9 ff10 ff11 ff12 ff13
    go_wp2_with (go_loud (refine wpList_store_mid rfl _ (.tmp 60) (.tmp 59) rfl F 7 #[.int .i64 f, .bool sc, .int .i64 m, .int .i64 b, .int .i64 k1, .int .i64 k2, .slice QA qn qc] rfl rfl hth (by kernel_rfl) hone ?_); refine Hid.out ?_)
    refine Lib.hid ?_
    have hS9 := HS8.out
    have hp9 := HP8.out
    clear HS8 HP8 hth
    generalize w5.setCells F 7 [.int .i64 f, .bool sc, .int .i64 m, .int .i64 b, .int .i64 k1, .int .i64 k2, .slice QA qn qc] = w9 at *
    go_wp2_with (first
      | (refine wpList_load_bx rfl (.tmp 3) rfl _ _ _ rfl hS9.cv ?_)
      | (refine wpList_store_bx rfl (.tmp 2) (.tmp 66) rfl w.heap.size s9 noSn (.slice QA qn qc) (.slice none 0 0) rfl rfl rfl hS9.res ?_; intro wz hxz hgz; refine Hid.out ?_))
    refine Lib.hid ?_
    have hdz := hS9.dz.grown hgz (fun e => by injection e; omega) (fun k hk => by injection hk; omega)
    have hgr := grown_new hS9.gr hgz (fun b hb => by injection hb; omega)
    have hpz := pown_far hp9 hS9.res hgz
    clear hS9 hgz hp9
    go_wp2_with fail
    exact sendO Try.results28 hdz hxz hgr hnm9 (pown_base hpz hB.2) rfl rfl
  · as_aux_lemma =>
    go_wp2_with fail
    refine hS.byte.mono ?_
    rintro e w5 ⟨r, rfl, hS5, hg5⟩
    have hp5 := pown_kept hp hg5 hB.1
    clear hS hp hg5
    have kk : w5.cell? ⟨F, 21, none⟩ = some (.int .u8 (s.hl.toNat : Int)) := hS5.cv.c 21
    have ff := hS5.cv.fz 21
    have hp9 := pown_far hp5 hS5.cv (set_grown w5 F 21 (.int .u8 (r.toNat : Int)))
    have hS9 := hS5.set 21 (.int .u8 (r.toNat : Int)) { s with hl := r } (.slice VA vn vc) rfl
    clear hS5 hp5
    go_wp2_with (first
      | (refine wpList_load_bx rfl (.tmp 3) rfl _ _ _ rfl hS9.cv ?_)
      | (refine wpList_store_bx rfl (.tmp 2) (.tmp 66) rfl w.heap.size { s with hl := r } noSn (.slice VA vn vc) (.slice none 0 0) rfl rfl rfl hS9.res ?_; intro wz hxz hgz; refine Hid.out ?_))
    refine Lib.hid ?_
    have hdz := hS9.dz.grown hgz (fun e => by injection e; omega) (fun k hk => by injection hk; omega)
    have hgr := grown_new hS9.gr hgz (fun b hb => by injection hb; omega)
    have hpz := pown_far hp9 hS9.res hgz
    clear hS9 hgz hp9
    go_wp2_with fail
    exact sendO Try.results28 hdz hxz hgr hnm (pown_base hpz hB.2) rfl rfl
  · as_aux_lemma =>
    have z0 : (((q : Nat) : Int) == 0) = false := by rw [beq_eq_false_iff_ne]; omega
    have z1 : (((q : Nat) : Int) == 1) = false := by rw [beq_eq_false_iff_ne]; omega
    have z2 : (((q : Nat) : Int) == 2) = false := by rw [beq_eq_false_iff_ne]; omega
    have z3 : (((q : Nat) : Int) == 3) = false := by rw [beq_eq_false_iff_ne]; omega
    have z4 : (((q : Nat) : Int) == 4) = false := by rw [beq_eq_false_iff_ne]; omega
    have z5 : (((q : Nat) : Int) == 5) = false := by rw [beq_eq_false_iff_ne]; omega
    have z6 : (((q : Nat) : Int) == 6) = false := by rw [beq_eq_false_iff_ne]; omega
    have z7 : (((q : Nat) : Int) == 7) = false := by rw [beq_eq_false_iff_ne]; omega
    have z8 : (((q : Nat) : Int) == 8) = false := by rw [beq_eq_false_iff_ne]; omega
    have hS9 := hS
    have hp9 := hp
    clear hS hp
    go_wp2_with (first
      | (refine wpList_load_bx rfl (.tmp 3) rfl _ _ _ rfl hS9.cv ?_)
      | (refine wpList_store_bx rfl (.tmp 2) (.tmp 66) rfl w.heap.size s noSn (.slice VA vn vc) (.slice none 0 0) rfl rfl rfl hS9.res ?_; intro wz hxz hgz; refine Hid.out ?_))
    refine Lib.hid ?_
    have hdz := hS9.dz.grown hgz (fun e => by injection e; omega) (fun k hk => by injection hk; omega)
    have hgr := grown_new hS9.gr hgz (fun b hb => by injection hb; omega)
    have hpz := pown_far hp9 hS9.res hgz
    clear hS9 hgz hp9
    go_wp2_with fail
    exact sendO Try.results28 hdz hxz hgr hnm (pown_base hpz hB.2) rfl rfl
end Go.Proofs.Ytafoaonkjcfbaaa.Tl
