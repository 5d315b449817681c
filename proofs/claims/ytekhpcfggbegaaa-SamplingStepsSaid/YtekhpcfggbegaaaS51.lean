/- Walks: the dice's sensor records: the beginning; discrete ones. -/
import Derived.Test.YtekhpcfggbegaaaS50
namespace Go.Proofs.Ytekhpcfggbegaaa.Tl
open Go.RowKit Go.Proofs.Ytekhpcfggbegaaa.Mem Go.Proofs.Ytekhpcfggbegaaa.F2p Go.Proofs.Ytekhpcfggbegaaa.Made Go.Proofs.Ytekhpcfggbegaaa.C4l Go.Proofs.Ytekhpcfggbegaaa.D5 Go.Proofs.Ytekhpcfggbegaaa.Ta Go.Proofs.Ytekhpcfggbegaaa.Tb
set_option maxRecDepth 100000
set_option maxHeartbeats 6000000

theorem lims_le {sg : Bool} {mx : Nat} {raw : List UInt8} (h : Ta.lims sg mx raw = true) : mx ≤ 63 := by
  unfold Ta.lims at h
  rw [Bool.and_eq_true, decide_eq_true_eq] at h
  exact h.1
/-- An analog record is valid. -/
theorem vs_ana {nu ty un ei en : UInt8} {nm : ByteArray} {c : C4p.Cv} {mx r0 r1 r2 r3 r4 r5 hl hu : UInt8} {av dv : Nat} {on : Bool} {sm : Int} (h1 : okn (bl nm) = true) (h2 : wid sm = true) (h3 : C4p.vld c = true) (h4 : lims c.s mx.toNat [r0, r1, r2, r3, r4, r5] = true) (h5 : inm av mx.toNat = true) (h6 : inm dv mx.toNat = true) :
    vs ⟨nu, ty, un, nm, ei, en, false, c, mx, r0, r1, r2, r3, r4, r5, hl, hu, 0, av, dv, on, sm⟩ = true := by
  unfold vs ana Sn.raw
  rw [h1, h2, if_neg (by simp)]
  dsimp only
  rw [h3, h4, h5, h6]
  rfl
theorem sensor_any {w : World} {g n c : Nat} {A : Option Addr} {l : List Int} (nu : UInt8) (h : Dz w g A n c l) :
    Calls Try.prog 14 #[.pointer (some ⟨g, 0, none⟩), .int .u8 (nu.toNat : Int)] w (Snd w g n c A l nu) := by
  have hlt := h.lt
  have hal0 := World.grownBy_alloc w (.cells #[.int .u8 0, .int .u8 0, .int .u8 0, .string ⟨#[]⟩, .int .u8 0, .int .u8 0, .bool false, .int .i64 0, .bool false, .int .i64 0, .int .i64 0, .int .i64 0, .int .i64 0, .slice none 0 0, .int .u8 0, .int .u8 0, .int .u8 0, .int .u8 0, .int .u8 0, .int .u8 0, .int .u8 0, .int .u8 0, .int .u8 0, .int .u16 0, .int .u16 0, .int .u16 0, .bool false, .int .i64 0] 32) (some g)
  have hd0 := h.grown (World.grownBy_alloc w (.cells #[.int .u8 0, .int .u8 0, .int .u8 0, .string ⟨#[]⟩, .int .u8 0, .int .u8 0, .bool false, .int .i64 0, .bool false, .int .i64 0, .int .i64 0, .int .i64 0, .int .i64 0, .slice none 0 0, .int .u8 0, .int .u8 0, .int .u8 0, .int .u8 0, .int .u8 0, .int .u8 0, .int .u8 0, .int .u8 0, .int .u8 0, .int .u16 0, .int .u16 0, .int .u16 0, .bool false, .int .i64 0] 32) none) (by simp) (fun k hk => by cases hk)
  have hst0 := Bx.zero w
  clear h
  go_enter Try.func14, Try.ntmps14
  go_wp2_with fail
  generalize w.alloc (.cells #[.int .u8 0, .int .u8 0, .int .u8 0, .string ⟨#[]⟩, .int .u8 0, .int .u8 0, .bool false, .int .i64 0, .bool false, .int .i64 0, .int .i64 0, .int .i64 0, .int .i64 0, .slice none 0 0, .int .u8 0, .int .u8 0, .int .u8 0, .int .u8 0, .int .u8 0, .int .u8 0, .int .u8 0, .int .u8 0, .int .u8 0, .int .u16 0, .int .u16 0, .int .u16 0, .bool false, .int .i64 0] 32) = w1 at *
  refine (hd0.next 4 (by omega) (by omega)).mono ?_
  rintro e w2 ⟨q1, hq1, rfl, hd2, hg2⟩
  have hst2 := hst0.kept hg2 (fun e => by injection e; omega)
  have hgw2 := grown_trans hal0 hg2
  clear hd0 hal0 hst0 hg2
  go_wp2_with fail
  refine (hd2.byte).mono ?_
  rintro e w3 ⟨un, rfl, hd3, hg3⟩
  have hst3 := hst2.kept hg3 (fun e => by injection e; omega)
  have hgw3 := grown_trans hgw2 hg3
  clear hd2 hgw2 hst2 hg3
  go_wp2_with fail
  refine (hd3.next 16 (by omega) (by omega)).mono ?_
  rintro e w4 ⟨q3, hq3, rfl, hd4, hg4⟩
  have hst4 := hst3.kept hg4 (fun e => by injection e; omega)
  have hgw4 := grown_trans hgw3 hg4
  have HT := hd4.text ⟨#[67, 80, 85, 32, 84, 101, 109, 112, 46, 48, 49, 57]⟩ (1 + q3) (by decide) (by decide) (by omega)
  rw [show ((1 + q3 : Nat) : Int) = 1 + (q3 : Int) by omega] at HT
  replace HT := Lib.hid HT
  clear hd3 hgw3 hst3 hg4 hd4
  go_wp2_with fail
  refine HT.out.mono ?_
  rintro e w5 ⟨nm, rfl, hsz, hch, hd5, hg5⟩
  have hst5 := hst4.kept hg5 (fun e => by injection e; omega)
  have hgw5 := grown_trans hgw4 hg5
  have HOK := Lib.hid (txt_chr hch (by omega) (by omega))
  clear hgw4 hst4 hg5 HT hch hsz hq3
  go_wp2_with fail
  refine (entity_any hd5).mono ?_
  rintro e w6 ⟨ei, en, rfl, hd6, hg6⟩
  have hst6 := hst5.kept hg6 (fun e => by injection e; omega)
  have hgw6 := grown_trans hgw5 hg6
  clear hgw5 hst5 hg6 hd5
  go_wp2_with fail
  refine (hd6.bool 4 (by omega) (by omega)).mono ?_
  rintro e w7 ⟨on, rfl, hd7, hg7⟩
  have hst7 := hst6.kept hg7 (fun e => by injection e; omega)
  have hgw7 := grown_trans hgw6 hg7
  clear hgw6 hst6 hg7 hd6
  obtain ⟨ty, hty⟩ := u8_int (1 + q1) (by omega)
  have hty2 : (1 + (q1 : Int)) = (ty.toNat : Int) := by rw [← hty]; push_cast; rfl
  have HTY := Lib.hid hty2
  have hz7 := Bx.zero w7
  have hd8 := hd7.grown (World.grownBy_alloc w7 (.cells #[.int .u8 0, .int .u8 0, .int .u8 0, .string ⟨#[]⟩, .int .u8 0, .int .u8 0, .bool false, .int .i64 0, .bool false, .int .i64 0, .int .i64 0, .int .i64 0, .int .i64 0, .slice none 0 0, .int .u8 0, .int .u8 0, .int .u8 0, .int .u8 0, .int .u8 0, .int .u8 0, .int .u8 0, .int .u8 0, .int .u8 0, .int .u16 0, .int .u16 0, .int .u16 0, .bool false, .int .i64 0] 32) none) (by simp) (fun k hk => by cases hk)
  have hr8 := hst7.alloc (.cells #[.int .u8 0, .int .u8 0, .int .u8 0, .string ⟨#[]⟩, .int .u8 0, .int .u8 0, .bool false, .int .i64 0, .bool false, .int .i64 0, .int .i64 0, .int .i64 0, .int .i64 0, .slice none 0 0, .int .u8 0, .int .u8 0, .int .u8 0, .int .u8 0, .int .u8 0, .int .u8 0, .int .u8 0, .int .u8 0, .int .u8 0, .int .u16 0, .int .u16 0, .int .u16 0, .bool false, .int .i64 0] 32)
  have hg8 := grown_trans hgw7 (World.grownBy_alloc w7 (.cells #[.int .u8 0, .int .u8 0, .int .u8 0, .string ⟨#[]⟩, .int .u8 0, .int .u8 0, .bool false, .int .i64 0, .bool false, .int .i64 0, .int .i64 0, .int .i64 0, .int .i64 0, .slice none 0 0, .int .u8 0, .int .u8 0, .int .u8 0, .int .u8 0, .int .u8 0, .int .u8 0, .int .u8 0, .int .u8 0, .int .u8 0, .int .u16 0, .int .u16 0, .int .u16 0, .bool false, .int .i64 0] 32) (some g))
  have hF := hst7.lt
  clear hty hty2 hd7 hst7 hgw7 hq1
  go_wp2_with (refine wpList_store_bx rfl (.tmp 5) (.tmp 23) rfl w7.heap.size ⟨nu, ty, un, nm, ei, en, false, C4p.noCv, 0, 0, 0, 0, 0, 0, 0, 0, 0, 0, 0, 0, on, 1⟩ noSn (.slice none 0 0) (.slice none 0 0) rfl (by show Value.agg #[.int .u8 (nu.toNat : Int), .int .u8 (1 + (q1 : Int)), .int .u8 (un.toNat : Int), .string nm, .int .u8 (ei.toNat : Int), .int .u8 (en.toNat : Int), .bool false, .int .i64 0, .bool false, .int .i64 0, .int .i64 0, .int .i64 0, .int .i64 0, .slice none 0 0, .int .u8 0, .int .u8 0, .int .u8 0, .int .u8 0, .int .u8 0, .int .u8 0, .int .u8 0, .int .u8 0, .int .u8 0, .int .u16 0, .int .u16 0, .int .u16 0, .bool on, .int .i64 1] = _; rw [HTY.out]; rfl) rfl hz7 ?_; intro w8 hx8 hgr8; refine Hid.out ?_)
  refine Lib.hid ?_
  have hS : Ss w w8 g n c A l w.heap.size w7.heap.size ⟨nu, ty, un, nm, ei, en, false, C4p.noCv, 0, 0, 0, 0, 0, 0, 0, 0, 0, 0, 0, 0, on, 1⟩ (.slice none 0 0) :=
    ⟨hd8.grown hgr8 (fun e => by injection e; omega) (fun k hk => by injection hk; omega), hr8.kept hgr8 (fun e => by injection e; omega), hx8, grown_new hg8 hgr8 (fun b hb => by injection hb; omega), Nat.le_refl _, hF, hlt⟩
  clear hz7 hd8 hr8 hg8 hx8 hgr8 hF
  generalize w7.heap.size = F at *
  go_wp2_with fail
  refine (hS.bool 3 (by omega) (by omega)).mono ?_
  rintro e w9 ⟨b3, rfl, hS9, -⟩
  clear hS
  cases b3
  · skip
    have k27 : w9.cell? ⟨F, 27, none⟩ = some (.int .i64 1) := hS9.cv.c 27
    have f27 := hS9.cv.fz 27
    go_wp2_with fail
    refine (hS9.next 3 (by omega) (by omega)).mono ?_
    rintro e w10 ⟨x, hx, rfl, hS10, -⟩
    clear k27 f27 hS9
    have k27 : w10.cell? ⟨F, 27, none⟩ = some (.int .i64 1) := hS10.cv.c 27
    have f27 := hS10.cv.fz 27
    have hS11 := hS10.set 27 (.int .i64 (1 + 2 * (x : Int))) ⟨nu, ty, un, nm, ei, en, false, C4p.noCv, 0, 0, 0, 0, 0, 0, 0, 0, 0, 0, 0, 0, on, (1 + 2 * (x : Int))⟩ (.slice none 0 0) rfl
    clear hS10
    go_wp2_with fail
    generalize w10.setCell ⟨F, 27, none⟩ (.int .i64 (1 + 2 * (x : Int))) = w11 at *
    clear k27 f27
    refine (conv_any hS11.dz).mono ?_
    rintro e w12 ⟨f, m, b, k1, k2, sc, V, p, rfl, hvl, hpo, hd12, hg12⟩
    obtain ⟨VA, vn, vc, rfl, -⟩ := hpo.sl
    have hbs : F < w11.heap.size ∧ w.heap.size ≤ w11.heap.size := ⟨hS11.cv.lt, hS11.gr.size⟩
    generalize w11.heap.size = B at *
    have hS12 := hS11.step hd12 hg12
    clear hS11 hd12 hg12
    have k7 : w12.cell? ⟨F, 7, none⟩ = some (.int .i64 0) := hS12.cv.c 7
    have f7 := hS12.cv.fz 7
    have k8 : w12.cell? ⟨F, 8, none⟩ = some (.bool false) := hS12.cv.c 8
    have f8 := hS12.cv.fz 8
    have k9 : w12.cell? ⟨F, 9, none⟩ = some (.int .i64 0) := hS12.cv.c 9
    have f9 := hS12.cv.fz 9
    have k10 : w12.cell? ⟨F, 10, none⟩ = some (.int .i64 0) := hS12.cv.c 10
    have f10 := hS12.cv.fz 10
    have k11 : w12.cell? ⟨F, 11, none⟩ = some (.int .i64 0) := hS12.cv.c 11
    have f11 := hS12.cv.fz 11
    have k12 : w12.cell? ⟨F, 12, none⟩ = some (.int .i64 0) := hS12.cv.c 12
    have f12 := hS12.cv.fz 12
    have k13 : w12.cell? ⟨F, 13, none⟩ = some (.slice none 0 0) := hS12.cv.c 13
    have f13 := hS12.cv.fz 13
    have hS13 := (((((((hS12.set 7 (.int .i64 f) ⟨nu, ty, un, nm, ei, en, false, ⟨f, false, 0, 0, 0, 0, []⟩, 0, 0, 0, 0, 0, 0, 0, 0, 0, 0, 0, 0, on, (1 + 2 * (x : Int))⟩ (.slice none 0 0) rfl).set 8 (.bool sc) ⟨nu, ty, un, nm, ei, en, false, ⟨f, sc, 0, 0, 0, 0, []⟩, 0, 0, 0, 0, 0, 0, 0, 0, 0, 0, 0, 0, on, (1 + 2 * (x : Int))⟩ (.slice none 0 0) rfl).set 9 (.int .i64 m) ⟨nu, ty, un, nm, ei, en, false, ⟨f, sc, m, 0, 0, 0, []⟩, 0, 0, 0, 0, 0, 0, 0, 0, 0, 0, 0, 0, on, (1 + 2 * (x : Int))⟩ (.slice none 0 0) rfl).set 10 (.int .i64 b) ⟨nu, ty, un, nm, ei, en, false, ⟨f, sc, m, b, 0, 0, []⟩, 0, 0, 0, 0, 0, 0, 0, 0, 0, 0, 0, 0, on, (1 + 2 * (x : Int))⟩ (.slice none 0 0) rfl).set 11 (.int .i64 k1) ⟨nu, ty, un, nm, ei, en, false, ⟨f, sc, m, b, k1, 0, []⟩, 0, 0, 0, 0, 0, 0, 0, 0, 0, 0, 0, 0, on, (1 + 2 * (x : Int))⟩ (.slice none 0 0) rfl).set 12 (.int .i64 k2) ⟨nu, ty, un, nm, ei, en, false, ⟨f, sc, m, b, k1, k2, []⟩, 0, 0, 0, 0, 0, 0, 0, 0, 0, 0, 0, 0, on, (1 + 2 * (x : Int))⟩ (.slice none 0 0) rfl).set 13 (.slice VA vn vc) ⟨nu, ty, un, nm, ei, en, false, ⟨f, sc, m, b, k1, k2, p⟩, 0, 0, 0, 0, 0, 0, 0, 0, 0, 0, 0, 0, on, (1 + 2 * (x : Int))⟩ (.slice VA vn vc) rfl)
    have hp13 : POwn B (((((((w12.setCell ⟨F, 7, none⟩ (.int .i64 f)).setCell ⟨F, 8, none⟩ (.bool sc)).setCell ⟨F, 9, none⟩ (.int .i64 m)).setCell ⟨F, 10, none⟩ (.int .i64 b)).setCell ⟨F, 11, none⟩ (.int .i64 k1)).setCell ⟨F, 12, none⟩ (.int .i64 k2)).setCell ⟨F, 13, none⟩ (.slice VA vn vc)) (.slice VA vn vc) p := by
      have e7 : ∀ (u : World) (i : Nat) (z : Value), POwn B u (.slice VA vn vc) p → POwn B (u.setCell ⟨F, i, none⟩ z) (.slice VA vn vc) p := fun u i z hu => pown_kept hu (set_grown u F i z) hbs.1
      exact (e7 _ _ _ (e7 _ _ _ (e7 _ _ _ (e7 _ _ _ (e7 _ _ _ (e7 _ _ _ (e7 _ _ _ hpo)))))))
    clear hS12 hpo
    go_wp2_with fail
    generalize (((((((w12.setCell ⟨F, 7, none⟩ (.int .i64 f)).setCell ⟨F, 8, none⟩ (.bool sc)).setCell ⟨F, 9, none⟩ (.int .i64 m)).setCell ⟨F, 10, none⟩ (.int .i64 b)).setCell ⟨F, 11, none⟩ (.int .i64 k1)).setCell ⟨F, 12, none⟩ (.int .i64 k2)).setCell ⟨F, 13, none⟩ (.slice VA vn vc)) = w13 at *
    clear k7 f7 k8 f8 k9 f9 k10 f10 k11 f11 k12 f12 k13 f13
    have k8 : w13.cell? ⟨F, 8, none⟩ = some (.bool sc) := hS13.cv.c 8
    go_wp2_with fail
    refine (thr_any sc hS13.dz).mono ?_
    rintro e w14 ⟨mx, r0, r1, r2, r3, r4, r5, rfl, hli, hd14, hg14⟩
    have hp14 := pown_kept hp13 hg14 (show g < B by have := hS13.lo; omega)
    have hS14 := hS13.step hd14 hg14
    clear hS13 hp13 hd14 hg14 k8
    have k14 : w14.cell? ⟨F, 14, none⟩ = some (.int .u8 0) := hS14.cv.c 14
    have f14 := hS14.cv.fz 14
    have k15 : w14.cell? ⟨F, 15, none⟩ = some (.int .u8 0) := hS14.cv.c 15
    have f15 := hS14.cv.fz 15
    have k16 : w14.cell? ⟨F, 16, none⟩ = some (.int .u8 0) := hS14.cv.c 16
    have f16 := hS14.cv.fz 16
    have k17 : w14.cell? ⟨F, 17, none⟩ = some (.int .u8 0) := hS14.cv.c 17
    have f17 := hS14.cv.fz 17
    have k18 : w14.cell? ⟨F, 18, none⟩ = some (.int .u8 0) := hS14.cv.c 18
    have f18 := hS14.cv.fz 18
    have k19 : w14.cell? ⟨F, 19, none⟩ = some (.int .u8 0) := hS14.cv.c 19
    have f19 := hS14.cv.fz 19
    have k20 : w14.cell? ⟨F, 20, none⟩ = some (.int .u8 0) := hS14.cv.c 20
    have f20 := hS14.cv.fz 20
    have hS15 := (((((((hS14.set 14 (.int .u8 (mx.toNat : Int)) ⟨nu, ty, un, nm, ei, en, false, ⟨f, sc, m, b, k1, k2, p⟩, mx, 0, 0, 0, 0, 0, 0, 0, 0, 0, 0, 0, on, (1 + 2 * (x : Int))⟩ (.slice VA vn vc) rfl).set 15 (.int .u8 (r0.toNat : Int)) ⟨nu, ty, un, nm, ei, en, false, ⟨f, sc, m, b, k1, k2, p⟩, mx, r0, 0, 0, 0, 0, 0, 0, 0, 0, 0, 0, on, (1 + 2 * (x : Int))⟩ (.slice VA vn vc) rfl).set 16 (.int .u8 (r1.toNat : Int)) ⟨nu, ty, un, nm, ei, en, false, ⟨f, sc, m, b, k1, k2, p⟩, mx, r0, r1, 0, 0, 0, 0, 0, 0, 0, 0, 0, on, (1 + 2 * (x : Int))⟩ (.slice VA vn vc) rfl).set 17 (.int .u8 (r2.toNat : Int)) ⟨nu, ty, un, nm, ei, en, false, ⟨f, sc, m, b, k1, k2, p⟩, mx, r0, r1, r2, 0, 0, 0, 0, 0, 0, 0, 0, on, (1 + 2 * (x : Int))⟩ (.slice VA vn vc) rfl).set 18 (.int .u8 (r3.toNat : Int)) ⟨nu, ty, un, nm, ei, en, false, ⟨f, sc, m, b, k1, k2, p⟩, mx, r0, r1, r2, r3, 0, 0, 0, 0, 0, 0, 0, on, (1 + 2 * (x : Int))⟩ (.slice VA vn vc) rfl).set 19 (.int .u8 (r4.toNat : Int)) ⟨nu, ty, un, nm, ei, en, false, ⟨f, sc, m, b, k1, k2, p⟩, mx, r0, r1, r2, r3, r4, 0, 0, 0, 0, 0, 0, on, (1 + 2 * (x : Int))⟩ (.slice VA vn vc) rfl).set 20 (.int .u8 (r5.toNat : Int)) ⟨nu, ty, un, nm, ei, en, false, ⟨f, sc, m, b, k1, k2, p⟩, mx, r0, r1, r2, r3, r4, r5, 0, 0, 0, 0, 0, on, (1 + 2 * (x : Int))⟩ (.slice VA vn vc) rfl)
    have hp15 : POwn B (((((((w14.setCell ⟨F, 14, none⟩ (.int .u8 (mx.toNat : Int))).setCell ⟨F, 15, none⟩ (.int .u8 (r0.toNat : Int))).setCell ⟨F, 16, none⟩ (.int .u8 (r1.toNat : Int))).setCell ⟨F, 17, none⟩ (.int .u8 (r2.toNat : Int))).setCell ⟨F, 18, none⟩ (.int .u8 (r3.toNat : Int))).setCell ⟨F, 19, none⟩ (.int .u8 (r4.toNat : Int))).setCell ⟨F, 20, none⟩ (.int .u8 (r5.toNat : Int))) (.slice VA vn vc) p := by
      have e7 : ∀ (u : World) (i : Nat) (z : Value), POwn B u (.slice VA vn vc) p → POwn B (u.setCell ⟨F, i, none⟩ z) (.slice VA vn vc) p := fun u i z hu => pown_kept hu (set_grown u F i z) hbs.1
      exact (e7 _ _ _ (e7 _ _ _ (e7 _ _ _ (e7 _ _ _ (e7 _ _ _ (e7 _ _ _ (e7 _ _ _ hp14)))))))
    clear hS14 hp14
    go_wp2_with fail
    generalize (((((((w14.setCell ⟨F, 14, none⟩ (.int .u8 (mx.toNat : Int))).setCell ⟨F, 15, none⟩ (.int .u8 (r0.toNat : Int))).setCell ⟨F, 16, none⟩ (.int .u8 (r1.toNat : Int))).setCell ⟨F, 17, none⟩ (.int .u8 (r2.toNat : Int))).setCell ⟨F, 18, none⟩ (.int .u8 (r3.toNat : Int))).setCell ⟨F, 19, none⟩ (.int .u8 (r4.toNat : Int))).setCell ⟨F, 20, none⟩ (.int .u8 (r5.toNat : Int))) = w15 at *
    clear k14 f14 k15 f15 k16 f16 k17 f17 k18 f18 k19 f19 k20 f20
    refine (hS15.next 5 (by omega) (by omega)).mono ?_
    rintro e w16 ⟨q5, hq5, rfl, hS16, hg16⟩
    have hp16 := pown_kept hp15 hg16 (show g < B by have := hS15.lo; omega)
    obtain ⟨hl, hhl⟩ := u8_int q5 (by omega)
    have k21 : w16.cell? ⟨F, 21, none⟩ = some (.int .u8 0) := hS16.cv.c 21
    have f21 := hS16.cv.fz 21
    have hS17 := hS16.set 21 (.int .u8 (q5 : Int)) ⟨nu, ty, un, nm, ei, en, false, ⟨f, sc, m, b, k1, k2, p⟩, mx, r0, r1, r2, r3, r4, r5, hl, 0, 0, 0, 0, on, (1 + 2 * (x : Int))⟩ (.slice VA vn vc) (by rw [hhl]; rfl)
    have hp17 := pown_kept hp16 (set_grown w16 F 21 (.int .u8 (q5 : Int))) hbs.1
    clear hS15 hp15 hS16 hp16 hg16 hhl
    go_wp2_with fail
    generalize w16.setCell ⟨F, 21, none⟩ (.int .u8 (q5 : Int)) = w17 at *
    clear k21 f21
    refine (hS17.next 5 (by omega) (by omega)).mono ?_
    rintro e w18 ⟨q6, hq6, rfl, hS18, hg18⟩
    have hp18 := pown_kept hp17 hg18 (show g < B by have := hS17.lo; omega)
    obtain ⟨hu, hhu⟩ := u8_int q6 (by omega)
    have k22 : w18.cell? ⟨F, 22, none⟩ = some (.int .u8 0) := hS18.cv.c 22
    have f22 := hS18.cv.fz 22
    have hS19 := hS18.set 22 (.int .u8 (q6 : Int)) ⟨nu, ty, un, nm, ei, en, false, ⟨f, sc, m, b, k1, k2, p⟩, mx, r0, r1, r2, r3, r4, r5, hl, hu, 0, 0, 0, on, (1 + 2 * (x : Int))⟩ (.slice VA vn vc) (by rw [hhu]; rfl)
    have hp19 := pown_kept hp18 (set_grown w18 F 22 (.int .u8 (q6 : Int))) hbs.1
    clear hS17 hp17 hS18 hp18 hg18 hhu
    go_wp2_with fail
    generalize w18.setCell ⟨F, 22, none⟩ (.int .u8 (q6 : Int)) = w19 at *
    clear k22 f22
    refine (hS19.bool 12 (by omega) (by omega)).mono ?_
    rintro e w20 ⟨b12, rfl, hS20, hg20⟩
    have hp20 := pown_kept hp19 hg20 (show g < B by have := hS19.lo; omega)
    clear hS19 hp19 hg20
    have hmlt := mx.toNat_lt
    have hml : mx.toNat ≤ 63 := lims_le hli
    have HVA : Hid (∀ (hu : UInt8) (av dv : Nat), inm av mx.toNat = true → inm dv mx.toNat = true → vs ⟨nu, ty, un, nm, ei, en, false, ⟨f, sc, m, b, k1, k2, p⟩, mx, r0, r1, r2, r3, r4, r5, hl, hu, 0, av, dv, on, (1 + 2 * (x : Int))⟩ = true) := Lib.hid fun hu av dv ha hd => vs_ana (hu := hu) HOK.out (by unfold wid; rw [decide_eq_true_eq]; omega) hvl hli ha hd
    clear hvl hli
    cases b12
    · as_aux_lemma =>
      have k14 : w20.cell? ⟨F, 14, none⟩ = some (.int .u8 (mx.toNat : Int)) := hS20.cv.c 14
      have k24 : w20.cell? ⟨F, 24, none⟩ = some (.int .u16 0) := hS20.cv.c 24
      have f24 := hS20.cv.fz 24
      have hS30 := hS20.set 24 (.int .u16 (mx.toNat : Int)) ⟨nu, ty, un, nm, ei, en, false, ⟨f, sc, m, b, k1, k2, p⟩, mx, r0, r1, r2, r3, r4, r5, hl, hu, 0, mx.toNat, 0, on, (1 + 2 * (x : Int))⟩ (.slice VA vn vc) rfl
      have hp30 := pown_kept hp20 (set_grown w20 F 24 (.int .u16 (mx.toNat : Int))) hbs.1
      have k25 : (w20.setCell ⟨F, 24, none⟩ (.int .u16 (mx.toNat : Int))).cell? ⟨F, 25, none⟩ = some (.int .u16 0) := hS30.cv.c 25
      have f25 := hS30.cv.fz 25
      have hS31 := hS30.set 25 (.int .u16 (mx.toNat : Int)) ⟨nu, ty, un, nm, ei, en, false, ⟨f, sc, m, b, k1, k2, p⟩, mx, r0, r1, r2, r3, r4, r5, hl, hu, 0, mx.toNat, mx.toNat, on, (1 + 2 * (x : Int))⟩ (.slice VA vn vc) rfl
      have hp31 := pown_kept hp30 (set_grown (w20.setCell ⟨F, 24, none⟩ (.int .u16 (mx.toNat : Int))) F 25 (.int .u16 (mx.toNat : Int))) hbs.1
      clear hS20 hp20 hS30 hp30
      go_wp2_with fail
      generalize (w20.setCell ⟨F, 24, none⟩ (.int .u16 (mx.toNat : Int))).setCell ⟨F, 25, none⟩ (.int .u16 (mx.toNat : Int)) = w31 at *
      clear k14 k24 f24 k25 f25
      refine (hS31.bool 3 (by omega) (by omega)).mono ?_
      rintro e w32 ⟨b33, rfl, hS32, hg32⟩
      have hp32 := pown_kept hp31 hg32 (show g < B by have := hS31.lo; omega)
      clear hS31 hp31 hg32
      cases b33
      · as_aux_lemma =>
        go_wp2_with (first
          | (refine wpList_load_bx rfl (.tmp 5) rfl _ _ _ rfl hS32.cv ?_)
          | (refine wpList_store_bx rfl (.tmp 4) (.tmp 98) rfl w.heap.size ⟨nu, ty, un, nm, ei, en, false, ⟨f, sc, m, b, k1, k2, p⟩, mx, r0, r1, r2, r3, r4, r5, hl, hu, 0, mx.toNat, mx.toNat, on, (1 + 2 * (x : Int))⟩ noSn (.slice VA vn vc) (.slice none 0 0) rfl rfl (one_own hp32) hS32.res ?_; intro w50 hx50 hg50; refine Hid.out ?_))
        refine Lib.hid ?_
        have hd50 := hS32.dz.grown hg50 (fun e => by injection e; omega) (fun k hk => by injection hk; omega)
        have hgr50 := grown_new hS32.gr hg50 (fun b hb => by injection hb; omega)
        have hp50 := pown_base (pown_far hp32 hS32.res hg50) hbs.2
        clear hS32 hg50 hp32
        go_wp2_with fail
        exact send Try.results14 hd50 hx50 hgr50 (HVA.out _ _ _ (inm_self _) (inm_self _)) ⟨by show (0 : Nat) < 65536; omega, by show (mx.toNat : Nat) < 65536; have := andn_lt mx.toNat 0; first | omega | exact andn_lt _ _, by show (mx.toNat : Nat) < 65536; first | omega | exact andn_lt _ _⟩ rfl hp50 rfl rfl
      · as_aux_lemma =>
        go_wp2_with fail
        refine (hS32.next 64 (by omega) (by omega)).mono ?_
        rintro e w33 ⟨y1, hy1, rfl, hS33, hg33⟩
        have hp33 := pown_kept hp32 hg33 (show g < B by have := hS32.lo; omega)
        have k24 : w33.cell? ⟨F, 24, none⟩ = some (.int .u16 (mx.toNat : Int)) := hS33.cv.c 24
        have f24 := hS33.cv.fz 24
        have hb1 := bits_andn mx.toNat y1
        have hS34 := hS33.set 24 (.int .u16 ((andn mx.toNat y1 : Nat) : Int)) ⟨nu, ty, un, nm, ei, en, false, ⟨f, sc, m, b, k1, k2, p⟩, mx, r0, r1, r2, r3, r4, r5, hl, hu, 0, andn mx.toNat y1, mx.toNat, on, (1 + 2 * (x : Int))⟩ (.slice VA vn vc) rfl
        have hp34 := pown_kept hp33 (set_grown w33 F 24 (.int .u16 ((andn mx.toNat y1 : Nat) : Int))) hbs.1
        clear hS32 hp32 hS33 hp33 hg33
        go_wp2_with fail
        generalize w33.setCell ⟨F, 24, none⟩ (.int .u16 ((andn mx.toNat y1 : Nat) : Int)) = w34 at *
        clear k24 f24 hb1
        refine (hS34.next 64 (by omega) (by omega)).mono ?_
        rintro e w35 ⟨y2, hy2, rfl, hS35, hg35⟩
        have hp35 := pown_kept hp34 hg35 (show g < B by have := hS34.lo; omega)
        have k25 : w35.cell? ⟨F, 25, none⟩ = some (.int .u16 (mx.toNat : Int)) := hS35.cv.c 25
        have f25 := hS35.cv.fz 25
        have hb2 := bits_andn mx.toNat y2
        have hS36 := hS35.set 25 (.int .u16 ((andn mx.toNat y2 : Nat) : Int)) ⟨nu, ty, un, nm, ei, en, false, ⟨f, sc, m, b, k1, k2, p⟩, mx, r0, r1, r2, r3, r4, r5, hl, hu, 0, andn mx.toNat y1, andn mx.toNat y2, on, (1 + 2 * (x : Int))⟩ (.slice VA vn vc) rfl
        have hp36 := pown_kept hp35 (set_grown w35 F 25 (.int .u16 ((andn mx.toNat y2 : Nat) : Int))) hbs.1
        clear hS34 hp34 hS35 hp35 hg35
        go_wp2_with (first
          | (refine wpList_load_bx rfl (.tmp 5) rfl _ _ _ rfl hS36.cv ?_)
          | (refine wpList_store_bx rfl (.tmp 4) (.tmp 98) rfl w.heap.size ⟨nu, ty, un, nm, ei, en, false, ⟨f, sc, m, b, k1, k2, p⟩, mx, r0, r1, r2, r3, r4, r5, hl, hu, 0, andn mx.toNat y1, andn mx.toNat y2, on, (1 + 2 * (x : Int))⟩ noSn (.slice VA vn vc) (.slice none 0 0) rfl rfl (one_own hp36) hS36.res ?_; intro w50 hx50 hg50; refine Hid.out ?_))
        refine Lib.hid ?_
        have hd50 := hS36.dz.grown hg50 (fun e => by injection e; omega) (fun k hk => by injection hk; omega)
        have hgr50 := grown_new hS36.gr hg50 (fun b hb => by injection hb; omega)
        have hp50 := pown_base (pown_far hp36 hS36.res hg50) hbs.2
        clear hS36 hg50 hp36
        go_wp2_with fail
        exact send Try.results14 hd50 hx50 hgr50 (HVA.out _ _ _ (inm_andn _ _) (inm_andn _ _)) ⟨by show (0 : Nat) < 65536; omega, by show (andn mx.toNat y1 : Nat) < 65536; have := andn_lt mx.toNat 0; first | omega | exact andn_lt _ _, by show (andn mx.toNat y2 : Nat) < 65536; first | omega | exact andn_lt _ _⟩ rfl hp50 rfl rfl
    · as_aux_lemma =>
      go_wp2_with fail
      refine (hS20.byte).mono ?_
      rintro e w21 ⟨hu2, rfl, hS21, hg21⟩
      have hp21 := pown_kept hp20 hg21 (show g < B by have := hS20.lo; omega)
      have k22 : w21.cell? ⟨F, 22, none⟩ = some (.int .u8 (hu.toNat : Int)) := hS21.cv.c 22
      have f22 := hS21.cv.fz 22
      have hS22 := hS21.set 22 (.int .u8 (hu2.toNat : Int)) ⟨nu, ty, un, nm, ei, en, false, ⟨f, sc, m, b, k1, k2, p⟩, mx, r0, r1, r2, r3, r4, r5, hl, hu2, 0, 0, 0, on, (1 + 2 * (x : Int))⟩ (.slice VA vn vc) rfl
      have hp22 := pown_kept hp21 (set_grown w21 F 22 (.int .u8 (hu2.toNat : Int))) hbs.1
      clear hS20 hp20 hS21 hp21 hg21
      have k14 : (w21.setCell ⟨F, 22, none⟩ (.int .u8 (hu2.toNat : Int))).cell? ⟨F, 14, none⟩ = some (.int .u8 (mx.toNat : Int)) := hS22.cv.c 14
      have k24 : (w21.setCell ⟨F, 22, none⟩ (.int .u8 (hu2.toNat : Int))).cell? ⟨F, 24, none⟩ = some (.int .u16 0) := hS22.cv.c 24
      have f24 := hS22.cv.fz 24
      have hS30 := hS22.set 24 (.int .u16 (mx.toNat : Int)) ⟨nu, ty, un, nm, ei, en, false, ⟨f, sc, m, b, k1, k2, p⟩, mx, r0, r1, r2, r3, r4, r5, hl, hu2, 0, mx.toNat, 0, on, (1 + 2 * (x : Int))⟩ (.slice VA vn vc) rfl
      have hp30 := pown_kept hp22 (set_grown (w21.setCell ⟨F, 22, none⟩ (.int .u8 (hu2.toNat : Int))) F 24 (.int .u16 (mx.toNat : Int))) hbs.1
      have k25 : ((w21.setCell ⟨F, 22, none⟩ (.int .u8 (hu2.toNat : Int))).setCell ⟨F, 24, none⟩ (.int .u16 (mx.toNat : Int))).cell? ⟨F, 25, none⟩ = some (.int .u16 0) := hS30.cv.c 25
      have f25 := hS30.cv.fz 25
      have hS31 := hS30.set 25 (.int .u16 (mx.toNat : Int)) ⟨nu, ty, un, nm, ei, en, false, ⟨f, sc, m, b, k1, k2, p⟩, mx, r0, r1, r2, r3, r4, r5, hl, hu2, 0, mx.toNat, mx.toNat, on, (1 + 2 * (x : Int))⟩ (.slice VA vn vc) rfl
      have hp31 := pown_kept hp30 (set_grown ((w21.setCell ⟨F, 22, none⟩ (.int .u8 (hu2.toNat : Int))).setCell ⟨F, 24, none⟩ (.int .u16 (mx.toNat : Int))) F 25 (.int .u16 (mx.toNat : Int))) hbs.1
      clear hS22 hp22 hS30 hp30
      go_wp2_with fail
      generalize ((w21.setCell ⟨F, 22, none⟩ (.int .u8 (hu2.toNat : Int))).setCell ⟨F, 24, none⟩ (.int .u16 (mx.toNat : Int))).setCell ⟨F, 25, none⟩ (.int .u16 (mx.toNat : Int)) = w31 at *
      clear k14 k24 f24 k25 f25
      refine (hS31.bool 3 (by omega) (by omega)).mono ?_
      rintro e w32 ⟨b33, rfl, hS32, hg32⟩
      have hp32 := pown_kept hp31 hg32 (show g < B by have := hS31.lo; omega)
      clear hS31 hp31 hg32
      cases b33
      · as_aux_lemma =>
        go_wp2_with (first
          | (refine wpList_load_bx rfl (.tmp 5) rfl _ _ _ rfl hS32.cv ?_)
          | (refine wpList_store_bx rfl (.tmp 4) (.tmp 98) rfl w.heap.size ⟨nu, ty, un, nm, ei, en, false, ⟨f, sc, m, b, k1, k2, p⟩, mx, r0, r1, r2, r3, r4, r5, hl, hu2, 0, mx.toNat, mx.toNat, on, (1 + 2 * (x : Int))⟩ noSn (.slice VA vn vc) (.slice none 0 0) rfl rfl (one_own hp32) hS32.res ?_; intro w50 hx50 hg50; refine Hid.out ?_))
        refine Lib.hid ?_
        have hd50 := hS32.dz.grown hg50 (fun e => by injection e; omega) (fun k hk => by injection hk; omega)
        have hgr50 := grown_new hS32.gr hg50 (fun b hb => by injection hb; omega)
        have hp50 := pown_base (pown_far hp32 hS32.res hg50) hbs.2
        clear hS32 hg50 hp32
        go_wp2_with fail
        exact send Try.results14 hd50 hx50 hgr50 (HVA.out _ _ _ (inm_self _) (inm_self _)) ⟨by show (0 : Nat) < 65536; omega, by show (mx.toNat : Nat) < 65536; have := andn_lt mx.toNat 0; first | omega | exact andn_lt _ _, by show (mx.toNat : Nat) < 65536; first | omega | exact andn_lt _ _⟩ rfl hp50 rfl rfl
      · as_aux_lemma =>
        go_wp2_with fail
        refine (hS32.next 64 (by omega) (by omega)).mono ?_
        rintro e w33 ⟨y1, hy1, rfl, hS33, hg33⟩
        have hp33 := pown_kept hp32 hg33 (show g < B by have := hS32.lo; omega)
        have k24 : w33.cell? ⟨F, 24, none⟩ = some (.int .u16 (mx.toNat : Int)) := hS33.cv.c 24
        have f24 := hS33.cv.fz 24
        have hb1 := bits_andn mx.toNat y1
        have hS34 := hS33.set 24 (.int .u16 ((andn mx.toNat y1 : Nat) : Int)) ⟨nu, ty, un, nm, ei, en, false, ⟨f, sc, m, b, k1, k2, p⟩, mx, r0, r1, r2, r3, r4, r5, hl, hu2, 0, andn mx.toNat y1, mx.toNat, on, (1 + 2 * (x : Int))⟩ (.slice VA vn vc) rfl
        have hp34 := pown_kept hp33 (set_grown w33 F 24 (.int .u16 ((andn mx.toNat y1 : Nat) : Int))) hbs.1
        clear hS32 hp32 hS33 hp33 hg33
        go_wp2_with fail
        generalize w33.setCell ⟨F, 24, none⟩ (.int .u16 ((andn mx.toNat y1 : Nat) : Int)) = w34 at *
        clear k24 f24 hb1
        refine (hS34.next 64 (by omega) (by omega)).mono ?_
        rintro e w35 ⟨y2, hy2, rfl, hS35, hg35⟩
        have hp35 := pown_kept hp34 hg35 (show g < B by have := hS34.lo; omega)
        have k25 : w35.cell? ⟨F, 25, none⟩ = some (.int .u16 (mx.toNat : Int)) := hS35.cv.c 25
        have f25 := hS35.cv.fz 25
        have hb2 := bits_andn mx.toNat y2
        have hS36 := hS35.set 25 (.int .u16 ((andn mx.toNat y2 : Nat) : Int)) ⟨nu, ty, un, nm, ei, en, false, ⟨f, sc, m, b, k1, k2, p⟩, mx, r0, r1, r2, r3, r4, r5, hl, hu2, 0, andn mx.toNat y1, andn mx.toNat y2, on, (1 + 2 * (x : Int))⟩ (.slice VA vn vc) rfl
        have hp36 := pown_kept hp35 (set_grown w35 F 25 (.int .u16 ((andn mx.toNat y2 : Nat) : Int))) hbs.1
        clear hS34 hp34 hS35 hp35 hg35
        go_wp2_with (first
          | (refine wpList_load_bx rfl (.tmp 5) rfl _ _ _ rfl hS36.cv ?_)
          | (refine wpList_store_bx rfl (.tmp 4) (.tmp 98) rfl w.heap.size ⟨nu, ty, un, nm, ei, en, false, ⟨f, sc, m, b, k1, k2, p⟩, mx, r0, r1, r2, r3, r4, r5, hl, hu2, 0, andn mx.toNat y1, andn mx.toNat y2, on, (1 + 2 * (x : Int))⟩ noSn (.slice VA vn vc) (.slice none 0 0) rfl rfl (one_own hp36) hS36.res ?_; intro w50 hx50 hg50; refine Hid.out ?_))
        refine Lib.hid ?_
        have hd50 := hS36.dz.grown hg50 (fun e => by injection e; omega) (fun k hk => by injection hk; omega)
        have hgr50 := grown_new hS36.gr hg50 (fun b hb => by injection hb; omega)
        have hp50 := pown_base (pown_far hp36 hS36.res hg50) hbs.2
        clear hS36 hg50 hp36
        go_wp2_with fail
        exact send Try.results14 hd50 hx50 hgr50 (HVA.out _ _ _ (inm_andn _ _) (inm_andn _ _)) ⟨by show (0 : Nat) < 65536; omega, by show (andn mx.toNat y1 : Nat) < 65536; have := andn_lt mx.toNat 0; first | omega | exact andn_lt _ _, by show (andn mx.toNat y2 : Nat) < 65536; first | omega | exact andn_lt _ _⟩ rfl hp50 rfl rfl
  · as_aux_lemma =>
    have k6 : w9.cell? ⟨F, 6, none⟩ = some (.bool false) := hS9.cv.c 6
    have f6 := hS9.cv.fz 6
    have hS10 := hS9.set 6 (.bool true) ⟨nu, ty, un, nm, ei, en, true, C4p.noCv, 0, 0, 0, 0, 0, 0, 0, 0, 0, 0, 0, 0, on, 1⟩ (.slice none 0 0) rfl
    go_wp2_with fail
    generalize w9.setCell ⟨F, 6, none⟩ (.bool true) = w10 at *
    refine (hS10.next 32768 (by omega) (by omega)).mono ?_
    rintro e w11 ⟨st, hst, rfl, hS11, -⟩
    have k23 : w11.cell? ⟨F, 23, none⟩ = some (.int .u16 0) := hS11.cv.c 23
    have f23 := hS11.cv.fz 23
    have hS12 := hS11.set 23 (.int .u16 (st : Int)) ⟨nu, ty, un, nm, ei, en, true, C4p.noCv, 0, 0, 0, 0, 0, 0, 0, 0, 0, st, 0, 0, on, 1⟩ (.slice none 0 0) rfl
    clear k6 f6 hS9 hS10 hS11
    go_wp2_with fail
    generalize w11.setCell ⟨F, 23, none⟩ (.int .u16 (st : Int)) = w12 at *
    clear k23 f23
    have HV := hS12.drew
    have HN4 : Hid (∀ V, Ss w V g n c A l w.heap.size F ⟨nu, ty, un, nm, ei, en, true, C4p.noCv, 0, 0, 0, 0, 0, 0, 0, 0, 0, st, 0, 0, on, 1⟩ (.slice none 0 0) → Calls Try.prog 16 #[.pointer (some ⟨g, 0, none⟩), .int .i64 4] V fun e w' => ∃ q : Nat, q < 4 ∧ e = .returned (.int .i64 (q : Int)) ∧ Ss w w' g n c A l w.heap.size F ⟨nu, ty, un, nm, ei, en, true, C4p.noCv, 0, 0, 0, 0, 0, 0, 0, 0, 0, st, 0, 0, on, 1⟩ (.slice none 0 0) ∧ V.grownBy w' (some g)) := Lib.hid fun V hV => hV.next 4 (by omega) (by omega)
    go_region_held3 (fun V => V.cell? ⟨F, 23, none⟩ = some (.int .u16 (st : Int))) (first | exact HV.cv.c 23 | exact HK.out _)
      (first
        | (go_at_call 16; (with_reducible refine (HN4.out _ HV).mono ?_); rintro e w13 ⟨x, hx, rfl, HV, -⟩; have k24 : w13.cell? ⟨F, 24, none⟩ = some (.int .u16 0) := HV.cv.c 24; have f24 := HV.cv.fz 24; have HK : Hid (∀ v, (w13.setCell ⟨F, 24, none⟩ v).cell? ⟨F, 23, none⟩ = some (.int .u16 (st : Int))) := Lib.hid fun v => (World.cell?_setCell_other w13 _ _ v (by simp)).trans (HV.cv.c 23)))
    have hav : bits .andNot .u16 (st : Int) (IntKind.u16.wrap (x : Int)) = ((andn st x : Nat) : Int) := by rw [IntWalk.u16_in _ ⟨by omega, by omega⟩, bits_andn]
    have hS14 := HV.set 24 (.int .u16 ((andn st x : Nat) : Int)) ⟨nu, ty, un, nm, ei, en, true, C4p.noCv, 0, 0, 0, 0, 0, 0, 0, 0, 0, st, andn st x, 0, on, 1⟩ (.slice none 0 0) rfl
    have hva := Lib.hid (inm_andn st x)
    have hal := Lib.hid (andn_lt st x)
    rw [← hav] at hS14
    generalize hW14 : w13.setCell ⟨F, 24, none⟩ (.int .u16 (bits .andNot .u16 (st : Int) (IntKind.u16.wrap (x : Int)))) = w14 at *
    generalize andn st x = av at *
    clear hav HV HN4 HK k24 f24 hS12 hW14
    refine Hid.out ?_
    refine Lib.hid ?_
    go_wp2_with fail
    have HV := hS14.drew
    have HN4 : Hid (∀ V, Ss w V g n c A l w.heap.size F ⟨nu, ty, un, nm, ei, en, true, C4p.noCv, 0, 0, 0, 0, 0, 0, 0, 0, 0, st, av, 0, on, 1⟩ (.slice none 0 0) → Calls Try.prog 16 #[.pointer (some ⟨g, 0, none⟩), .int .i64 4] V fun e w' => ∃ q : Nat, q < 4 ∧ e = .returned (.int .i64 (q : Int)) ∧ Ss w w' g n c A l w.heap.size F ⟨nu, ty, un, nm, ei, en, true, C4p.noCv, 0, 0, 0, 0, 0, 0, 0, 0, 0, st, av, 0, on, 1⟩ (.slice none 0 0) ∧ V.grownBy w' (some g)) := Lib.hid fun V hV => hV.next 4 (by omega) (by omega)
    have HN3 : Hid (∀ V, Ss w V g n c A l w.heap.size F ⟨nu, ty, un, nm, ei, en, true, C4p.noCv, 0, 0, 0, 0, 0, 0, 0, 0, 0, st, av, 0, on, 1⟩ (.slice none 0 0) → Calls Try.prog 16 #[.pointer (some ⟨g, 0, none⟩), .int .i64 300] V fun e w' => ∃ q : Nat, q < 300 ∧ e = .returned (.int .i64 (q : Int)) ∧ Ss w w' g n c A l w.heap.size F ⟨nu, ty, un, nm, ei, en, true, C4p.noCv, 0, 0, 0, 0, 0, 0, 0, 0, 0, st, av, 0, on, 1⟩ (.slice none 0 0) ∧ V.grownBy w' (some g)) := Lib.hid fun V hV => hV.next 300 (by omega) (by omega)
    go_region_held3 (fun V => V.cell? ⟨F, 23, none⟩ = some (.int .u16 (st : Int))) (first | exact HV.cv.c 23 | exact HK.out _)
      (first
        | (go_at_call 16; (with_reducible refine (HN4.out _ HV).mono ?_); rintro e w15 ⟨x1, hx1, rfl, HV, -⟩)
        | (go_at_call 16; (with_reducible refine (HN3.out _ HV).mono ?_); rintro e w16 ⟨x2, hx2, rfl, HV, -⟩; have k25 : w16.cell? ⟨F, 25, none⟩ = some (.int .u16 0) := HV.cv.c 25; have f25 := HV.cv.fz 25; have HK : Hid (∀ v, (w16.setCell ⟨F, 25, none⟩ v).cell? ⟨F, 23, none⟩ = some (.int .u16 (st : Int))) := Lib.hid fun v => (World.cell?_setCell_other w16 _ _ v (by simp)).trans (HV.cv.c 23)))
    obtain ⟨y, hy⟩ : ∃ y, y = x1 * x2 := ⟨_, rfl⟩
    have hy2 : y < 1200 := by
      rw [hy]
      have := Nat.mul_le_mul (show x1 ≤ 3 by omega) (show x2 ≤ 299 by omega)
      omega
    have hdv : bits .andNot .u16 (st : Int) (IntKind.u16.wrap (IntKind.i64.wrap ((x1 : Int) * (x2 : Int)))) = ((andn st y : Nat) : Int) := by
      rw [show (x1 : Int) * (x2 : Int) = (y : Int) by rw [hy]; push_cast; rfl, IntWalk.i64_in _ (by omega), IntWalk.u16_in _ ⟨by omega, by omega⟩, bits_andn]
    have hS17 := HV.set 25 (.int .u16 ((andn st y : Nat) : Int)) ⟨nu, ty, un, nm, ei, en, true, C4p.noCv, 0, 0, 0, 0, 0, 0, 0, 0, 0, st, av, andn st y, on, 1⟩ (.slice none 0 0) rfl
    have hvd := inm_andn st y
    have hdl := andn_lt st y
    rw [← hdv] at hS17
    generalize hW17 : w16.setCell ⟨F, 25, none⟩ (.int .u16 (bits .andNot .u16 (st : Int) (IntKind.u16.wrap (IntKind.i64.wrap ((x1 : Int) * (x2 : Int)))))) = w17 at *
    generalize andn st y = dv at *
    have hvs := vs_dig (nu := nu) (ty := ty) (un := un) (ei := ei) (en := en) (nm := nm) (st := st) (av := av) (dv := dv) (on := on) HOK.out (by omega) hva.out hvd
    have hfit : Sn.Fit ⟨nu, ty, un, nm, ei, en, true, C4p.noCv, 0, 0, 0, 0, 0, 0, 0, 0, 0, st, av, dv, on, 1⟩ := ⟨by show st < 65536; omega, hal.out, hdl⟩
    have HVS := Lib.hid hvs
    have HFIT := Lib.hid hfit
    clear hdv HV HN4 HN3 HK k25 f25 hS14 hW17 hvd hdl hy hy2 hvs hfit
    refine Hid.out ?_
    refine Lib.hid ?_
    go_wp2_with (first
      | (refine wpList_load_bx rfl (.tmp 5) rfl _ _ _ rfl hS17.cv ?_)
      | (refine wpList_store_bx rfl (.tmp 4) (.tmp 48) rfl w.heap.size ⟨nu, ty, un, nm, ei, en, true, C4p.noCv, 0, 0, 0, 0, 0, 0, 0, 0, 0, st, av, dv, on, 1⟩ noSn (.slice none 0 0) (.slice none 0 0) rfl rfl rfl hS17.res ?_; intro w18 hx18 hg18; refine Hid.out ?_))
    refine Lib.hid ?_
    have hd18 := hS17.dz.grown hg18 (fun e => by injection e; omega) (fun k hk => by injection hk; omega)
    have hgr18 := grown_new hS17.gr hg18 (fun b hb => by injection hb; omega)
    clear hS17 hg18
    go_wp2_with fail
    exact send Try.results14 hd18 hx18 hgr18 HVS.out HFIT.out rfl POwn.nil rfl rfl
end Go.Proofs.Ytekhpcfggbegaaa.Tl
