/- Walks: the dice's discrete record. -/
import Derived.Test.YtafoaonkjcfbaaaK28
namespace Go.Proofs.Ytafoaonkjcfbaaa.Tl
open Go.RowKit Go.Proofs.Ytafoaonkjcfbaaa.Mem Go.Proofs.Ytafoaonkjcfbaaa.F2p Go.Proofs.Ytafoaonkjcfbaaa.Made Go.Proofs.Ytafoaonkjcfbaaa.C4l Go.Proofs.Ytafoaonkjcfbaaa.D5 Go.Proofs.Ytafoaonkjcfbaaa.Ta Go.Proofs.Ytafoaonkjcfbaaa.Tb
set_option maxRecDepth 100000
set_option maxHeartbeats 1000000

/-- What the dice's Analog and Digital leave. -/
def SndD (d : Bool) (w : World) (g n c : Nat) (A : Option Addr) (l : List Int) (nu : UInt8) (e : Ending) (w' : World) : Prop :=
  ∃ (s : Sn) (V : Value), e = .returned (.agg (cells s V)) ∧ vs s = true ∧ s.Fit ∧ s.nu = nu ∧ s.d = d ∧ POwn w.heap.size w' V s.c.p ∧ Dz w' g A n c l ∧ w.grownBy w' (some g)
theorem sendD {w0 w : World} {g n c r : Nat} {A : Option Addr} {l : List Int} {s : Sn} {V : Value} {a : Act} {nu : UInt8} {d : Bool} {p : Tmp} {fn : Func}
    (hf : fn.results = #[.cell p 59]) (hd0 : Dz w g A n c l) (hr : Bx w r s V) (hg0 : w0.grownBy w (some g)) (hv : vs s = true) (hfit : s.Fit) (hnu : s.nu = nu) (hdd : s.d = d) (ho : POwn w0.heap.size w V s.c.p) (ht : a.tmps.getD p undef = .pointer (some ⟨r, 0, none⟩)) (hd : a.defers = []) :
    bodyPost Try.prog fn (SndD d w0 g n c A l nu) .ret a w :=
  bodyPost_ret (results_cell_row hf _ _ r _ _ _ _ ht hr Try.underlying59 rfl (by kernel_rfl)) hd ⟨s, V, rfl, hv, hfit, hnu, hdd, ho, hd0, hg0⟩
theorem digital_any {w : World} {g n c : Nat} {A : Option Addr} {l : List Int} (nu : UInt8) (h : Dz w g A n c l) :
    Calls Try.prog 41 #[.pointer (some ⟨g, 0, none⟩), .int .u8 (nu.toNat : Int)] w (SndD true w g n c A l nu) := by
  have hlt := h.lt
  have hal0 := World.grownBy_alloc w (.cells #[.int .u8 0, .int .u8 0, .int .u8 0, .string ⟨#[]⟩, .int .u8 0, .int .u8 0, .bool false, .int .i64 0, .bool false, .int .i64 0, .int .i64 0, .int .i64 0, .int .i64 0, .slice none 0 0, .int .u8 0, .int .u8 0, .int .u8 0, .int .u8 0, .int .u8 0, .int .u8 0, .int .u8 0, .int .u8 0, .int .u8 0, .int .u16 0, .int .u16 0, .int .u16 0, .bool false, .int .i64 0] 59) (some g)
  have hd0 := h.grown (World.grownBy_alloc w (.cells #[.int .u8 0, .int .u8 0, .int .u8 0, .string ⟨#[]⟩, .int .u8 0, .int .u8 0, .bool false, .int .i64 0, .bool false, .int .i64 0, .int .i64 0, .int .i64 0, .int .i64 0, .slice none 0 0, .int .u8 0, .int .u8 0, .int .u8 0, .int .u8 0, .int .u8 0, .int .u8 0, .int .u8 0, .int .u8 0, .int .u8 0, .int .u16 0, .int .u16 0, .int .u16 0, .bool false, .int .i64 0] 59) none) (by simp) (fun k hk => by cases hk)
  have hst0 := Bx.zero w
  clear h
  go_enter Try.func41, Try.ntmps41
  go_wp2_with fail
  generalize w.alloc (.cells #[.int .u8 0, .int .u8 0, .int .u8 0, .string ⟨#[]⟩, .int .u8 0, .int .u8 0, .bool false, .int .i64 0, .bool false, .int .i64 0, .int .i64 0, .int .i64 0, .int .i64 0, .slice none 0 0, .int .u8 0, .int .u8 0, .int .u8 0, .int .u8 0, .int .u8 0, .int .u8 0, .int .u8 0, .int .u8 0, .int .u8 0, .int .u16 0, .int .u16 0, .int .u16 0, .bool false, .int .i64 0] 59) = w1 at *
  refine (hd0.next 4 (by omega) (by omega)).mono ?_
  rintro e w2 ⟨q1, hq1, rfl, hd2, hg2⟩
  have hst2 := hst0.kept hg2 (fun e => by injection e; omega)
  have hgw2 := grown_trans hal0 hg2
  clear hd0 hal0 hst0 hg2
  go_wp2_with fail
  refine (entity_any hd2).mono ?_
  rintro e w3 ⟨ei, en, rfl, hd3, hg3⟩
  have hst3 := hst2.kept hg3 (fun e => by injection e; omega)
  have hgw3 := grown_trans hgw2 hg3
  clear hd2 hgw2 hst2 hg3
  go_wp2_with fail
  refine (hd3.next 32768 (by omega) (by omega)).mono ?_
  rintro e w4 ⟨st, hst, rfl, hd4, hg4⟩
  have hst4 := hst3.kept hg4 (fun e => by injection e; omega)
  have hgw4 := grown_trans hgw3 hg4
  clear hd3 hgw3 hst3 hg4
  go_wp2_with fail
  refine (hd4.bool 4 (by omega) (by omega)).mono ?_
  rintro e w7 ⟨on, rfl, hd7, hg7⟩
  have hst7 := hst4.kept hg7 (fun e => by injection e; omega)
  have hgw7 := grown_trans hgw4 hg7
  clear hgw4 hst4 hg7 hd4
  obtain ⟨ty, hty⟩ := u8_int (1 + q1) (by omega)
  have hty2 : (1 + (q1 : Int)) = (ty.toNat : Int) := by rw [← hty]; push_cast; rfl
  have HTY := Lib.hid hty2
  have hz7 := Bx.zero w7
  have hd8 := hd7.grown (World.grownBy_alloc w7 (.cells #[.int .u8 0, .int .u8 0, .int .u8 0, .string ⟨#[]⟩, .int .u8 0, .int .u8 0, .bool false, .int .i64 0, .bool false, .int .i64 0, .int .i64 0, .int .i64 0, .int .i64 0, .slice none 0 0, .int .u8 0, .int .u8 0, .int .u8 0, .int .u8 0, .int .u8 0, .int .u8 0, .int .u8 0, .int .u8 0, .int .u8 0, .int .u16 0, .int .u16 0, .int .u16 0, .bool false, .int .i64 0] 59) none) (by simp) (fun k hk => by cases hk)
  have hr8 := hst7.alloc (.cells #[.int .u8 0, .int .u8 0, .int .u8 0, .string ⟨#[]⟩, .int .u8 0, .int .u8 0, .bool false, .int .i64 0, .bool false, .int .i64 0, .int .i64 0, .int .i64 0, .int .i64 0, .slice none 0 0, .int .u8 0, .int .u8 0, .int .u8 0, .int .u8 0, .int .u8 0, .int .u8 0, .int .u8 0, .int .u8 0, .int .u8 0, .int .u16 0, .int .u16 0, .int .u16 0, .bool false, .int .i64 0] 59)
  have hg8 := grown_trans hgw7 (World.grownBy_alloc w7 (.cells #[.int .u8 0, .int .u8 0, .int .u8 0, .string ⟨#[]⟩, .int .u8 0, .int .u8 0, .bool false, .int .i64 0, .bool false, .int .i64 0, .int .i64 0, .int .i64 0, .int .i64 0, .slice none 0 0, .int .u8 0, .int .u8 0, .int .u8 0, .int .u8 0, .int .u8 0, .int .u8 0, .int .u8 0, .int .u8 0, .int .u8 0, .int .u16 0, .int .u16 0, .int .u16 0, .bool false, .int .i64 0] 59) (some g))
  have hF := hst7.lt
  clear hty hty2 hd7 hst7 hgw7
  go_wp2_with (refine wpList_store_bx rfl (.tmp 5) (.tmp 18) rfl w7.heap.size ⟨nu, ty, 0, ⟨#[115, 116, 97, 116, 101]⟩, ei, en, true, C4p.noCv, 0, 0, 0, 0, 0, 0, 0, 0, 0, st, 0, 0, on, 1⟩ noSn (.slice none 0 0) (.slice none 0 0) rfl (by show Value.agg #[.int .u8 (nu.toNat : Int), .int .u8 (1 + (q1 : Int)), .int .u8 0, .string ⟨#[115, 116, 97, 116, 101]⟩, .int .u8 (ei.toNat : Int), .int .u8 (en.toNat : Int), .bool true, .int .i64 0, .bool false, .int .i64 0, .int .i64 0, .int .i64 0, .int .i64 0, .slice none 0 0, .int .u8 0, .int .u8 0, .int .u8 0, .int .u8 0, .int .u8 0, .int .u8 0, .int .u8 0, .int .u8 0, .int .u8 0, .int .u16 (st : Int), .int .u16 0, .int .u16 0, .bool on, .int .i64 1] = _; rw [HTY.out]; rfl) rfl hz7 ?_; intro w8 hx8 hgr8; refine Hid.out ?_)
  refine Lib.hid ?_
  have hS : Ss w w8 g n c A l w.heap.size w7.heap.size ⟨nu, ty, 0, ⟨#[115, 116, 97, 116, 101]⟩, ei, en, true, C4p.noCv, 0, 0, 0, 0, 0, 0, 0, 0, 0, st, 0, 0, on, 1⟩ (.slice none 0 0) :=
    ⟨hd8.grown hgr8 (fun e => by injection e; omega) (fun k hk => by injection hk; omega), hr8.kept hgr8 (fun e => by injection e; omega), hx8, grown_new hg8 hgr8 (fun b hb => by injection hb; omega), Nat.le_refl _, hF, hlt⟩
  clear hz7 hd8 hr8 hg8 hx8 hgr8 hF hq1 HTY
  generalize w7.heap.size = F at *
  have k23 : w8.cell? ⟨F, 23, none⟩ = some (.int .u16 (st : Int)) := hS.cv.c 23
  have k24 : w8.cell? ⟨F, 24, none⟩ = some (.int .u16 0) := hS.cv.c 24
  have f24 := hS.cv.fz 24
  have hS1 := hS.set 24 (.int .u16 (st : Int)) ⟨nu, ty, 0, ⟨#[115, 116, 97, 116, 101]⟩, ei, en, true, C4p.noCv, 0, 0, 0, 0, 0, 0, 0, 0, 0, st, st, 0, on, 1⟩ (.slice none 0 0) rfl
  have m23 : (w8.setCell ⟨F, 24, none⟩ (.int .u16 (st : Int))).cell? ⟨F, 23, none⟩ = some (.int .u16 (st : Int)) := hS1.cv.c 23
  have k25 : (w8.setCell ⟨F, 24, none⟩ (.int .u16 (st : Int))).cell? ⟨F, 25, none⟩ = some (.int .u16 0) := hS1.cv.c 25
  have f25 := hS1.cv.fz 25
  have hS2 := hS1.set 25 (.int .u16 (st : Int)) ⟨nu, ty, 0, ⟨#[115, 116, 97, 116, 101]⟩, ei, en, true, C4p.noCv, 0, 0, 0, 0, 0, 0, 0, 0, 0, st, st, st, on, 1⟩ (.slice none 0 0) rfl
  have HS2 := Lib.hid hS2
  have hvs := vs_dig (nu := nu) (ty := ty) (un := 0) (ei := ei) (en := en) (nm := ⟨#[115, 116, 97, 116, 101]⟩) (st := st) (av := st) (dv := st) (on := on) (by decide +kernel) (by omega) (inm_self st) (inm_self st)
  have HVS := Lib.hid hvs
  have HFIT : Hid (Sn.Fit ⟨nu, ty, 0, ⟨#[115, 116, 97, 116, 101]⟩, ei, en, true, C4p.noCv, 0, 0, 0, 0, 0, 0, 0, 0, 0, st, st, st, on, 1⟩) := Lib.hid ⟨by show st < 65536; omega, by show st < 65536; omega, by show st < 65536; omega⟩
  clear hS hS1 hS2 hvs
  go_wp2_with (refine wpList_load_bx rfl (.tmp 5) rfl F _ _ rfl HS2.out.cv ?_; refine Hid.out ?_)
  refine Lib.hid ?_
  have hS2 := HS2.out
  clear HS2
  generalize (w8.setCell ⟨F, 24, none⟩ (.int .u16 (st : Int))).setCell ⟨F, 25, none⟩ (.int .u16 (st : Int)) = w9 at *
  clear k23 k24 f24 m23 k25 f25
  go_wp2_with (refine wpList_store_bx rfl (.tmp 4) (.tmp 25) rfl w.heap.size ⟨nu, ty, 0, ⟨#[115, 116, 97, 116, 101]⟩, ei, en, true, C4p.noCv, 0, 0, 0, 0, 0, 0, 0, 0, 0, st, st, st, on, 1⟩ noSn (.slice none 0 0) (.slice none 0 0) rfl rfl rfl hS2.res ?_; intro w18 hx18 hg18; refine Hid.out ?_)
  refine Lib.hid ?_
  have hd18 := hS2.dz.grown hg18 (fun e => by injection e; omega) (fun k hk => by injection hk; omega)
  have hgr18 := grown_new hS2.gr hg18 (fun b hb => by injection hb; omega)
  clear hS2 hg18
  go_wp2_with fail
  exact sendD Try.results41 hd18 hx18 hgr18 HVS.out HFIT.out rfl rfl POwn.nil rfl rfl
end Go.Proofs.Ytafoaonkjcfbaaa.Tl
