/- Walks: the dice's discrete record. Walks: the dice's analog record. -/
import Derived.Test.YtekhpcfggbegaaaS51
namespace Go.Proofs.Ytekhpcfggbegaaa.Tl
open Go.RowKit Go.Proofs.Ytekhpcfggbegaaa.Mem Go.Proofs.Ytekhpcfggbegaaa.F2p Go.Proofs.Ytekhpcfggbegaaa.Made Go.Proofs.Ytekhpcfggbegaaa.C4l Go.Proofs.Ytekhpcfggbegaaa.D5 Go.Proofs.Ytekhpcfggbegaaa.Ta Go.Proofs.Ytekhpcfggbegaaa.Tb
set_option maxRecDepth 100000
set_option maxHeartbeats 1000000

/-- What the dice's Analog and Digital leave. -/
def SndD (d : Bool) (w : World) (g n c : Nat) (A : Option Addr) (l : List Int) (nu : UInt8) (e : Ending) (w' : World) : Prop :=
  ∃ (s : Sn) (V : Value), e = .returned (.agg (cells s V)) ∧ vs s = true ∧ s.Fit ∧ s.nu = nu ∧ s.d = d ∧ POwn w.heap.size w' V s.c.p ∧ Dz w' g A n c l ∧ w.grownBy w' (some g)
theorem sendD {w0 w : World} {g n c r : Nat} {A : Option Addr} {l : List Int} {s : Sn} {V : Value} {a : Act} {nu : UInt8} {d : Bool} {p : Tmp} {fn : Func}
    (hf : fn.results = #[.cell p 32]) (hd0 : Dz w g A n c l) (hr : Bx w r s V) (hg0 : w0.grownBy w (some g)) (hv : vs s = true) (hfit : s.Fit) (hnu : s.nu = nu) (hdd : s.d = d) (ho : POwn w0.heap.size w V s.c.p) (ht : a.tmps.getD p undef = .pointer (some ⟨r, 0, none⟩)) (hd : a.defers = []) :
    bodyPost Try.prog fn (SndD d w0 g n c A l nu) .ret a w :=
  bodyPost_ret (results_cell_row hf _ _ r _ _ _ _ ht hr Try.underlying32 rfl (by kernel_rfl)) hd ⟨s, V, rfl, hv, hfit, hnu, hdd, ho, hd0, hg0⟩
end Go.Proofs.Ytekhpcfggbegaaa.Tl
namespace Go.Proofs.Ytekhpcfggbegaaa.Tl
open Go.RowKit Go.Proofs.Ytekhpcfggbegaaa.Mem Go.Proofs.Ytekhpcfggbegaaa.F2p Go.Proofs.Ytekhpcfggbegaaa.Made Go.Proofs.Ytekhpcfggbegaaa.C4l Go.Proofs.Ytekhpcfggbegaaa.D5 Go.Proofs.Ytekhpcfggbegaaa.Ta Go.Proofs.Ytekhpcfggbegaaa.Tb
set_option maxRecDepth 100000
set_option maxHeartbeats 1000000

theorem vs_last (nu : UInt8) : vs ⟨nu, 1, 0, ⟨#[120]⟩, 0, 0, false, ⟨1, false, 1, 0, 0, 0, []⟩, 63, 30, 20, 10, 200, 210, 220, 2, 3, 0, 63, 63, false, 1⟩ = true := by
  rw [show vs ⟨nu, 1, 0, ⟨#[120]⟩, 0, 0, false, ⟨1, false, 1, 0, 0, 0, []⟩, 63, 30, 20, 10, 200, 210, 220, 2, 3, 0, 63, 63, false, 1⟩ = vs ⟨0, 1, 0, ⟨#[120]⟩, 0, 0, false, ⟨1, false, 1, 0, 0, 0, []⟩, 63, 30, 20, 10, 200, 210, 220, 2, 3, 0, 63, 63, false, 1⟩ from rfl]
  decide +kernel
theorem analog_any {w : World} {g n c : Nat} {A : Option Addr} {l : List Int} (nu : UInt8) (h : Dz w g A n c l) :
    Calls Try.prog 25 #[.pointer (some ⟨g, 0, none⟩), .int .u8 (nu.toNat : Int)] w (SndD false w g n c A l nu) := by
  have hlt := h.lt
  have hal0 := World.grownBy_alloc w (.cells #[.int .u8 0, .int .u8 0, .int .u8 0, .string ⟨#[]⟩, .int .u8 0, .int .u8 0, .bool false, .int .i64 0, .bool false, .int .i64 0, .int .i64 0, .int .i64 0, .int .i64 0, .slice none 0 0, .int .u8 0, .int .u8 0, .int .u8 0, .int .u8 0, .int .u8 0, .int .u8 0, .int .u8 0, .int .u8 0, .int .u8 0, .int .u16 0, .int .u16 0, .int .u16 0, .bool false, .int .i64 0] 32) (some g)
  have hd0 := h.grown (World.grownBy_alloc w (.cells #[.int .u8 0, .int .u8 0, .int .u8 0, .string ⟨#[]⟩, .int .u8 0, .int .u8 0, .bool false, .int .i64 0, .bool false, .int .i64 0, .int .i64 0, .int .i64 0, .int .i64 0, .slice none 0 0, .int .u8 0, .int .u8 0, .int .u8 0, .int .u8 0, .int .u8 0, .int .u8 0, .int .u8 0, .int .u8 0, .int .u8 0, .int .u16 0, .int .u16 0, .int .u16 0, .bool false, .int .i64 0] 32) none) (by simp) (fun k hk => by cases hk)
  have hst0 := Bx.zero w
  have HSN := Lib.hid fun (u : World) (hu : Dz u g A n c l) => sensor_any nu hu
  have HL := Lib.hid (vs_last nu)
  clear h
  go_enter Try.func25, Try.ntmps25
  go_wp2_with fail
  generalize w.alloc (.cells #[.int .u8 0, .int .u8 0, .int .u8 0, .string ⟨#[]⟩, .int .u8 0, .int .u8 0, .bool false, .int .i64 0, .bool false, .int .i64 0, .int .i64 0, .int .i64 0, .int .i64 0, .slice none 0 0, .int .u8 0, .int .u8 0, .int .u8 0, .int .u8 0, .int .u8 0, .int .u8 0, .int .u8 0, .int .u8 0, .int .u8 0, .int .u16 0, .int .u16 0, .int .u16 0, .bool false, .int .i64 0] 32) = w1 at *
  go_loopw [5, 6] (fun i _ wr => ∃ k : Nat, k ≤ 3 ∧ i = .int .i64 k ∧ Dz wr g A n c l ∧ Bx wr w.heap.size noSn (.slice none 0 0) ∧ w.grownBy wr (some g)) (fun i _ _ => 3 - (intOf i).toNat)
  case atStart => exact ⟨0, Nat.zero_le _, rfl, hd0, hst0, hal0⟩
  case round =>
    obtain ⟨k, hk, rfl, hdk, hbk, hgk⟩ := hrel
    clear hd0 hst0 hal0
    have hsz := hgk.size
    by_cases hlt3 : k < 3
    · go_wp2_with fail
      refine (HSN.out _ hdk).mono ?_
      rintro e w2 ⟨s, V, rfl, hv, hfit, hnu, hown, hd2, hg2⟩
      obtain ⟨VA, vn, vc, rfl, -⟩ := hown.sl
      have hsz2 := hg2.size
      have hb2 := hbk.kept hg2 (fun e => by injection e; omega)
      have hgw2 := grown_trans hgk hg2
      have hz2 := Bx.zero w2
      have hd3 := hd2.grown (World.grownBy_alloc w2 (.cells #[.int .u8 0, .int .u8 0, .int .u8 0, .string ⟨#[]⟩, .int .u8 0, .int .u8 0, .bool false, .int .i64 0, .bool false, .int .i64 0, .int .i64 0, .int .i64 0, .int .i64 0, .slice none 0 0, .int .u8 0, .int .u8 0, .int .u8 0, .int .u8 0, .int .u8 0, .int .u8 0, .int .u8 0, .int .u8 0, .int .u8 0, .int .u16 0, .int .u16 0, .int .u16 0, .bool false, .int .i64 0] 32) none) (by simp) (fun k hk => by cases hk)
      have hb3 := hb2.alloc (.cells #[.int .u8 0, .int .u8 0, .int .u8 0, .string ⟨#[]⟩, .int .u8 0, .int .u8 0, .bool false, .int .i64 0, .bool false, .int .i64 0, .int .i64 0, .int .i64 0, .int .i64 0, .slice none 0 0, .int .u8 0, .int .u8 0, .int .u8 0, .int .u8 0, .int .u8 0, .int .u8 0, .int .u8 0, .int .u8 0, .int .u8 0, .int .u16 0, .int .u16 0, .int .u16 0, .bool false, .int .i64 0] 32)
      have hg3 := grown_trans hgw2 (World.grownBy_alloc w2 (.cells #[.int .u8 0, .int .u8 0, .int .u8 0, .string ⟨#[]⟩, .int .u8 0, .int .u8 0, .bool false, .int .i64 0, .bool false, .int .i64 0, .int .i64 0, .int .i64 0, .int .i64 0, .slice none 0 0, .int .u8 0, .int .u8 0, .int .u8 0, .int .u8 0, .int .u8 0, .int .u8 0, .int .u8 0, .int .u8 0, .int .u8 0, .int .u16 0, .int .u16 0, .int .u16 0, .bool false, .int .i64 0] 32) (some g))
      have hF := hb2.lt
      have hown3 := pown_kept hown (World.grownBy_alloc w2 (.cells #[.int .u8 0, .int .u8 0, .int .u8 0, .string ⟨#[]⟩, .int .u8 0, .int .u8 0, .bool false, .int .i64 0, .bool false, .int .i64 0, .int .i64 0, .int .i64 0, .int .i64 0, .slice none 0 0, .int .u8 0, .int .u8 0, .int .u8 0, .int .u8 0, .int .u8 0, .int .u8 0, .int .u8 0, .int .u8 0, .int .u8 0, .int .u16 0, .int .u16 0, .int .u16 0, .bool false, .int .i64 0] 32) (some g)) (by omega)
      clear hdk hbk hgk hd2 hb2 hgw2 hown hg2
      go_wp2_with (refine wpList_store_bx rfl (.tmp 6) (.tmp 13) rfl w2.heap.size s noSn (.slice VA vn vc) (.slice none 0 0) rfl rfl rfl hz2 ?_; intro w4 hx4 hg4; refine Hid.out ?_)
      refine Lib.hid ?_
      have hd4 := hd3.grown hg4 (fun e => by injection e; omega) (fun k hk => by injection hk; omega)
      have hb4 := hb3.kept hg4 (fun e => by injection e; omega)
      have hgr4 := grown_new hg3 hg4 (fun b hb => by injection hb; omega)
      have hown4 := pown_far hown3 hz2 hg4
      clear hz2 hd3 hb3 hg3 hg4 hown3
      generalize w2.heap.size = F at *
      have k6 : w4.cell? ⟨F, 6, none⟩ = some (.bool s.d) := hx4.c 6
      obtain ⟨d, hd⟩ : ∃ d, d = s.d := ⟨_, rfl⟩
      rw [← hd] at k6
      have HX4 := Lib.hid hx4
      have HB4 := Lib.hid hb4
      have HDD := Lib.hid hd
      clear hx4 hb4 hd
      cases d
      · go_wp2_with (refine wpList_load_bx rfl (.tmp 6) rfl F _ _ rfl HX4.out ?_; refine Hid.out ?_)
        refine Lib.hid ?_
        have hb4 := HB4.out
        go_wp2_with (refine wpList_store_bx rfl (.tmp 4) (.tmp 17) rfl w.heap.size s noSn (.slice VA vn vc) (.slice none 0 0) rfl rfl rfl hb4 ?_; intro w5 hx5 hg5; refine Hid.out ?_)
        refine Lib.hid ?_
        have hd5 := hd4.grown hg5 (fun e => by injection e; omega) (fun k hk => by injection hk; omega)
        have hgr5 := grown_new hgr4 hg5 (fun b hb => by injection hb; omega)
        have hown5 := pown_base (pown_far hown4 hb4 hg5) (by omega)
        clear hd4 hb4 HB4 HX4 k6 hg5 hgr4 hown4
        go_wp2_with fail
        exact sendD Try.results25 hd5 hx5 hgr5 hv hfit hnu HDD.out.symm hown5 rfl rfl
      · go_wp2_with fail
        exact ⟨⟨k + 1, by omega, by go_num, hd4, HB4.out, hgr4⟩, by simp [intOf]; omega⟩
    · go_wp2_with (refine wpList_store_bx rfl (.tmp 4) (.tmp 22) rfl w.heap.size ⟨nu, 1, 0, ⟨#[120]⟩, 0, 0, false, ⟨1, false, 1, 0, 0, 0, []⟩, 63, 30, 20, 10, 200, 210, 220, 2, 3, 0, 63, 63, false, 1⟩ noSn (.slice none 0 0) (.slice none 0 0) rfl rfl rfl hbk ?_; intro w5 hx5 hg5; refine Hid.out ?_)
      refine Lib.hid ?_
      have hd5 := hdk.grown hg5 (fun e => by injection e; omega) (fun k hk => by injection hk; omega)
      have hgr5 := grown_new hgk hg5 (fun b hb => by injection hb; omega)
      clear hdk hbk hg5 hgk
      go_wp2_with fail
      exact sendD Try.results25 hd5 hx5 hgr5 HL.out ⟨by show (0 : Nat) < 65536; omega, by show (63 : Nat) < 65536; omega, by show (63 : Nat) < 65536; omega⟩ rfl rfl POwn.nil rfl rfl
end Go.Proofs.Ytekhpcfggbegaaa.Tl
