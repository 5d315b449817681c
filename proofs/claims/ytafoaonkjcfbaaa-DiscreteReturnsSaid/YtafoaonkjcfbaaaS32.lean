/- Walks: the dice's entities; bits of masks; the mathematics of the dice's thresholds. Walks: the program's thresholds: what is reached, severity; the example of layer 12. Walks: the sanity check of layer 12. -/
import Derived.Test.YtafoaonkjcfbaaaS23
import Derived.Test.YtafoaonkjcfbaaaS31
import Derived.Test.YtafoaonkjcfbaaaS25
import Derived.Deep.RegionHeld3
namespace Go.Proofs.Ytafoaonkjcfbaaa.Tl
open Go.RowKit Go.Proofs.Ytafoaonkjcfbaaa.Mem Go.Proofs.Ytafoaonkjcfbaaa.F2p Go.Proofs.Ytafoaonkjcfbaaa.Made Go.Proofs.Ytafoaonkjcfbaaa.C4l Go.Proofs.Ytafoaonkjcfbaaa.D5 Go.Proofs.Ytafoaonkjcfbaaa.Ta Go.Proofs.Ytafoaonkjcfbaaa.Tb
set_option maxRecDepth 100000
set_option maxHeartbeats 1000000

theorem has_r (m i : Nat) (hm : m < 65536) (hi : i ≤ 16) (w : World) : Calls Try.prog 82 #[.int .u16 (m : Int), .int .i64 (i : Int)] w fun e w' => e = .returned (.bool (has m i)) ∧ w = w' := by
  have h2 : (m : Int) / 2 ^ i % 2 = ((m / 2 ^ i % 2 : Nat) : Int) := by rw [Int.natCast_emod, Int.natCast_ediv, Int.natCast_pow]; rfl
  have hl : m / 2 ^ i ≤ m := Nat.div_le_self _ _
  have h3 : (m : Int) / 2 ^ i = ((m / 2 ^ i : Nat) : Int) := by rw [Int.natCast_ediv, Int.natCast_pow]; rfl
  unfold has
  rw [h3] at h2
  generalize m / 2 ^ i = q at *
  have hq : q < 65536 := by omega
  generalize q % 2 = R at *
  clear hl
  go_enter Try.func82, Try.ntmps82
  go_wp2_with fail
  go_ret
  exact ⟨ret_bool (by rw [Bool.eq_iff_iff]; simp; try omega), rfl⟩
/-- What the dice's Entity leaves. -/
def Ent (w : World) (g n c : Nat) (A : Option Addr) (l : List Int) (e : Ending) (w' : World) : Prop := ∃ x y : UInt8, e = .returned (.agg #[.int .u8 (x.toNat : Int), .int .u8 (y.toNat : Int)]) ∧ Dz w' g A n c l ∧ w.grownBy w' (some g)
theorem u8_int (q : Nat) (h : q < 256) : ∃ x : UInt8, (q : Int) = (x.toNat : Int) := ⟨UInt8.ofNat q, by rw [UInt8.toNat_ofNat', Nat.mod_eq_of_lt h]⟩
theorem entity_any {w : World} {g n c : Nat} {A : Option Addr} {l : List Int} (h : Dz w g A n c l) :
    Calls Try.prog 58 #[.pointer (some ⟨g, 0, none⟩)] w (Ent w g n c A l) := by
  have hlt := h.lt
  have hal0 := World.grownBy_alloc w (.cells #[.int .u8 0, .int .u8 0] 51) (some g)
  have hd0 := h.grown (World.grownBy_alloc w (.cells #[.int .u8 0, .int .u8 0] 51) none) (by simp) (fun k hk => by cases hk)
  have hst0 : (w.alloc (.cells #[.int .u8 0, .int .u8 0] 51)).heap[w.heap.size]? = some (.cells #[.int .u8 0, .int .u8 0] 51 (0, 0)) := heap_alloc_new w _
  clear h
  go_enter Try.func58, Try.ntmps58
  go_wp2_with fail
  refine (hd0.next 4 (by omega) (by omega)).mono ?_
  rintro e w2 ⟨q, hq, rfl, hd2, hg2⟩
  have hst2 := (hg2.block w.heap.size (lt_of_some hst0) (fun e => by injection e; omega)).trans hst0
  have hgw2 := grown_trans hal0 hg2
  clear hd0 hal0 hst0 hg2
  go_wp2_with fail
  refine (hd2.next 2 (by omega) (by omega)).mono ?_
  rintro e w3 ⟨q2, hq2, rfl, hd3, hg3⟩
  have hst3 := (hg3.block w.heap.size (lt_of_some hst2) (fun e => by injection e; omega)).trans hst2
  have hgw3 := grown_trans hgw2 hg3
  have f0 : w3.frozen? ⟨w.heap.size, 0, none⟩ = false := frozen_of_row w3 _ 0 _ _ hst3
  have f1 : w3.frozen? ⟨w.heap.size, 1, none⟩ = false := frozen_of_row w3 _ 1 _ _ hst3
  have c0 : w3.cell? ⟨w.heap.size, 0, none⟩ = some (.int .u8 0) := cell_of_row w3 _ 0 _ _ _ hst3
  have c1 : w3.cell? ⟨w.heap.size, 1, none⟩ = some (.int .u8 0) := cell_of_row w3 _ 1 _ _ _ hst3
  obtain ⟨x, hx⟩ := u8_int (1 + q) (by omega)
  obtain ⟨y, hy⟩ := u8_int q2 (by omega)
  have G1 := set_grown w3 w.heap.size 0 (.int .u8 (1 + (q : Int)))
  have B1 := heap_setCell_same w3 w.heap.size 0 _ _ (.int .u8 (1 + (q : Int))) hst3
  have G2 := set_grown (w3.setCell ⟨w.heap.size, 0, none⟩ (.int .u8 (1 + (q : Int)))) w.heap.size 1 (.int .u8 (q2 : Int))
  have B2 := heap_setCell_same (w3.setCell ⟨w.heap.size, 0, none⟩ (.int .u8 (1 + (q : Int)))) w.heap.size 1 _ _ (.int .u8 (q2 : Int)) B1
  have hd5 := hd3.grown (grown_trans G1 G2) (fun e => by injection e; omega) (fun k hk => by injection hk; omega)
  have hg5 := grown_new (grown_new hgw3 G1 (fun b hb => by injection hb; omega)) G2 (fun b hb => by injection hb; omega)
  have P := Lib.hid (And.intro hd5 (And.intro hg5 B2))
  have HX := Lib.hid hx
  have HY := Lib.hid hy
  clear hd2 hst2 hgw2 hg3 hd3 hgw3 hst3 G1 B1 G2 B2 hd5 hg5 hx hy
  go_wp2_with fail
  refine bodyPost_ret (results_cell_row Try.results58 _ _ w.heap.size _ _ _ _ rfl P.out.2.2 Try.underlying51 rfl (by kernel_rfl)) rfl ⟨x, y, ?_, P.out.1, P.out.2.1⟩
  rw [← HX.out, ← HY.out]; push_cast; rfl
end Go.Proofs.Ytafoaonkjcfbaaa.Tl
namespace Go.Proofs.Ytafoaonkjcfbaaa.Ya
open Go.RowKit Go.Proofs.Ytafoaonkjcfbaaa.Mem Go.Proofs.Ytafoaonkjcfbaaa.F2p Go.Proofs.Ytafoaonkjcfbaaa.C4l Go.Proofs.Ytafoaonkjcfbaaa.Ta Go.Proofs.Ytafoaonkjcfbaaa.Tb
set_option maxRecDepth 100000
set_option maxHeartbeats 1000000

/-- What Reached answers. -/
def ReachedOut (s : Sn) (raw : UInt8) (w0 : World) (e : Ending) (w' : World) : Prop :=
  Below w0.heap.size w0 w' ∧
  if (vs s && !s.d) = false then e = .returned (.tuple #[.int .u8 0, .int .i64 1])
  else e = .returned (.tuple #[.int .u8 (wth s (C4p.num s.c.s raw) 0 0 : Nat), .int .i64 0])
/-- How bad a state is. -/
def sev (x : Nat) : Int := if x &&& 36 ≠ 0 then 3 else if x &&& 18 ≠ 0 then 2 else if x &&& 9 ≠ 0 then 1 else 0
def snX : Sn := { noSn with nm := ⟨#[116]⟩, sm := 1, c := ⟨1, false, 1, 0, 0, 0, []⟩, mx := 24, r3 := 80, r4 := 90, hu := 2 }
theorem out_bx1 {p : Tmp} {a : Act} {w : World} {r : Nat} {s : Sn} {V : Value} {Q : Ending → World → Prop} {fn : Func} (hr : fn.results = #[.cell p 59]) (hp : a.tmps.getD p undef = .pointer (some ⟨r, 0, none⟩)) (hd : a.defers = []) (hb : Bx w r s V) (h : Q (.returned (.agg (cells s V))) w) :
    bodyPost Try.prog fn Q .ret a w := by
  refine bodyPost_ret ?_ hd h
  have hp' : a.tmps[p]?.getD undef = .pointer (some ⟨r, 0, none⟩) := by simpa using hp
  simp [results, hr, hp', asAddr, run_loadVar_row w r _ _ _ _ _ hb Try.underlying59 rfl (by kernel_rfl)]
end Go.Proofs.Ytafoaonkjcfbaaa.Ya
namespace Go.Proofs.Ytafoaonkjcfbaaa.Ya
open Go.RowKit Go.Proofs.Ytafoaonkjcfbaaa.Mem Go.Proofs.Ytafoaonkjcfbaaa.F2p Go.Proofs.Ytafoaonkjcfbaaa.C4l Go.Proofs.Ytafoaonkjcfbaaa.Ta Go.Proofs.Ytafoaonkjcfbaaa.Tb
set_option maxRecDepth 100000
set_option maxHeartbeats 1000000

theorem ex_valid : (vs snX && !snX.d) = true := by decide +kernel
theorem ex_step (st : Nat) (raw : UInt8) (nx : Nat) (hst : st < 256) (h1 : andn8 st snX.mx.toNat = 0) (h2 : nxt snX (C4p.num false raw) st = nx) (w : World) :
    Calls Try.prog 48 #[.agg (cells snX (.slice none 0 0)), .int .u8 (st : Int), .int .u8 (raw.toNat : Int)] w fun e w' => (∃ v, e = .returned (.tuple #[.int .u8 (nx : Int), v, .int .i64 0])) ∧ Below w.heap.size w w' := by
  refine (step_q snX none 0 0 st hst raw w PSl.none (show (1 : Nat) ≤ maxLen by unfold maxLen; omega)).mono ?_
  rintro e w' ⟨hb, h⟩
  rw [if_neg (by rw [ex_valid]; simp), if_neg (by simpa using h1)] at h
  obtain ⟨v, he, -⟩ := h
  refine ⟨⟨v, ?_⟩, hb⟩
  rw [← h2]; exact he
theorem ex_steps (w : World) : Calls Try.prog 48 #[.agg (cells snX (.slice none 0 0)), .int .u8 0, .int .u8 85] w (fun e w' => (∃ v, e = .returned (.tuple #[.int .u8 8, v, .int .i64 0])) ∧ Below w.heap.size w w') ∧
    Calls Try.prog 48 #[.agg (cells snX (.slice none 0 0)), .int .u8 8, .int .u8 95] w (fun e w' => (∃ v, e = .returned (.tuple #[.int .u8 24, v, .int .i64 0])) ∧ Below w.heap.size w w') ∧
    Calls Try.prog 48 #[.agg (cells snX (.slice none 0 0)), .int .u8 24, .int .u8 89] w (fun e w' => (∃ v, e = .returned (.tuple #[.int .u8 24, v, .int .i64 0])) ∧ Below w.heap.size w w') ∧
    Calls Try.prog 48 #[.agg (cells snX (.slice none 0 0)), .int .u8 24, .int .u8 88] w (fun e w' => (∃ v, e = .returned (.tuple #[.int .u8 24, v, .int .i64 0])) ∧ Below w.heap.size w w') ∧
    Calls Try.prog 48 #[.agg (cells snX (.slice none 0 0)), .int .u8 24, .int .u8 87] w (fun e w' => (∃ v, e = .returned (.tuple #[.int .u8 8, v, .int .i64 0])) ∧ Below w.heap.size w w') :=
  ⟨ex_step 0 85 8 (by omega) (by decide +kernel) (by decide +kernel) w,
   ex_step 8 95 24 (by omega) (by decide +kernel) (by decide +kernel) w,
   ex_step 24 89 24 (by omega) (by decide +kernel) (by decide +kernel) w,
   ex_step 24 88 24 (by omega) (by decide +kernel) (by decide +kernel) w,
   ex_step 24 87 8 (by omega) (by decide +kernel) (by decide +kernel) w⟩
end Go.Proofs.Ytafoaonkjcfbaaa.Ya
