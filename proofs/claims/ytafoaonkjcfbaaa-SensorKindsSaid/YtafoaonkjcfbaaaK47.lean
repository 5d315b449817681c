/- Walks: the program's thresholds: what is reached, severity; the example of layer 12. Walks: the sanity check of layer 12. -/
import Derived.Test.YtafoaonkjcfbaaaK46
import Derived.Deep.RegionHeld3
namespace Go.Proofs.Ytafoaonkjcfbaaa.Ya
open Go.RowKit Go.Proofs.Ytafoaonkjcfbaaa.Mem Go.Proofs.Ytafoaonkjcfbaaa.F2p Go.Proofs.Ytafoaonkjcfbaaa.C4l Go.Proofs.Ytafoaonkjcfbaaa.Ta Go.Proofs.Ytafoaonkjcfbaaa.Tb
set_option maxRecDepth 100000
set_option maxHeartbeats 1000000

/-- What Reached answers. -/
def ReachedOut (s : Sn) (raw : UInt8) (w0 : World) (e : Ending) (w' : World) : Prop :=
  Below w0.heap.size w0 w' ∧
  if (vs s && !s.d) = false then e = .returned (.tuple #[.int .u8 0, .int .i64 1])
  else e = .returned (.tuple #[.int .u8 (wth s (C4p.num s.c.s raw) 0 0 : Nat), .int .i64 0])
/-- How bad a state is. -/
def sev (x : Nat) : Int := if x &&& 36 ≠ 0 then 3 else if x &&& 18 ≠ 0 then 2 else if x &&& 9 ≠ 0 then 1 else 0
def snX : Sn := { noSn with nm := ⟨#[116]⟩, sm := 1, c := ⟨1, false, 1, 0, 0, 0, []⟩, mx := 24, r3 := 80, r4 := 90, hu := 2 }
theorem out_bx1 {p : Tmp} {a : Act} {w : World} {r : Nat} {s : Sn} {V : Value} {Q : Ending → World → Prop} {fn : Func} (hr : fn.results = #[.cell p 59]) (hp : a.tmps.getD p undef = .pointer (some ⟨r, 0, none⟩)) (hd : a.defers = []) (hb : Bx w r s V) (h : Q (.returned (.agg (cells s V))) w) :
    bodyPost Try.prog fn Q .ret a w := by
  refine bodyPost_ret ?_ hd h
  have hp' : a.tmps[p]?.getD undef = .pointer (some ⟨r, 0, none⟩) := by simpa using hp
  simp [results, hr, hp', asAddr, run_loadVar_row w r _ _ _ _ _ hb Try.underlying59 rfl (by kernel_rfl)]
end Go.Proofs.Ytafoaonkjcfbaaa.Ya
namespace Go.Proofs.Ytafoaonkjcfbaaa.Ya
open Go.RowKit Go.Proofs.Ytafoaonkjcfbaaa.Mem Go.Proofs.Ytafoaonkjcfbaaa.F2p Go.Proofs.Ytafoaonkjcfbaaa.C4l Go.Proofs.Ytafoaonkjcfbaaa.Ta Go.Proofs.Ytafoaonkjcfbaaa.Tb
set_option maxRecDepth 100000
set_option maxHeartbeats 1000000

theorem ex_valid : (vs snX && !snX.d) = true := by decide +kernel
theorem ex_step (st : Nat) (raw : UInt8) (nx : Nat) (hst : st < 256) (h1 : andn8 st snX.mx.toNat = 0) (h2 : nxt snX (C4p.num false raw) st = nx) (w : World) :
    Calls Try.prog 48 #[.agg (cells snX (.slice none 0 0)), .int .u8 (st : Int), .int .u8 (raw.toNat : Int)] w fun e w' => (∃ v, e = .returned (.tuple #[.int .u8 (nx : Int), v, .int .i64 0])) ∧ Below w.heap.size w w' := by
  refine (step_q snX none 0 0 st hst raw w PSl.none (show (1 : Nat) ≤ maxLen by unfold maxLen; omega)).mono ?_
  rintro e w' ⟨hb, h⟩
  rw [if_neg (by rw [ex_valid]; simp), if_neg (by simpa using h1)] at h
  obtain ⟨v, he, -⟩ := h
  refine ⟨⟨v, ?_⟩, hb⟩
  rw [← h2]; exact he
theorem ex_steps (w : World) : Calls Try.prog 48 #[.agg (cells snX (.slice none 0 0)), .int .u8 0, .int .u8 85] w (fun e w' => (∃ v, e = .returned (.tuple #[.int .u8 8, v, .int .i64 0])) ∧ Below w.heap.size w w') ∧
    Calls Try.prog 48 #[.agg (cells snX (.slice none 0 0)), .int .u8 8, .int .u8 95] w (fun e w' => (∃ v, e = .returned (.tuple #[.int .u8 24, v, .int .i64 0])) ∧ Below w.heap.size w w') ∧
    Calls Try.prog 48 #[.agg (cells snX (.slice none 0 0)), .int .u8 24, .int .u8 89] w (fun e w' => (∃ v, e = .returned (.tuple #[.int .u8 24, v, .int .i64 0])) ∧ Below w.heap.size w w') ∧
    Calls Try.prog 48 #[.agg (cells snX (.slice none 0 0)), .int .u8 24, .int .u8 88] w (fun e w' => (∃ v, e = .returned (.tuple #[.int .u8 24, v, .int .i64 0])) ∧ Below w.heap.size w w') ∧
    Calls Try.prog 48 #[.agg (cells snX (.slice none 0 0)), .int .u8 24, .int .u8 87] w (fun e w' => (∃ v, e = .returned (.tuple #[.int .u8 8, v, .int .i64 0])) ∧ Below w.heap.size w w') :=
  ⟨ex_step 0 85 8 (by omega) (by decide +kernel) (by decide +kernel) w,
   ex_step 8 95 24 (by omega) (by decide +kernel) (by decide +kernel) w,
   ex_step 24 89 24 (by omega) (by decide +kernel) (by decide +kernel) w,
   ex_step 24 88 24 (by omega) (by decide +kernel) (by decide +kernel) w,
   ex_step 24 87 8 (by omega) (by decide +kernel) (by decide +kernel) w⟩
end Go.Proofs.Ytafoaonkjcfbaaa.Ya
