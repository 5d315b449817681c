/- Walks: what the statements about flash devices call: the sanity check, the same numbers, the made device, scripts that are played, two devices equal. -/
import Derived.Test.YtekhpcfggbegaaaE5d
namespace Go.Proofs.Ytekhpcfggbegaaa.E5d
open Go.RowKit Go.Proofs.Ytekhpcfggbegaaa.Mem Go.Proofs.Ytekhpcfggbegaaa.E5p Go.Proofs.Ytekhpcfggbegaaa.E5m Go.Proofs.Ytekhpcfggbegaaa.E5a Go.Proofs.Ytekhpcfggbegaaa.Made Go.Proofs.Ytekhpcfggbegaaa.Same
set_option maxRecDepth 100000
set_option maxHeartbeats 400000

/-- A device in a world that has kept what lay below block B in W. -/
structure At (B : Nat) (W w : World) (d : Sh) (s : Fl) (m : Nat) : Prop where
  dev : PDev B w d s
  ok : s.Ok m
  low : Below B W w
section
variable {B : Nat} {W w : World} {d : Sh} {s : Fl} {m : Nat}
theorem At.base (h : At B W w d s m) : B ≤ w.heap.size := Nat.le_of_lt (Nat.lt_of_le_of_lt h.dev.low h.dev.lg)
/-- A call on the device returned an error. -/
def Err (B : Nat) (W w : World) (d : Sh) (r : Fl × Int) (m : Nat) (e : Ending) (w' : World) : Prop := e = .returned (.int .i64 r.2) ∧ At B W w' d r.1 m ∧ Kept d w w'
def Ret (B : Nat) (W w : World) (d : Sh) (s : Fl) (m : Nat) (e : Ending) (w' : World) : Prop := e = .returned (.tuple #[]) ∧ At B W w' d s m ∧ Kept d w w'
theorem At.program (h : At B W w d s m) (hm : m ≤ 900000) (A : Option Addr) (n c : Nat) (b : List UInt8) (hb : Sl w A n c b) (hB : Off d A b) (k : Int) (hk1 : -9223372036854775808 ≤ k) (hk2 : k ≤ 9223372036854775807) (hn : n ≤ 100000) :
    Calls Try.prog 149 #[.pointer (some ⟨d.g, 0, none⟩), .int .i64 k, .slice A n c] w (Err B W w d (s.program k b) (m + n)) :=
  (program_p h.dev h.ok hm A n c b hb hB k hk1 hk2 hn).mono fun _ _ ⟨h1, h2, h3⟩ => ⟨h1, ⟨h2, by have := Fl.program_ok h.ok k b; rwa [← hb.len] at this, h3.below h.low h.dev⟩, h3⟩
theorem At.erase (h : At B W w d s m) (hm : m ≤ 900000) (k : Int) (hk1 : -9223372036854775808 ≤ k) (hk2 : k ≤ 9223372036854775807) :
    Calls Try.prog 192 #[.pointer (some ⟨d.g, 0, none⟩), .int .i64 k] w (Err B W w d (s.erase k) (m + 1)) :=
  (erase_p h.dev h.ok hm k hk1 hk2).mono fun _ _ ⟨h1, h2, h3⟩ => ⟨h1, ⟨h2, Fl.erase_ok h.ok k, h3.below h.low h.dev⟩, h3⟩
theorem At.step (h : At B W w d s m) {w' : World} (hb : Below w.heap.size w w') : At B W w' d s m := ⟨h.dev.below hb (Nat.le_refl _), h.ok, h.low.trans (hb.mono h.base)⟩
theorem At.kept (h : At B W w d s m) {w' : World} {e : Sh} {s' : Fl} {m' : Nat} (k : Kept e w w') (ap : Apart e d) (h' : At B W w' e s' m') : At B W w' d s m := ⟨h.dev.kept k ap, h.ok, h'.low⟩
theorem below_drew {B : Nat} {a w : World} (h : Below B a w) : Below B a w.drew := ⟨h.os, h.tape, h.output, h.size, h.block⟩
theorem At.drew (h : At B W w d s m) : At B W w.drew d s m := ⟨⟨h.dev.head, h.dev.bytes, h.dev.wear, h.dev.low, h.dev.n1, h.dev.n2, h.dev.n3⟩, h.ok, below_drew h.low⟩
theorem At.drewN (h : At B W w d s m) (n : Nat) : At B W (w.drewN n) d s m := ⟨h.dev.drewN n, h.ok, below_drewN h.low⟩
/-- A row of the call's own, of known length, elsewhere. -/
theorem own_stays {base g n c : Nat} {w' : World} {l : List UInt8} (h : Own base w (.slice (some ⟨g, 0, none⟩) n c) l) (hn : l.length = n) (hg : w'.heap[g]? = w.heap[g]?) : Own base w' (.slice (some ⟨g, 0, none⟩) n c) l := by
  have h' : w.ownsRow base 5 1 (.slice (some ⟨g, 0, none⟩) n c) n (bvs l) := by
    have := h
    unfold Own at this
    rwa [hn] at this
  have := row_stays h' hg
  unfold Own
  rwa [hn]
theorem own_lt {base g n c : Nat} {l : List UInt8} (h : Own base w (.slice (some ⟨g, 0, none⟩) n c) l) (hn : l.length = n) : base ≤ g ∧ g < w.heap.size := by
  have h' : w.ownsRow base 5 1 (.slice (some ⟨g, 0, none⟩) n c) n (bvs l) := by
    have := h
    unfold Own at this
    rwa [hn] at this
  exact row_lt h'
/-- Two parts of a row. -/
theorem sl_cut {g n : Nat} {l : List UInt8} (h : Sl w (some ⟨g, 0, none⟩) n n l) {k : Nat} (hk : k < n) : Sl w (some ⟨g, k, none⟩) (n - k) (n - k) (l.drop k) := by
  have hr := row_cut (cap := n) h.row (by have := h.len; omega : k ≤ l.length) (by have := h.len; omega)
  rw [if_neg (by omega), Option.map_some, add_spot] at hr
  exact ⟨by have := h.len; simp; omega, hr, Nat.le_refl _, by have := h.max; omega, fun hh => by cases hh⟩
theorem sl_front {A : Option Addr} {n c : Nat} {l : List UInt8} (h : Sl w A n c l) {k : Nat} (hk : k ≤ n) : Sl w A k c (l.take k) :=
  ⟨by have := h.len; simp; omega, row_take h.row k, by have := h.cap; omega, h.max, h.nil⟩
/-- What reading leaves. -/
def Gets (B : Nat) (W w : World) (d : Sh) (s : Fl) (m : Nat) (r : List UInt8 × Int) (e : Ending) (w' : World) : Prop := ∃ A n c, e = .returned (.tuple #[.slice A n c, .int .i64 r.2]) ∧ Own w.heap.size w' (.slice A n c) r.1 ∧ Sl w' A n c r.1 ∧ Below w.heap.size w w' ∧ At B W w' d s m
theorem At.read (h : At B W w d s m) (k n : Int) (hk1 : -9223372036854775808 ≤ k) (hk2 : k ≤ 9223372036854775807) (hn1 : -9223372036854775808 ≤ n) (hn2 : n ≤ 9223372036854775807) :
    Calls Try.prog 110 #[.pointer (some ⟨d.g, 0, none⟩), .int .i64 k, .int .i64 n] w (Gets B W w d s m (s.read k n)) :=
  (read_p h.dev h.ok k n hk1 hk2 hn1 hn2).mono fun _ _ ⟨v, h1, h2, h3⟩ => by
    obtain ⟨A, n', c, rfl, hs⟩ := Sl.of_own h2
    exact ⟨A, n', c, h1, h2, hs, h3, h.step h3⟩
theorem At.new (a b : Nat) (h1 : 1 ≤ a) (h2 : a ≤ 16) (h3 : 64 ≤ b) (h4 : b ≤ 1024) (B : Nat) (W w : World) (hb : Below B W w) (hB : B ≤ w.heap.size) :
    Calls Try.prog 78 #[.int .i64 (a : Int), .int .i64 (b : Int)] w fun e w' => ∃ d, e = .returned (.tuple #[.pointer (some ⟨d.g, 0, none⟩), .int .i64 0]) ∧ At B W w' d (Fl.new a b) 0 ∧ Below w.heap.size w w' ∧ PDev w.heap.size w' d (Fl.new a b) :=
  (new_p a b h1 h2 h3 h4 w).mono fun _ _ ⟨d, e1, e2, e3⟩ => ⟨d, e1, ⟨e2.base_ hB, Fl.new_ok a b h1 h2 h3 h4, hb.trans (e3.mono hB)⟩, e3, e2⟩
end
def f0 : Fl := Fl.new 2 64
def f1 : Fl := f0.arm 3 255
def f2 : Fl := (f1.program 0 [1, 2, 3, 4]).1
def f3 : Fl := f2.restore
theorem f2_err : (f1.program 0 [1, 2, 3, 4]).2 = 10 := by decide
theorem f3_read : f3.read 0 4 = ([1, 2, 255, 255], 0) := by decide
theorem f3_steps : f3.steps = 3 := by decide
theorem make128 : ∃ M : Array Value, M.toList = bvs (List.replicate 128 0) ∧ ∀ u : World,
    (Instr.makeSlice 33 (.int .i64 128) (.int .i64 128)).run Try.prog u = .ok (.slice (some ⟨u.heap.size, 0, none⟩) 128 128) (u.alloc (.cells M 5)) := make_b 128 (by omega)
/-- What 'made' leaves: a device whose bytes are b, and b itself. -/
def MadeDev (W w : World) (e : Ending) (w' : World) : Prop := ∃ (d : Sh) (b : List UInt8) (g : Nat), b.length = 128 ∧ e = .returned (.tuple #[.pointer (some ⟨d.g, 0, none⟩), .slice (some ⟨g, 0, none⟩) 128 128, .bool true]) ∧
  At w.heap.size W w' d (Fl.full b) 128 ∧ Own w.heap.size w' (.slice (some ⟨g, 0, none⟩) 128 128) b ∧ w.heap.size ≤ g ∧ g ≠ d.g ∧ g ≠ d.gb ∧ g ≠ d.gw
end Go.Proofs.Ytekhpcfggbegaaa.E5d
