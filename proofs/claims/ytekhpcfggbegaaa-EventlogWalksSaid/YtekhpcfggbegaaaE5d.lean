/- Walks: what the statements about flash devices call: scripts, the sanity check, offsets. -/
import Derived.Test.YtekhpcfggbegaaaE5c
import Derived.Test.YtekhpcfggbegaaaMade
import Derived.Test.YtekhpcfggbegaaaSame
namespace Go.Proofs.Ytekhpcfggbegaaa.E5d
open Go.RowKit Go.Proofs.Ytekhpcfggbegaaa.Mem Go.Proofs.Ytekhpcfggbegaaa.E5p Go.Proofs.Ytekhpcfggbegaaa.E5m Go.Proofs.Ytekhpcfggbegaaa.E5a Go.Proofs.Ytekhpcfggbegaaa.Made Go.Proofs.Ytekhpcfggbegaaa.Same
set_option maxRecDepth 100000
set_option maxHeartbeats 400000

/-- One thing that a device is told. -/
structure Do1 where
  kind : Int
  a : Int
  b : Int
  torn : UInt8
  A : Option Addr
  n : Nat
  c : Nat
  data : List UInt8
structure DoIn (B : Nat) (w : World) (p : Addr) (x : Do1) : Prop where
  k1 : -9223372036854775808 ≤ x.kind
  k2 : x.kind ≤ 9223372036854775807
  a1 : -9223372036854775808 ≤ x.a
  a2 : x.a ≤ 9223372036854775807
  b1 : -9223372036854775808 ≤ x.b
  b2 : x.b ≤ 9223372036854775807
  len : x.n = x.data.length
  cap : x.n ≤ x.c
  max : x.c ≤ maxLen
  nil : x.A = none → x.c = 0
  row : Row B w x.A x.data
  c0 : w.cell? p = some (.int .i64 x.kind)
  c1 : w.cell? ⟨p.block, p.off + 1, none⟩ = some (.int .i64 x.a)
  c2 : w.cell? ⟨p.block, p.off + 2, none⟩ = some (.int .i64 x.b)
  c3 : w.cell? ⟨p.block, p.off + 3, none⟩ = some (.int .u8 (x.torn.toNat : Int))
  c4 : w.cell? ⟨p.block, p.off + 4, none⟩ = some (.slice x.A x.n x.c)
/-- A script in memory below block B. -/
structure Scr (B : Nat) (w : World) (A : Option Addr) (n c : Nat) (l : List Do1) : Prop where
  len : n = l.length
  cap : n ≤ c
  max : c ≤ maxLen
  nil : A = none → c = 0
  each : ∀ k (h : k < l.length), ∃ a, A = some a ∧ a.block < B ∧ DoIn B w (a.add (k * 5)) l[k]
theorem DoIn.below {B : Nat} {w w' : World} {p : Addr} {x : Do1} (h : DoIn B w p x) (hb : Below B w w') (hp : p.block < B) : DoIn B w' p x := by
  have hc : ∀ i, w'.cell? ⟨p.block, p.off + i, none⟩ = w.cell? ⟨p.block, p.off + i, none⟩ := fun i => hb.cell hp
  exact ⟨h.k1, h.k2, h.a1, h.a2, h.b1, h.b2, h.len, h.cap, h.max, h.nil, h.row.below hb, (hb.cell hp).trans h.c0, (hc 1).trans h.c1, (hc 2).trans h.c2, (hc 3).trans h.c3, (hc 4).trans h.c4⟩
theorem Scr.below {B : Nat} {w w' : World} {A : Option Addr} {n c : Nat} {l : List Do1} (h : Scr B w A n c l) (hb : Below B w w') : Scr B w' A n c l :=
  ⟨h.len, h.cap, h.max, h.nil, fun k hk => by
    obtain ⟨a, e, h1, h2⟩ := h.each k hk
    exact ⟨a, e, h1, h2.below hb (by rw [add_block]; exact h1)⟩⟩
theorem DoIn.sl {B : Nat} {w : World} {p : Addr} {x : Do1} (h : DoIn B w p x) (hB : B ≤ w.heap.size) : Sl w x.A x.n x.c x.data := ⟨h.len, h.row.more hB, h.cap, h.max, h.nil⟩
def lightB (l : List Do1) : Bool := decide (l.length ≤ 60) && l.all fun x => decide (x.data.length ≤ 200)
theorem light_yes {l : List Do1} (h : lightB l = true) : l.length ≤ 60 ∧ ∀ x ∈ l, x.data.length ≤ 200 := by
  simpa [lightB] using h
/-- Where an offset is brought. -/
def nearI (k : Int) (n : Nat) : Int := if k.tmod 9 = 8 then k else k % ((n + 3 : Nat) : Int) - 1
theorem nearI_bd (k : Int) (n : Nat) (h1 : -9223372036854775808 ≤ k) (h2 : k ≤ 9223372036854775807) (hn : n ≤ 1000000) : -9223372036854775808 ≤ nearI k n ∧ nearI k n ≤ 9223372036854775807 := by
  unfold nearI
  split
  · exact ⟨h1, h2⟩
  · have e0 : 0 ≤ k % ((n + 3 : Nat) : Int) := Int.emod_nonneg _ (by omega)
    have e1 : k % ((n + 3 : Nat) : Int) < ((n + 3 : Nat) : Int) := Int.emod_lt_of_pos _ (by omega)
    omega
end Go.Proofs.Ytekhpcfggbegaaa.E5d
