/- Plain mathematics of sensor records: which ones are valid, their bytes. -/
import Derived.Test.YtekhpcfggbegaaaS07
import Derived.Test.YtekhpcfggbegaaaS08
namespace Go.Proofs.Ytekhpcfggbegaaa.Ta
open Go.Proofs.Ytekhpcfggbegaaa.F2p
set_option maxRecDepth 100000

structure Sn where
  (nu ty un : UInt8) (nm : ByteArray) (ei en : UInt8) (d : Bool) (c : C4p.Cv) (mx r0 r1 r2 r3 r4 r5 hl hu : UInt8) (st av dv : Nat) (on : Bool) (sm : Int)
def Sn.raw (s : Sn) : List UInt8 := [s.r0, s.r1, s.r2, s.r3, s.r4, s.r5]
structure Sn.Fit (s : Sn) : Prop where
  st : s.st < 65536
  av : s.av < 65536
  dv : s.dv < 65536
def noSn : Sn := ⟨0, 0, 0, ⟨#[]⟩, 0, 0, false, C4p.noCv, 0, 0, 0, 0, 0, 0, 0, 0, 0, 0, 0, 0, false, 0⟩
/-- A mask has bit i. -/
def has (mx i : Nat) : Bool := decide (mx / 2 ^ i % 2 = 1)
/-- A number y may stand at the index j behind x at the lower index i. -/
def fol (i j : Nat) (x y : Int) : Bool := if j ≤ 2 then decide (y ≤ x) else if 3 ≤ i then decide (x ≤ y) else decide (x < y)
def pair (sg : Bool) (mx : Nat) (raw : List UInt8) (i j : Nat) : Bool := !(has mx i && has mx j && !(fol i j (C4p.num sg (raw.getD i 0)) (C4p.num sg (raw.getD j 0))))
def ordd (sg : Bool) (mx : Nat) (raw : List UInt8) : Bool := (List.range 6).all fun j => (List.range j).all fun i => pair sg mx raw i j
def zer (mx : Nat) (raw : List UInt8) : Bool := (List.range 6).all fun i => has mx i || decide (raw.getD i 0 = 0)
def lims (sg : Bool) (mx : Nat) (raw : List UInt8) : Bool := decide (mx ≤ 63) && (zer mx raw && ordd sg mx raw)
/-- The bits of a that are none of m, 16 bits. -/
def andn (a m : Nat) : Nat := (BitVec.ofNat 16 a &&& ~~~BitVec.ofNat 16 m).toNat
theorem andn_lt (a m : Nat) : andn a m < 65536 := BitVec.isLt _
/-- The bits of a are bits of m. -/
def inm (a m : Nat) : Bool := decide (andn a m = 0)
def chr (x : UInt8) : Bool := decide (32 ≤ x.toNat) && decide (x.toNat ≤ 126)
def okn (l : List UInt8) : Bool := decide (1 ≤ l.length ∧ l.length ≤ 16) && l.all chr
def wid (n : Int) : Bool := decide (n = 1 ∨ n = 3 ∨ n = 5)
def nocv (c : C4p.Cv) : Bool := decide (c.f = 0) && (!c.s && (decide (c.m = 0) && (decide (c.b = 0) && (decide (c.k1 = 0) && (decide (c.k2 = 0) && decide (c.p.length = 0))))))
def nolim (mx r0 r1 r2 r3 r4 r5 : UInt8) : Bool := decide (mx = 0 ∧ r0 = 0 ∧ r1 = 0 ∧ r2 = 0 ∧ r3 = 0 ∧ r4 = 0 ∧ r5 = 0)
def ana (s : Sn) : Bool := C4p.vld s.c && (lims s.c.s s.mx.toNat s.raw && (decide (s.st = 0) && (inm s.av s.mx.toNat && inm s.dv s.mx.toNat)))
def dsc (s : Sn) : Bool := nocv s.c && (nolim s.mx s.r0 s.r1 s.r2 s.r3 s.r4 s.r5 && (decide (s.hl = 0) && (decide (s.hu = 0) && (decide (s.sm = 1) && (decide (s.st ≤ 32767) && (inm s.av s.st && inm s.dv s.st))))))
/-- Which records are valid. -/
def vs (s : Sn) : Bool := okn (bl s.nm) && (wid s.sm && (if s.d = true then dsc s else ana s))

/-! Bytes. -/
def flg (d on : Bool) (sm : Int) : Nat := 4 * sm.toNat + (if d = true then 1 else 0) + (if on = true then 2 else 0)
def head (s : Sn) : List UInt8 := [1, s.nu, s.ty, s.un, s.ei, s.en, UInt8.ofNat (flg s.d s.on s.sm), UInt8.ofNat s.nm.size]
def ext (s : Sn) : List UInt8 := C4p.enc s.c ++ ([s.mx] ++ (s.raw ++ [s.hl, s.hu]))
def mid (s : Sn) : List UInt8 := if s.d = true then lit s.st 2 else ext s
def pay (s : Sn) : List UInt8 := head s ++ bl s.nm ++ mid s ++ lit s.av 2 ++ lit s.dv 2
def sealB (l : List UInt8) : List UInt8 := l ++ [UInt8.ofNat (Pl.sum8 l)]
def encS (s : Sn) : List UInt8 := sealB (pay s)
def by_ (l : List UInt8) (i : Nat) : UInt8 := l.getD i 0
def n2 (l : List UInt8) (i : Nat) : Nat := num ((l.drop i).take 2)
/-- A record's beginning. -/
def beg (x : List UInt8) : Sn :=
  { noSn with nu := by_ x 1, ty := by_ x 2, un := by_ x 3, nm := ⟨((x.drop 8).take (by_ x 7).toNat).toArray⟩, ei := by_ x 4, en := by_ x 5, d := decide ((by_ x 6).toNat % 2 = 1), on := decide ((by_ x 6).toNat / 2 % 2 = 1), sm := (((by_ x 6).toNat / 4 : Nat) : Int) }
def size (b : List UInt8) (n : Nat) : Nat := if b.length < n then 4 else if n < b.length then 6 else 0
def rdD (s : Sn) (b : List UInt8) : Sn × Nat := if size b 6 ≠ 0 then (noSn, size b 6) else ({ s with st := n2 b 0, av := n2 b 2, dv := n2 b 4 }, 0)
def fin (s : Sn) (c : C4p.Cv) (b : List UInt8) : Sn :=
  { s with c := c, mx := by_ b 0, r0 := by_ b 1, r1 := by_ b 2, r2 := by_ b 3, r3 := by_ b 4, r4 := by_ b 5, r5 := by_ b 6, hl := by_ b 7, hu := by_ b 8, av := n2 b 9, dv := n2 b 11 }
def rdA (s : Sn) (b : List UInt8) : Sn × Nat :=
  if (C4p.dec b).2.2 ≠ 0 then (noSn, (C4p.dec b).2.2.toNat)
  else if size (b.drop (C4p.dec b).2.1.toNat) 13 ≠ 0 then (noSn, size (b.drop (C4p.dec b).2.1.toNat) 13)
  else (fin s (C4p.dec b).1 (b.drop (C4p.dec b).2.1.toNat), 0)
def rdS (x : List UInt8) : Sn × Nat :=
  if by_ x 0 ≠ 1 ∨ 32 ≤ (by_ x 6).toNat then (noSn, 6)
  else if x.length < 8 + (by_ x 7).toNat then (noSn, 4)
  else if (by_ x 6).toNat % 2 = 1 then rdD (beg x) (x.drop (8 + (by_ x 7).toNat))
  else rdA (beg x) (x.drop (8 + (by_ x 7).toNat))
/-- What Decode answers: record, error. -/
def decS (l : List UInt8) : Sn × Nat :=
  if l.length < 9 then (noSn, 4)
  else if Pl.sum8 l ≠ 0 then (noSn, 5)
  else if (rdS (l.take (l.length - 1))).2 ≠ 0 then (noSn, (rdS (l.take (l.length - 1))).2)
  else if vs (rdS (l.take (l.length - 1))).1 = true then ((rdS (l.take (l.length - 1))).1, 0)
  else (noSn, 1)
end Go.Proofs.Ytekhpcfggbegaaa.Ta
