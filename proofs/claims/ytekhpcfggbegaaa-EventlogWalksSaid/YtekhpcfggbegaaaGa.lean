/- The event log: its state, and what its steps do to it and to the device. -/
import Derived.Test.YtekhpcfggbegaaaE5q
import Derived.Test.YtekhpcfggbegaaaV7h
namespace Go.Proofs.Ytekhpcfggbegaaa.G9
open Go.RowKit Go.Proofs.Ytekhpcfggbegaaa.Mem Go.Proofs.Ytekhpcfggbegaaa.E5p Go.Proofs.Ytekhpcfggbegaaa.V7
set_option maxRecDepth 100000
set_option maxHeartbeats 400000

/-- A record: an event and the sequence number of its sector. -/
structure Rc where
  (q : Nat) (e : Ev)
deriving DecidableEq
/-- A log that has not ended. -/
structure Lg where
  (first S : Nat) (ow : Bool) (newest tail used nid : Nat) (recs : List Rc) (full : Bool) (resv : Nat) (rsvd : Bool)
def slots (s : Fl) : Nat := (s.size - 11) / 17
namespace Lg
/-- Which sector of the device has the sequence number q. -/
def sec (L : Lg) (q : Nat) : Nat := L.first + (q - 1) % L.S
def start (L : Lg) (s : Fl) (q : Nat) : Nat := L.sec q * s.size
def behind (i : Nat) : Nat := if i = 65534 then 1 else i + 1
def hdr (q t i : Nat) : List UInt8 := F2p.lit q 4 ++ F2p.lit t 4 ++ F2p.lit i 2
/-- A sector is erased, unless it is erased. -/
def wipe (s : Fl) (L : Lg) (q : Nat) : Fl × Int :=
  let r := s.read (L.start s q) s.size
  if r.2 ≠ 0 then (s, r.2) else if r.1.all (· == 255) then (s, 0) else s.erase (L.sec q)
def opened (L : Lg) (t : Nat) : Lg := { L with newest := L.newest + 1, tail := t, used := 0, recs := L.recs.filter fun r => decide (t ≤ r.q) }
def openSec (s : Fl) (L : Lg) (t : Nat) : Fl × Lg × Int :=
  if 2147483648 < L.newest + 1 then (s, L, 3) else
  let r1 := wipe s L (L.newest + 1)
  if r1.2 ≠ 0 then (r1.1, L, r1.2) else
  let r2 := r1.1.program (L.start s (L.newest + 1)) (hdr (L.newest + 1) t L.nid)
  if r2.2 ≠ 0 then (r2.1, L, r2.2) else
  let r3 := r2.1.program (L.start s (L.newest + 1) + 10) [0]
  if r3.2 ≠ 0 then (r3.1, L, r3.2) else (r3.1, L.opened t, 0)
def room (s : Fl) (L : Lg) : Fl × Lg × Int :=
  if L.used < slots s then (s, L, 0) else
  if (L.S : Int) - 2 < (L.newest : Int) + 1 - L.tail then (if L.ow then openSec s L (L.tail + 1) else (s, L, 9)) else openSec s L L.tail
def wrote (L : Lg) (e : Ev) : Lg := { L with used := L.used + 1, nid := behind e.id, recs := L.recs ++ [⟨L.newest, e⟩] }
def write (s : Fl) (L : Lg) (e : Ev) : Fl × Lg × Int :=
  let r := s.program (L.start s L.newest + (11 + L.used * 17)) (encE e ++ [0])
  if r.2 ≠ 0 then (r.1, L, r.2) else (r.1, L.wrote e, 0)
/-- What an error leaves of the log. -/
def note (L : Lg) (e : Int) : Option Lg := if e = 10 then none else if e = 9 then some { L with full := true } else some L
def withId (e : Ev) (i : Nat) : Ev := { e with id := i }
/-- Add: the device, the log (none: it has ended), the ID, the error. -/
def add (s : Fl) (L : Lg) (e : Ev) : Fl × Option Lg × Nat × Int :=
  if s.down then (s, none, 0, 10) else
  if vld e = false ∨ e.id ≠ 0 then (s, some L, 0, 1) else
  let r := room s L
  if r.2.2 ≠ 0 then (r.1, r.2.1.note r.2.2, 0, r.2.2) else
  let u := write r.1 r.2.1 (withId e r.2.1.nid)
  if u.2.2 ≠ 0 then (u.1, u.2.1.note u.2.2, 0, u.2.2) else (u.1, some u.2.1, r.2.1.nid, 0)
/-- The numbers of a log over a device are as they must be. -/
structure Ok (L : Lg) (s : Fl) (n : Nat) : Prop where
  two : 2 ≤ L.S
  fits : L.first + L.S ≤ s.wear.length
  newest : L.newest ≤ 2147483648
  tail0 : 1 ≤ L.tail
  tail1 : L.tail ≤ L.newest + 1
  used : L.used ≤ 60
  none : L.newest = 0 → slots s ≤ L.used
  nid : 1 ≤ L.nid ∧ L.nid ≤ 65534
  many : L.recs.length ≤ n
  fit : ∀ r ∈ L.recs, r.e.Fit ∧ r.q ≤ 2147483648
  resv : L.resv ≤ 65535
end Lg
end Go.Proofs.Ytekhpcfggbegaaa.G9
