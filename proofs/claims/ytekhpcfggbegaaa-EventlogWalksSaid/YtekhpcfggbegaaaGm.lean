/- The event log while the power holds: what an Add does to its records. -/
import Derived.Test.YtekhpcfggbegaaaGa
namespace Go.Proofs.Ytekhpcfggbegaaa.G9
open Go.RowKit Go.Proofs.Ytekhpcfggbegaaa.Mem Go.Proofs.Ytekhpcfggbegaaa.E5p Go.Proofs.Ytekhpcfggbegaaa.V7
set_option maxRecDepth 100000
set_option maxHeartbeats 400000

/-- No failure is armed. -/
structure Calm (s : Fl) : Prop where
  left : s.left = 0
  down : s.down = false
/-- A device of the same form. -/
structure Like (s s' : Fl) : Prop where
  size : s'.size = s.size
  wear : s'.wear.length = s.wear.length
  bytes : s'.bytes.length = s.bytes.length
theorem Like.refl (s : Fl) : Like s s := ⟨rfl, rfl, rfl⟩
theorem Like.trans {a b c : Fl} (h : Like a b) (k : Like b c) : Like a c := ⟨k.size.trans h.size, k.wear.trans h.wear, k.bytes.trans h.bytes⟩
theorem Like.slots {s s' : Fl} (h : Like s s') : slots s' = slots s := by unfold G9.slots; rw [h.size]
theorem prog_like (s : Fl) (k : Nat) (b : List UInt8) : Like s (s.prog k b) := by
  unfold Fl.prog
  split <;> exact ⟨rfl, rfl, by simp⟩
theorem program_like (s : Fl) (k : Int) (b : List UInt8) : Like s (s.program k b).1 := by
  unfold Fl.program
  split
  · exact Like.refl s
  · split
    · exact prog_like s _ b
    · exact Like.refl s
theorem erase_like (s : Fl) (k : Int) : Like s (s.erase k).1 := by
  unfold Fl.erase
  split
  · exact Like.refl s
  · split
    · exact ⟨rfl, by simp [Fl.clear], by simp [Fl.clear]⟩
    · exact Like.refl s
theorem Like.start {s s' : Fl} (h : Like s s') (L : Lg) (q : Nat) : L.start s' q = L.start s q := by unfold Lg.start; rw [h.size]
theorem program_calm {s : Fl} (h : Calm s) (k : Nat) (b : List UInt8) (hf : k + b.length ≤ s.bytes.length) : (s.program k b).2 = 0 ∧ Calm (s.program k b).1 := by
  have hh : s.holds b.length = true := by simp [Fl.holds, h.left]
  have hfit : s.fits (k : Int) (b.length : Int) = true := by simp [Fl.fits]; omega
  unfold Fl.program
  rw [h.down, hfit, hh]
  simp only [Bool.false_eq_true, if_false, if_true]
  refine ⟨trivial, ?_⟩
  unfold Fl.prog
  rw [hh]
  exact ⟨by simp [h.left], h.down⟩
theorem erase_calm {s : Fl} (h : Calm s) (k : Nat) (hf : k < s.wear.length) : (s.erase k).2 = 0 ∧ Calm (s.erase k).1 := by
  have hfit : s.inside (k : Int) = true := by simp [Fl.inside]; omega
  have hl : s.last = false := by simp [Fl.last, h.left]
  unfold Fl.erase
  rw [h.down, hfit, hl]
  simp only [Bool.false_eq_true, if_false, if_true]
  exact ⟨trivial, by simp [Fl.clear, h.left], by simp [Fl.clear, hl]⟩
theorem sec_lt {L : Lg} {s : Fl} {n : Nat} (h : L.Ok s n) (q : Nat) : L.sec q < s.wear.length := by
  have h1 := h.two; have h2 := h.fits
  have := Nat.mod_lt (q - 1) (show 0 < L.S by omega)
  unfold Lg.sec
  omega
theorem start_le {L : Lg} {s : Fl} {n m : Nat} (h : L.Ok s n) (hs : s.Ok m) (q : Nat) : L.start s q + s.size ≤ s.bytes.length := by
  have h1 := sec_lt h q
  rw [hs.len]
  unfold Lg.start
  calc L.sec q * s.size + s.size = (L.sec q + 1) * s.size := by rw [Nat.add_mul, Nat.one_mul]
    _ ≤ s.wear.length * s.size := Nat.mul_le_mul_right _ h1
theorem hdr_len (q t i : Nat) : (Lg.hdr q t i).length = 10 := by simp [Lg.hdr, F2p.lit_len]
theorem wipe_like (s : Fl) (L : Lg) (q : Nat) : Like s (Lg.wipe s L q).1 := by
  unfold Lg.wipe
  dsimp only
  split
  · exact Like.refl s
  · split
    · exact Like.refl s
    · exact erase_like s _
theorem wipe_calm {s : Fl} {L : Lg} {n m : Nat} (h : Calm s) (hL : L.Ok s n) (hs : s.Ok m) (q : Nat) : (Lg.wipe s L q).2 = 0 ∧ Calm (Lg.wipe s L q).1 := by
  have h1 := start_le hL hs q
  have hfit : s.fits (L.start s q : Int) (s.size : Int) = true := by simp [Fl.fits]; omega
  have hr : (s.read (L.start s q) s.size).2 = 0 := by
    unfold Fl.read
    rw [h.down, hfit]
    rfl
  unfold Lg.wipe
  dsimp only
  rw [if_neg (by simp [hr])]
  split
  · exact ⟨rfl, h⟩
  · exact erase_calm h _ (sec_lt hL q)
theorem open_like (s : Fl) (L : Lg) (t : Nat) : Like s (Lg.openSec s L t).1 := by
  unfold Lg.openSec
  dsimp only
  split
  · exact Like.refl s
  split
  · exact wipe_like s L _
  split
  · exact (wipe_like s L _).trans (program_like _ _ _)
  split
  · exact ((wipe_like s L _).trans (program_like _ _ _)).trans (program_like _ _ _)
  · exact ((wipe_like s L _).trans (program_like _ _ _)).trans (program_like _ _ _)
theorem open_calm {s : Fl} {L : Lg} {n m : Nat} (h : Calm s) (hL : L.Ok s n) (hs : s.Ok m) (hn : L.newest < 2147483648) (t : Nat) : (Lg.openSec s L t).2 = (L.opened t, 0) ∧ Calm (Lg.openSec s L t).1 := by
  have hst := start_le hL hs (L.newest + 1)
  have hsz := hs.size1
  obtain ⟨a1, a2⟩ := wipe_calm h hL hs (L.newest + 1)
  have l1 := wipe_like s L (L.newest + 1)
  generalize hw : Lg.wipe s L (L.newest + 1) = r1 at *
  obtain ⟨b1, b2⟩ := program_calm a2 (L.start s (L.newest + 1)) (Lg.hdr (L.newest + 1) t L.nid) (by rw [hdr_len, l1.bytes]; omega)
  have l2 := program_like r1.1 (L.start s (L.newest + 1)) (Lg.hdr (L.newest + 1) t L.nid)
  generalize hp : r1.1.program (L.start s (L.newest + 1)) (Lg.hdr (L.newest + 1) t L.nid) = r2 at *
  obtain ⟨c1, c2⟩ := program_calm b2 (L.start s (L.newest + 1) + 10) [0] (by rw [l2.bytes, l1.bytes]; simp; omega)
  rw [show ((L.start s (L.newest + 1) + 10 : Nat) : Int) = (L.start s (L.newest + 1) : Int) + 10 by omega] at c1 c2
  generalize hp3 : r2.1.program ((L.start s (L.newest + 1) : Int) + 10) [0] = r3 at *
  unfold Lg.openSec
  dsimp only
  rw [hw, hp, hp3, if_neg (by omega), if_neg (by simp [a1]), if_neg (by simp [b1]), if_neg (by simp [c1])]
  exact ⟨rfl, c2⟩
/-- What opening a sector, if one is wanted, does to the log. -/
def mroom (k : Nat) (L : Lg) : Lg × Int :=
  if L.used < k then (L, 0) else
  if (L.S : Int) - 2 < (L.newest : Int) + 1 - L.tail then (if L.ow then (L.opened (L.tail + 1), 0) else (L, 9)) else (L.opened L.tail, 0)
/-- What an Add of a valid event does to the log. -/
def madd (k : Nat) (L : Lg) (e : Ev) : Lg × Nat × Int :=
  let r := mroom k L
  if r.2 = 0 then (r.1.wrote (Lg.withId e r.1.nid), r.1.nid, 0) else ({ r.1 with full := true }, 0, 9)
theorem room_calm {s : Fl} {L : Lg} {n m : Nat} (h : Calm s) (hL : L.Ok s n) (hs : s.Ok m) (hn : L.newest < 2147483648) :
    (Lg.room s L).2 = mroom (slots s) L ∧ Calm (Lg.room s L).1 ∧ Like s (Lg.room s L).1 := by
  unfold Lg.room mroom
  split
  · exact ⟨rfl, h, Like.refl s⟩
  split
  · split
    · exact ⟨(open_calm h hL hs hn _).1, (open_calm h hL hs hn _).2, open_like s L _⟩
    · exact ⟨rfl, h, Like.refl s⟩
  · exact ⟨(open_calm h hL hs hn _).1, (open_calm h hL hs hn _).2, open_like s L _⟩
theorem behind_rng {i : Nat} (h : i ≤ 65534) : 1 ≤ Lg.behind i ∧ Lg.behind i ≤ 65534 := by unfold Lg.behind; split <;> omega
theorem slots_le {s : Fl} {m : Nat} (hs : s.Ok m) : slots s ≤ 59 ∧ 3 ≤ slots s := by
  have h1 := hs.size1; have h2 := hs.size2
  unfold slots
  omega
theorem Lg.Ok.opened {L : Lg} {s : Fl} {n : Nat} (h : L.Ok s n) (hn : L.newest < 2147483648) (t : Nat) (h1 : 1 ≤ t) (h2 : t ≤ L.newest + 2) : (L.opened t).Ok s n :=
  { two := h.two, fits := h.fits, newest := hn, tail0 := h1, tail1 := h2, used := Nat.zero_le _, none := fun e => absurd e (Nat.succ_ne_zero _), nid := h.nid, many := Nat.le_trans (List.length_filter_le _ _) h.many, fit := fun r hr => h.fit r (List.mem_filter.1 hr).1, resv := h.resv }
theorem Lg.Ok.wrote {L : Lg} {s : Fl} {n : Nat} (h : L.Ok s n) (hu : L.used ≤ 59) (e : Ev) (he : e.Fit) (hi : e.id ≤ 65534) : (L.wrote e).Ok s (n + 1) := by
  have hf : ∀ r ∈ (L.wrote e).recs, r.e.Fit ∧ r.q ≤ 2147483648 := fun r hr => by
    rcases List.mem_append.1 hr with hr | hr
    · exact h.fit r hr
    · obtain rfl := List.mem_singleton.1 hr
      exact ⟨he, h.newest⟩
  have hm := h.many
  have hu' : L.used + 1 ≤ 60 := by omega
  exact { two := h.two, fits := h.fits, newest := h.newest, tail0 := h.tail0, tail1 := h.tail1, used := hu', none := fun e => Nat.le_succ_of_le (h.none e), nid := behind_rng hi, many := by simp [Lg.wrote]; omega, fit := hf, resv := h.resv }
theorem Lg.Ok.like {L : Lg} {s s' : Fl} {n : Nat} (h : L.Ok s n) (k : Like s s') : L.Ok s' n := ⟨h.two, by rw [k.wear]; exact h.fits, h.newest, h.tail0, h.tail1, h.used, fun e => by rw [k.slots]; exact h.none e, h.nid, h.many, h.fit, h.resv⟩
theorem Lg.Ok.more {L : Lg} {s : Fl} {n n' : Nat} (h : L.Ok s n) (k : n ≤ n') : L.Ok s n' := ⟨h.two, h.fits, h.newest, h.tail0, h.tail1, h.used, h.none, h.nid, Nat.le_trans h.many k, h.fit, h.resv⟩
theorem Lg.Ok.fulled {L : Lg} {s : Fl} {n : Nat} (h : L.Ok s n) (b : Bool) : ({ L with full := b } : Lg).Ok s n := ⟨h.two, h.fits, h.newest, h.tail0, h.tail1, h.used, h.none, h.nid, h.many, h.fit, h.resv⟩
theorem Lg.Ok.one {L : Lg} {s : Fl} {n : Nat} (h : L.Ok s n) (hu : L.used < slots s) : 1 ≤ L.newest := by
  rcases Nat.eq_zero_or_pos L.newest with e | e
  · have := h.none e; omega
  · exact e
end Go.Proofs.Ytekhpcfggbegaaa.G9
