/- The event log whose power fails at the next step. -/
import Derived.Test.YtekhpcfggbegaaaGu
namespace Go.Proofs.Ytekhpcfggbegaaa.G9
open Go.RowKit Go.Proofs.Ytekhpcfggbegaaa.Mem Go.Proofs.Ytekhpcfggbegaaa.E5p Go.Proofs.Ytekhpcfggbegaaa.E5m Go.Proofs.Ytekhpcfggbegaaa.E5a Go.Proofs.Ytekhpcfggbegaaa.E5d Go.Proofs.Ytekhpcfggbegaaa.V7 Go.Proofs.Ytekhpcfggbegaaa.V9
set_option maxRecDepth 100000
set_option maxHeartbeats 1000000

theorem prog_dies {s : Fl} (hd : s.down = false) (hl : s.left = 1) (k : Nat) (b : List UInt8) (hb : 0 < b.length) (hf : k + b.length ≤ s.bytes.length) : (s.program (k : Int) b).2 = 10 := by
  have hh : s.holds b.length = false := by
    unfold Fl.holds
    rw [hl, decide_eq_false (by omega)]
    rfl
  have hfit : s.fits (k : Int) (b.length : Int) = true := by simp [Fl.fits]; omega
  unfold Fl.program
  rw [hd, hfit, hh]
  rfl
theorem erase_dies {s : Fl} (hd : s.down = false) (hl : s.left = 1) (k : Nat) (hf : k < s.wear.length) : (s.erase (k : Int)).2 = 10 := by
  have hfit : s.inside (k : Int) = true := by simp [Fl.inside]; omega
  have hla : s.last = true := by simp [Fl.last, hl]
  unfold Fl.erase
  rw [hd, hfit, hla]
  rfl
theorem open_dies {s : Fl} {L : Lg} {n m : Nat} (hd : s.down = false) (hl : s.left = 1) (hL : L.Ok s n) (hs : s.Ok m) (hn : L.newest < 2147483648) (t : Nat) : (Lg.openSec s L t).2.2 = 10 := by
  have h1 := start_le hL hs (L.newest + 1)
  have hz := hs.size1
  have hlim : ¬ 2147483648 < L.newest + 1 := by omega
  have hfit : s.fits (L.start s (L.newest + 1) : Int) (s.size : Int) = true := by simp [Fl.fits]; omega
  have hr : (s.read (L.start s (L.newest + 1)) s.size).2 = 0 := by
    unfold Fl.read
    rw [hd, hfit]
    rfl
  rcases hb : (s.read (L.start s (L.newest + 1)) s.size).1.all (· == 255) with _ | _
  · have hw : Lg.wipe s L (L.newest + 1) = s.erase (L.sec (L.newest + 1)) := by
      unfold Lg.wipe
      dsimp only
      rw [if_neg (by simp [hr]), if_neg (by rw [hb]; decide)]
    have he := erase_dies hd hl (L.sec (L.newest + 1)) (sec_lt hL _)
    rw [← hw] at he
    rw [open_2 hlim rfl (by rw [he]; decide)]
    exact he
  · have hw : Lg.wipe s L (L.newest + 1) = (s, 0) := by
      unfold Lg.wipe
      dsimp only
      rw [if_neg (by simp [hr]), if_pos hb]
    have hp := prog_dies hd hl (L.start s (L.newest + 1)) (Lg.hdr (L.newest + 1) t L.nid) (by rw [hdr_len]; decide) (by rw [hdr_len]; omega)
    rw [open_3 hlim hw rfl rfl (by rw [hp]; decide)]
    exact hp
/-- The power fails at the first step of an Add. -/
theorem add_dies {s : Fl} {L : Lg} {n m : Nat} (hd : s.down = false) (hl : s.left = 1) (hL : L.Ok s n) (hs : s.Ok m) (hn : L.newest < 2147483648) (hroom : L.used < slots s ∨ ¬ ((L.S : Int) - 2 < (L.newest : Int) + 1 - L.tail)) (e : Ev) (hv : vld e = true) (hid : e.id = 0) :
    (Lg.add s L e).2 = (none, 0, 10) := by
  have hnb : ¬ (vld e = false ∨ e.id ≠ 0) := by
    rintro (h | h)
    · rw [hv] at h; cases h
    · exact h hid
  rcases Nat.lt_or_ge L.used (slots s) with hu | hu
  · have hr : Lg.room s L = (s, L, 0) := by unfold Lg.room; rw [if_pos hu]
    have h1 := start_le hL hs L.newest
    have h2 : 11 + L.used * 17 + 17 ≤ s.size := by
      have hz := hs.size1
      unfold slots at hu
      omega
    have hp := prog_dies hd hl (L.start s L.newest + (11 + L.used * 17)) (encE (Lg.withId e L.nid) ++ [0]) (by rw [List.length_append, V7.enc_len]; decide) (by rw [List.length_append, V7.enc_len]; show _ + (16 + 1) ≤ _; omega)
    have hw := write_1 (L := L) (e := Lg.withId e L.nid) rfl rfl (by rw [hp]; decide)
    rw [add_write hd hnb hr rfl hw (by dsimp only; rw [hp]; decide)]
    dsimp only
    rw [hp]
    rfl
  · have hnf : ¬ ((L.S : Int) - 2 < (L.newest : Int) + 1 - L.tail) := hroom.resolve_left (Nat.not_lt.2 hu)
    have hr : Lg.room s L = Lg.openSec s L L.tail := by unfold Lg.room; rw [if_neg (Nat.not_lt.2 hu), if_neg hnf]
    have ho := open_dies hd hl hL hs hn L.tail
    rw [add_room hd hnb hr (by rw [ho]; decide), ho]
    rfl
theorem small (k S : Nat) (hk : 3 ≤ k) (hS : 2 ≤ S) (ow : Bool) (evs : List Ev) (hl : evs.length ≤ 2) : (addsF k (fresh 0 S ow k) evs).recs.length = evs.length ∧ ((addsF k (fresh 0 S ow k) evs).used < k ∨ ¬ (((addsF k (fresh 0 S ow k) evs).S : Int) - 2 < ((addsF k (fresh 0 S ow k) evs).newest : Int) + 1 - ((addsF k (fresh 0 S ow k) evs).tail : Int))) := by
  have f1 : ∀ e, madd k (fresh 0 S ow k) e = (((fresh 0 S ow k).opened 1).wrote (Lg.withId e 1), 1, 0) := fun e => by
    have h3 : mroom k (fresh 0 S ow k) = ((fresh 0 S ow k).opened 1, 0) := by
      unfold mroom
      rw [if_neg (show ¬ ((fresh 0 S ow k).used < k) from Nat.lt_irrefl _), if_neg (show ¬ (((fresh 0 S ow k).S : Int) - 2 < ((fresh 0 S ow k).newest : Int) + 1 - ((fresh 0 S ow k).tail : Int)) from by show ¬ ((S : Int) - 2 < ((0 : Nat) : Int) + 1 - ((1 : Nat) : Int)); omega)]
      rfl
    unfold madd
    rw [h3]
    rfl
  match evs, hl with
  | [], _ => exact ⟨rfl, .inr (by show ¬ ((S : Int) - 2 < ((0 : Nat) : Int) + 1 - ((1 : Nat) : Int)); omega)⟩
  | [a], _ =>
    have h : addsF k (fresh 0 S ow k) [a] = ((fresh 0 S ow k).opened 1).wrote (Lg.withId a 1) := by show (madd k (fresh 0 S ow k) a).1 = _; rw [f1]
    rw [h]
    exact ⟨rfl, .inl (by show 0 + 1 < k; omega)⟩
  | [a, b], _ =>
    have h : addsF k (fresh 0 S ow k) [a, b] = (madd k (((fresh 0 S ow k).opened 1).wrote (Lg.withId a 1)) b).1 := by show (madd k (madd k (fresh 0 S ow k) a).1 b).1 = _; rw [f1]
    have h3 : mroom k (((fresh 0 S ow k).opened 1).wrote (Lg.withId a 1)) = (((fresh 0 S ow k).opened 1).wrote (Lg.withId a 1), 0) := by
      unfold mroom
      rw [if_pos (show (((fresh 0 S ow k).opened 1).wrote (Lg.withId a 1)).used < k from (by show 0 + 1 < k; omega))]
    have h4 : (madd k (((fresh 0 S ow k).opened 1).wrote (Lg.withId a 1)) b).1 = (((fresh 0 S ow k).opened 1).wrote (Lg.withId a 1)).wrote (Lg.withId b (((fresh 0 S ow k).opened 1).wrote (Lg.withId a 1)).nid) := by
      unfold madd
      rw [h3]
      rfl
    rw [h, h4]
    exact ⟨rfl, .inl (by show 0 + 1 + 1 < k; omega)⟩
theorem LE.kept {B : Nat} {W w w' : World} {d : Sh} {s s' : Fl} {m m' g : Nat} (h : LE B W w d s m g) (hk : Kept d w w') (hd : At B W w' d s' m') : LE B W w' d s' m' g := by
  have n1 : g ≠ d.g := ne_of_types h.head h.dev.dev.head (by decide)
  obtain ⟨_, c1, z1, hb1⟩ := own_blk h.dev.dev.bytes
  obtain ⟨_, c2, z2, hb2⟩ := own_blk h.dev.dev.wear
  exact ⟨hd, (hk.block _ h.lg n1 (ne_of_types h.head hb1 (by decide)) (ne_of_types h.head hb2 (by decide))).trans h.head, h.low⟩
theorem arm_like (s : Fl) (n : Int) (t : UInt8) : Like s (s.arm n t) := by
  unfold Fl.arm
  split
  · exact Like.refl s
  · exact ⟨rfl, rfl, rfl⟩
end Go.Proofs.Ytekhpcfggbegaaa.G9
