/- The event log while the power holds, as Adds go; the sanity check. -/
import Derived.Test.YtekhpcfggbegaaaGp
namespace Go.Proofs.Ytekhpcfggbegaaa.G9
open Go.RowKit Go.Proofs.Ytekhpcfggbegaaa.Mem Go.Proofs.Ytekhpcfggbegaaa.E5p Go.Proofs.Ytekhpcfggbegaaa.E5m Go.Proofs.Ytekhpcfggbegaaa.E5a Go.Proofs.Ytekhpcfggbegaaa.E5d Go.Proofs.Ytekhpcfggbegaaa.V7 Go.Proofs.Ytekhpcfggbegaaa.V9
set_option maxRecDepth 100000
set_option maxHeartbeats 4000000

theorem write_calm {s : Fl} {L : Lg} {n m : Nat} (h : Calm s) (hL : L.Ok s n) (hs : s.Ok m) (hu : L.used < slots s) (e : Ev) : (Lg.write s L e).2 = (L.wrote e, 0) ∧ Calm (Lg.write s L e).1 ∧ Like s (Lg.write s L e).1 := by
  have h1 := start_le hL hs L.newest
  have h2 : 11 + L.used * 17 + 17 ≤ s.size := by
    have hz := hs.size1
    unfold slots at hu
    omega
  obtain ⟨a1, a2⟩ := program_calm h (L.start s L.newest + (11 + L.used * 17)) (encE e ++ [0]) (by rw [List.length_append, V7.enc_len]; show _ + (16 + 1) ≤ _; omega)
  have l := program_like s ((L.start s L.newest + (11 + L.used * 17) : Nat) : Int) (encE e ++ [0])
  rw [write_2 rfl rfl a1]
  exact ⟨rfl, a2, l⟩
theorem mroom_ok {s : Fl} {L : Lg} {n : Nat} (hL : L.Ok s n) (hn : L.newest < 2147483648) (k : Nat) : (mroom k L).1.Ok s n := by
  have h0 := hL.tail0
  have h1 := hL.tail1
  unfold mroom
  split
  · exact hL
  split
  · split
    · exact hL.opened hn _ (Nat.le_add_left 1 _) (Nat.succ_le_succ h1)
    · exact hL
  · exact hL.opened hn _ h0 (Nat.le_succ_of_le h1)
theorem mroom_err (k : Nat) (L : Lg) : (mroom k L).2 = 0 ∨ (mroom k L).2 = 9 := by
  unfold mroom
  split
  · exact .inl rfl
  split
  · split
    · exact .inl rfl
    · exact .inr rfl
  · exact .inl rfl
theorem wipe_fl {s : Fl} {m : Nat} (hs : s.Ok m) (L : Lg) (q : Nat) : (Lg.wipe s L q).1.Ok (m + 1) := by
  unfold Lg.wipe
  dsimp only
  split
  · exact hs.more (Nat.le_succ m)
  split
  · exact hs.more (Nat.le_succ m)
  · exact Fl.erase_ok hs _
theorem open_fl {s : Fl} {m : Nat} (hs : s.Ok m) (L : Lg) (t : Nat) : ∃ m', (Lg.openSec s L t).1.Ok m' := by
  unfold Lg.openSec
  dsimp only
  split
  · exact ⟨_, hs⟩
  split
  · exact ⟨_, wipe_fl hs L _⟩
  split
  · exact ⟨_, Fl.program_ok (wipe_fl hs L _) _ _⟩
  split
  · exact ⟨_, Fl.program_ok (Fl.program_ok (wipe_fl hs L _) _ _) _ _⟩
  · exact ⟨_, Fl.program_ok (Fl.program_ok (wipe_fl hs L _) _ _) _ _⟩
theorem room_fl {s : Fl} {m : Nat} (hs : s.Ok m) (L : Lg) : ∃ m', (Lg.room s L).1.Ok m' := by
  unfold Lg.room
  split
  · exact ⟨_, hs⟩
  split
  · split
    · exact open_fl hs L _
    · exact ⟨_, hs⟩
  · exact open_fl hs L _
theorem add_calm {s : Fl} {L : Lg} {n m : Nat} (h : Calm s) (hL : L.Ok s n) (hs : s.Ok m) (hn : L.newest < 2147483648) (e : Ev) (hv : vld e = true) (hid : e.id = 0) :
    (Lg.add s L e).2 = (some (madd (slots s) L e).1, (madd (slots s) L e).2.1, (madd (slots s) L e).2.2) ∧ Calm (Lg.add s L e).1 ∧ Like s (Lg.add s L e).1 := by
  obtain ⟨r1, r2, r3⟩ := room_calm h hL hs hn
  have hok := mroom_ok hL hn (slots s)
  have hus := room_used hL hs
  have hre := room_rng s L
  have hnb : ¬ (vld e = false ∨ e.id ≠ 0) := by
    rintro (h | h)
    · rw [hv] at h; cases h
    · exact h hid
  have herr := mroom_err (slots s) L
  unfold madd
  dsimp only
  rcases herr with h0 | h9
  · rw [if_pos h0]
    have he0 : (Lg.room s L).2.2 = 0 := by rw [r1]; exact h0
    obtain ⟨hu1, hu2⟩ := hus he0
    have hL2 : (Lg.room s L).2.1.Ok (Lg.room s L).1 n := by
      have : (Lg.room s L).2.1 = (mroom (slots s) L).1 := by rw [r1]
      rw [this]
      exact hok.like r3
    have hs2 : ∃ m', (Lg.room s L).1.Ok m' := room_fl hs L
    obtain ⟨m', hs2⟩ := hs2
    obtain ⟨w1, w2, w3⟩ := write_calm r2 hL2 hs2 (by rw [r3.slots]; exact hu1) (Lg.withId e (Lg.room s L).2.1.nid)
    rw [add_done h.down hnb rfl he0 rfl (by rw [w1])]
    rw [w1, r1]
    exact ⟨rfl, by rw [← r1]; exact w2, r3.trans (by rw [← r1]; exact w3)⟩
  · rw [if_neg (by rw [h9]; decide)]
    have he9 : (Lg.room s L).2.2 = 9 := by rw [r1]; exact h9
    rw [add_room h.down hnb rfl (by rw [he9]; decide), he9]
    refine ⟨?_, r2, r3⟩
    rw [r1]
    rfl
end Go.Proofs.Ytekhpcfggbegaaa.G9
