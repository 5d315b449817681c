/- Walks: Add. -/
import Derived.Test.YtekhpcfggbegaaaGj
import Derived.Test.YtekhpcfggbegaaaGk
namespace Go.Proofs.Ytekhpcfggbegaaa.G9
open Go.RowKit Go.Proofs.Ytekhpcfggbegaaa.Mem Go.Proofs.Ytekhpcfggbegaaa.E5p Go.Proofs.Ytekhpcfggbegaaa.E5m Go.Proofs.Ytekhpcfggbegaaa.E5a Go.Proofs.Ytekhpcfggbegaaa.E5d Go.Proofs.Ytekhpcfggbegaaa.V7 Go.Proofs.Ytekhpcfggbegaaa.V9
set_option maxRecDepth 100000
set_option maxHeartbeats 4000000

/-- A log, whether it has ended or not. -/
def LS (B : Nat) (W w : World) (d : Sh) (s : Fl) (m g : Nat) (rv : Value) (o : Option Lg) (n : Nat) : Prop :=
  match o with
  | some L => LA B W w d s m g rv L n
  | none => LE B W w d s m g ∧ rv = .slice none 0 0
theorem add_down {s : Fl} {L : Lg} {e : Ev} (h : s.down = true) : Lg.add s L e = (s, none, 0, 10) := by unfold Lg.add; rw [if_pos h]
theorem add_bad {s : Fl} {L : Lg} {e : Ev} (h : s.down = false) (h1 : vld e = false ∨ e.id ≠ 0) : Lg.add s L e = (s, some L, 0, 1) := by unfold Lg.add; rw [if_neg (by simp [h]), if_pos h1]
theorem add_room {s : Fl} {L : Lg} {e : Ev} {r : Fl × Lg × Int} (h : s.down = false) (h1 : ¬ (vld e = false ∨ e.id ≠ 0)) (hr : Lg.room s L = r) (h2 : r.2.2 ≠ 0) : Lg.add s L e = (r.1, r.2.1.note r.2.2, 0, r.2.2) := by
  unfold Lg.add
  dsimp only
  rw [if_neg (by simp [h]), if_neg h1, hr, if_pos h2]
theorem add_write {s : Fl} {L : Lg} {e : Ev} {r u : Fl × Lg × Int} (h : s.down = false) (h1 : ¬ (vld e = false ∨ e.id ≠ 0)) (hr : Lg.room s L = r) (h2 : r.2.2 = 0) (hu : Lg.write r.1 r.2.1 (Lg.withId e r.2.1.nid) = u) (h3 : u.2.2 ≠ 0) : Lg.add s L e = (u.1, u.2.1.note u.2.2, 0, u.2.2) := by
  unfold Lg.add
  dsimp only
  rw [if_neg (by simp [h]), if_neg h1, hr, if_neg (by simp [h2]), hu, if_pos h3]
theorem add_done {s : Fl} {L : Lg} {e : Ev} {r u : Fl × Lg × Int} (h : s.down = false) (h1 : ¬ (vld e = false ∨ e.id ≠ 0)) (hr : Lg.room s L = r) (h2 : r.2.2 = 0) (hu : Lg.write r.1 r.2.1 (Lg.withId e r.2.1.nid) = u) (h3 : u.2.2 = 0) : Lg.add s L e = (u.1, some u.2.1, r.2.1.nid, 0) := by
  unfold Lg.add
  dsimp only
  rw [if_neg (by simp [h]), if_neg h1, hr, if_neg (by simp [h2]), hu, if_neg (by simp [h3])]
theorem room_like (s : Fl) (L : Lg) : Like s (Lg.room s L).1 := by
  unfold Lg.room
  split
  · exact Like.refl s
  split
  · split
    · exact open_like s L _
    · exact Like.refl s
  · exact open_like s L _
theorem open_used {s : Fl} {L : Lg} {t : Nat} (h : (Lg.openSec s L t).2.2 = 0) : (Lg.openSec s L t).2.1.used = 0 ∧ 1 ≤ (Lg.openSec s L t).2.1.newest := by
  unfold Lg.openSec at h ⊢
  dsimp only at h ⊢
  split at h
  · cases h
  rename_i h0
  rw [if_neg h0]
  split at h
  · rename_i h1
    exact absurd h h1
  rename_i h1
  rw [if_neg h1]
  split at h
  · rename_i h2
    exact absurd h h2
  rename_i h2
  rw [if_neg h2]
  split at h
  · rename_i h3
    exact absurd h h3
  rename_i h3
  rw [if_neg h3]
  exact ⟨rfl, Nat.le_add_left 1 _⟩
/-- Room has been made: there is a slot. -/
theorem room_used {s : Fl} {L : Lg} {n m : Nat} (hL : L.Ok s n) (hs : s.Ok m) (h : (Lg.room s L).2.2 = 0) : (Lg.room s L).2.1.used < slots s ∧ 1 ≤ (Lg.room s L).2.1.newest := by
  have h3 := (slots_le hs).2
  unfold Lg.room at h ⊢
  split
  · rename_i hu
    exact ⟨hu, hL.one hu⟩
  · rename_i hu
    rw [if_neg hu] at h
    split
    · rename_i hf
      rw [if_pos hf] at h
      split
      · rename_i ho
        rw [if_pos ho] at h
        obtain ⟨a, b⟩ := open_used h
        exact ⟨by omega, b⟩
      · rename_i ho
        rw [if_neg ho] at h
        cases h
    · rename_i hf
      rw [if_neg hf] at h
      obtain ⟨a, b⟩ := open_used h
      exact ⟨by omega, b⟩
section
variable {B : Nat} {W w w' : World} {d : Sh} {s s' : Fl} {m m' g n n' : Nat} {rv rv' : Value} {L L' : Lg}
/-- What Add leaves. -/
def Adds (B : Nat) (W w : World) (d : Sh) (m g : Nat) (rv : Value) (n : Nat) (r : Fl × Option Lg × Nat × Int) (x : Ending) (w' : World) : Prop :=
  ∃ rv', x = .returned (.tuple #[.int .u16 (r.2.2.1 : Int), .int .i64 r.2.2.2]) ∧ LS B W w' d r.1 m g rv' r.2.1 n ∧ Kp d g rv rv' w w'
theorem note_s (h : LA B W w d s m g rv L n) (e : Int) (he : 0 ≤ e ∧ e ≤ 10) : Calls Try.prog 117 #[.pointer (some ⟨g, 0, none⟩), .int .i64 e] w fun x w' => x = .returned (.tuple #[]) ∧ ∃ rv', LS B W w' d s m g rv' (L.note e) n ∧ Kp d g rv rv' w w' :=
  (note_p h e ⟨by omega, by omega⟩).mono fun x w' ⟨h1, h2, h3, h4⟩ => by
    refine ⟨h1, ?_⟩
    unfold Lg.note
    by_cases h10 : e = 10
    · obtain ⟨a, b⟩ := h2 h10
      rw [if_pos h10]
      exact ⟨_, ⟨a, rfl⟩, b⟩
    · rw [if_neg h10]
      by_cases h9 : e = 9
      · obtain ⟨a, b⟩ := h3 h9
        rw [if_pos h9]
        exact ⟨_, a, b⟩
      · rw [if_neg h9]
        obtain rfl := h4 h10 h9
        exact ⟨rv, h, Kp.refl⟩
theorem LS.m_ {o : Option Lg} (h : LS B W w d s m g rv o n) (hm : m ≤ m') (hn : n ≤ n') : LS B W w d s m' g rv o n' := by
  unfold LS at h ⊢
  cases o with
  | none => exact ⟨⟨⟨h.1.dev.dev, h.1.dev.ok.more hm, h.1.dev.low⟩, h.1.head, h.1.low⟩, h.2⟩
  | some L => exact ⟨⟨h.dev.dev, h.dev.ok.more hm, h.dev.low⟩, h.head, h.own, h.low, h.ok.more hn⟩
end
theorem prog_rng (s : Fl) (k : Int) (b : List UInt8) : 0 ≤ (s.program k b).2 ∧ (s.program k b).2 ≤ 10 := by
  unfold Fl.program
  split
  · first | decide | exact (by decide : (0 : Int) ≤ 0 ∧ (0 : Int) ≤ 10) | exact (by decide : (0 : Int) ≤ 9 ∧ (9 : Int) ≤ 10) | exact (by decide : (0 : Int) ≤ 3 ∧ (3 : Int) ≤ 10) | exact (by decide : (0 : Int) ≤ 10 ∧ (10 : Int) ≤ 10) | exact (by decide : (0 : Int) ≤ 2 ∧ (2 : Int) ≤ 10)
  split
  · dsimp only
    split <;> (first | decide | exact (by decide : (0 : Int) ≤ 0 ∧ (0 : Int) ≤ 10) | exact (by decide : (0 : Int) ≤ 9 ∧ (9 : Int) ≤ 10) | exact (by decide : (0 : Int) ≤ 3 ∧ (3 : Int) ≤ 10) | exact (by decide : (0 : Int) ≤ 10 ∧ (10 : Int) ≤ 10) | exact (by decide : (0 : Int) ≤ 2 ∧ (2 : Int) ≤ 10))
  · first | decide | exact (by decide : (0 : Int) ≤ 0 ∧ (0 : Int) ≤ 10) | exact (by decide : (0 : Int) ≤ 9 ∧ (9 : Int) ≤ 10) | exact (by decide : (0 : Int) ≤ 3 ∧ (3 : Int) ≤ 10) | exact (by decide : (0 : Int) ≤ 10 ∧ (10 : Int) ≤ 10) | exact (by decide : (0 : Int) ≤ 2 ∧ (2 : Int) ≤ 10)
theorem wipe_rng (s : Fl) (L : Lg) (q : Nat) : 0 ≤ (Lg.wipe s L q).2 ∧ (Lg.wipe s L q).2 ≤ 10 := by
  have hr : 0 ≤ (s.read (L.start s q) s.size).2 ∧ (s.read (L.start s q) s.size).2 ≤ 10 := by
    unfold Fl.read
    split
    · first | decide | exact (by decide : (0 : Int) ≤ 0 ∧ (0 : Int) ≤ 10) | exact (by decide : (0 : Int) ≤ 9 ∧ (9 : Int) ≤ 10) | exact (by decide : (0 : Int) ≤ 3 ∧ (3 : Int) ≤ 10) | exact (by decide : (0 : Int) ≤ 10 ∧ (10 : Int) ≤ 10) | exact (by decide : (0 : Int) ≤ 2 ∧ (2 : Int) ≤ 10)
    split <;> (first | decide | exact (by decide : (0 : Int) ≤ 0 ∧ (0 : Int) ≤ 10) | exact (by decide : (0 : Int) ≤ 9 ∧ (9 : Int) ≤ 10) | exact (by decide : (0 : Int) ≤ 3 ∧ (3 : Int) ≤ 10) | exact (by decide : (0 : Int) ≤ 10 ∧ (10 : Int) ≤ 10) | exact (by decide : (0 : Int) ≤ 2 ∧ (2 : Int) ≤ 10))
  unfold Lg.wipe
  dsimp only
  split
  · exact hr
  split
  · first | decide | exact (by decide : (0 : Int) ≤ 0 ∧ (0 : Int) ≤ 10) | exact (by decide : (0 : Int) ≤ 9 ∧ (9 : Int) ≤ 10) | exact (by decide : (0 : Int) ≤ 3 ∧ (3 : Int) ≤ 10) | exact (by decide : (0 : Int) ≤ 10 ∧ (10 : Int) ≤ 10) | exact (by decide : (0 : Int) ≤ 2 ∧ (2 : Int) ≤ 10)
  · unfold Fl.erase
    split
    · first | decide | exact (by decide : (0 : Int) ≤ 0 ∧ (0 : Int) ≤ 10) | exact (by decide : (0 : Int) ≤ 9 ∧ (9 : Int) ≤ 10) | exact (by decide : (0 : Int) ≤ 3 ∧ (3 : Int) ≤ 10) | exact (by decide : (0 : Int) ≤ 10 ∧ (10 : Int) ≤ 10) | exact (by decide : (0 : Int) ≤ 2 ∧ (2 : Int) ≤ 10)
    split
    · dsimp only
      split <;> (first | decide | exact (by decide : (0 : Int) ≤ 0 ∧ (0 : Int) ≤ 10) | exact (by decide : (0 : Int) ≤ 9 ∧ (9 : Int) ≤ 10) | exact (by decide : (0 : Int) ≤ 3 ∧ (3 : Int) ≤ 10) | exact (by decide : (0 : Int) ≤ 10 ∧ (10 : Int) ≤ 10) | exact (by decide : (0 : Int) ≤ 2 ∧ (2 : Int) ≤ 10))
    · first | decide | exact (by decide : (0 : Int) ≤ 0 ∧ (0 : Int) ≤ 10) | exact (by decide : (0 : Int) ≤ 9 ∧ (9 : Int) ≤ 10) | exact (by decide : (0 : Int) ≤ 3 ∧ (3 : Int) ≤ 10) | exact (by decide : (0 : Int) ≤ 10 ∧ (10 : Int) ≤ 10) | exact (by decide : (0 : Int) ≤ 2 ∧ (2 : Int) ≤ 10)
theorem open_rng (s : Fl) (L : Lg) (t : Nat) : 0 ≤ (Lg.openSec s L t).2.2 ∧ (Lg.openSec s L t).2.2 ≤ 10 := by
  unfold Lg.openSec
  dsimp only
  split
  · first | decide | exact (by decide : (0 : Int) ≤ 0 ∧ (0 : Int) ≤ 10) | exact (by decide : (0 : Int) ≤ 9 ∧ (9 : Int) ≤ 10) | exact (by decide : (0 : Int) ≤ 3 ∧ (3 : Int) ≤ 10) | exact (by decide : (0 : Int) ≤ 10 ∧ (10 : Int) ≤ 10) | exact (by decide : (0 : Int) ≤ 2 ∧ (2 : Int) ≤ 10)
  split
  · exact wipe_rng s L _
  split
  · exact prog_rng _ _ _
  split
  · exact prog_rng _ _ _
  · first | decide | exact (by decide : (0 : Int) ≤ 0 ∧ (0 : Int) ≤ 10) | exact (by decide : (0 : Int) ≤ 9 ∧ (9 : Int) ≤ 10) | exact (by decide : (0 : Int) ≤ 3 ∧ (3 : Int) ≤ 10) | exact (by decide : (0 : Int) ≤ 10 ∧ (10 : Int) ≤ 10) | exact (by decide : (0 : Int) ≤ 2 ∧ (2 : Int) ≤ 10)
theorem room_rng (s : Fl) (L : Lg) : 0 ≤ (Lg.room s L).2.2 ∧ (Lg.room s L).2.2 ≤ 10 := by
  unfold Lg.room
  split
  · first | decide | exact (by decide : (0 : Int) ≤ 0 ∧ (0 : Int) ≤ 10) | exact (by decide : (0 : Int) ≤ 9 ∧ (9 : Int) ≤ 10) | exact (by decide : (0 : Int) ≤ 3 ∧ (3 : Int) ≤ 10) | exact (by decide : (0 : Int) ≤ 10 ∧ (10 : Int) ≤ 10) | exact (by decide : (0 : Int) ≤ 2 ∧ (2 : Int) ≤ 10)
  split
  · split
    · exact open_rng _ _ _
    · first | decide | exact (by decide : (0 : Int) ≤ 0 ∧ (0 : Int) ≤ 10) | exact (by decide : (0 : Int) ≤ 9 ∧ (9 : Int) ≤ 10) | exact (by decide : (0 : Int) ≤ 3 ∧ (3 : Int) ≤ 10) | exact (by decide : (0 : Int) ≤ 10 ∧ (10 : Int) ≤ 10) | exact (by decide : (0 : Int) ≤ 2 ∧ (2 : Int) ≤ 10)
  · exact open_rng _ _ _
theorem write_rng (s : Fl) (L : Lg) (e : Ev) : 0 ≤ (Lg.write s L e).2.2 ∧ (Lg.write s L e).2.2 ≤ 10 := by
  unfold Lg.write
  dsimp only
  split
  · exact prog_rng _ _ _
  · first | decide | exact (by decide : (0 : Int) ≤ 0 ∧ (0 : Int) ≤ 10) | exact (by decide : (0 : Int) ≤ 9 ∧ (9 : Int) ≤ 10) | exact (by decide : (0 : Int) ≤ 3 ∧ (3 : Int) ≤ 10) | exact (by decide : (0 : Int) ≤ 10 ∧ (10 : Int) ≤ 10) | exact (by decide : (0 : Int) ≤ 2 ∧ (2 : Int) ≤ 10)
section
variable {B : Nat} {W w w' : World} {d : Sh} {s s' : Fl} {m m' g n n' : Nat} {rv rv' : Value} {L L' : Lg}
theorem LA.far_put (h : LA B W w d s m g rv L n) {b : Nat} (hf : Far d g rv b) (hB : B ≤ b) (i : Nat) (v : Value) : LA B W (w.setCell ⟨b, i, none⟩ v) d s m g rv L n := by
  obtain ⟨a1, a2, a3, a4, a5⟩ := hf
  have ho : ∀ k, k ≠ b → (w.setCell ⟨b, i, none⟩ v).heap[k]? = w.heap[k]? := fun k hk => other_block w b i k v hk
  exact ⟨⟨h.dev.dev.stays (ho _ a1.symm) (ho _ a2.symm) (ho _ a3.symm), h.dev.ok, h.dev.low.grown (set_grown w b i v) h.dev.base (fun q hq => by injection hq with hq; rw [← hq]; exact hB)⟩, (ho _ a4.symm).trans h.head, row_any h.own (fun k hk => ho k (fun e => a5 (by rw [← e]; exact hk))), h.low, h.ok⟩
theorem Kp.newer (k : Kp d g rv rv' w w') {b : Nat} (hb : w.heap.size ≤ b) (i : Nat) (v : Value) : Kp d g rv rv' w (w'.setCell ⟨b, i, none⟩ v) :=
  ⟨k.os, k.tape, k.output, by have := k.size; simpa using this, fun j hj a1 a2 a3 a4 a5 => by
    obtain ⟨h1, h2⟩ := k.block j hj a1 a2 a3 a4 a5
    exact ⟨(other_block w' b i j v (by omega)).trans h1, h2⟩⟩
theorem vld_id {e : Ev} (h : vld e = true) (i : Nat) (hi : i ≤ 65534) : vld (Lg.withId e i) = true := by
  simp only [vld, Bool.and_eq_true, decide_eq_true_eq] at h ⊢
  exact ⟨⟨hi, h.1.2⟩, h.2⟩
theorem fit_id {e : Ev} (h : e.Fit) (i : Nat) (hi : i ≤ 65534) : (Lg.withId e i).Fit := ⟨by show i < 65536; omega, h.time, h.gen, h.st, h.sn, h.ty, h.d0, h.d1, h.d2⟩
theorem add_p (h : LA B W w d s m g rv L n) (hm : m ≤ 700000) (hn : n ≤ 900) (e : Ev) (he : e.Fit) :
    Calls Try.prog 80 #[.pointer (some ⟨g, 0, none⟩), e.v] w (Adds B W w d (m + 40) g rv (n + 1) (Lg.add s L e)) := by
  have hal : Below w.heap.size w (w.alloc (.cells e.cells 89)) := (Below.refl _ _).alloc (Nat.le_refl _) _
  have h0 := h.step hal
  have hE : Box (w.alloc (.cells e.cells 89)) w.heap.size e := Box.new w e
  have K0 : Kp d g rv rv w (w.alloc (.cells e.cells 89)) := Kp.of_below hal (Nat.le_refl _)
  have hfb := h.far (Nat.le_refl w.heap.size)
  have hbx : w.heap.size < (w.alloc (.cells e.cells 89)).heap.size := by simp
  have HVV := Lib.hid (fun u => valid_p e u)
  have HEF := Lib.hid he
  have HM := Lib.hid (Nat.le_trans hm (by decide : 700000 ≤ 800000))
  have HM2 : Hid (m + 20 ≤ 800000) := Lib.hid (by omega)
  have HN := Lib.hid hn
  obtain ⟨v0, hv0⟩ : ∃ v0, v0 = vld e := ⟨_, rfl⟩
  rw [← hv0] at HVV
  have HV0 := Lib.hid hv0
  have hidn : e.id < 65536 := he.id
  have HBS := Lib.hid h.dev.base
  rcases hdn : s.down with _ | _
  · have HEI := Lib.hid (down_no h0 hdn)
    have HDN := Lib.hid hdn
    clear h hal hm hn he hv0 hdn
    obtain ⟨id, time, gen, st, sn, ty, de, d0, d1, d2⟩ := e
    dsimp only [Ev.v, Ev.cells] at *
    have H0 := Lib.hid h0
    have HE := Lib.hid hE
    have KK0 := Lib.hid K0
    have HFB := Lib.hid hfb
    clear h0 hE K0 hfb
    go_enter Try.func80, Try.ntmps80
    go_wp2_with fail
    refine (HEI.out).mono ?_
    rintro x u0 ⟨rfl, hu0⟩
    obtain ⟨w0, hw0⟩ : ∃ w0, w0 = w.alloc (.cells #[.int .u16 (id : Int), .int .u32 (time : Int), .int .u16 (gen : Int), .int .u8 (st : Int), .int .u8 (sn : Int), .int .u8 (ty : Int), .bool de, .int .u8 (d0 : Int), .int .u8 (d1 : Int), .int .u8 (d2 : Int)] 89) := ⟨_, rfl⟩
    rw [← hw0] at HE H0 KK0 hbx hu0
    rw [hu0]
    clear hu0 hw0 HEI
    obtain ⟨bx, hbq⟩ : ∃ bx, bx = w.heap.size := ⟨_, rfl⟩
    rw [← hbq] at HE HFB hbx ⊢
    have HBQ := Lib.hid hbq
    clear hbq
    go_wp2_with (refine wpList_load_box rfl (.tmp 3) rfl bx _ rfl HE.out ?_)
    refine (HVV.out _).mono ?_
    rintro x w1 ⟨rfl, hb1⟩
    have h1 := H0.out.step hb1
    have hE1 := HE.out.below hb1 hbx
    have K1 := KK0.out.trans (Kp.of_below (d := d) (g := g) (rv := rv) hb1 (Nat.le_refl _))
    have hbx1 := Nat.lt_of_lt_of_le hbx hb1.size
    have b0 := hE1.c0
    have H1 := Lib.hid h1
    have HE1 := Lib.hid hE1
    have KK1 := Lib.hid K1
    clear h1 hE1 K1 hb1 H0 HE KK0 hbx HVV
    cases v0
    · have HO := Lib.hid (add_bad (L := L) HDN.out (.inl HV0.out.symm))
      go_wp2_with fail
      go_ret2
      rw [HO.out]
      exact ⟨rv, rfl, (show LS B W w1 d s m g rv (some L) n from H1.out).m_ (Nat.le_add_right m 40) (Nat.le_succ n), KK1.out⟩
    · rcases Nat.eq_zero_or_pos id with hi0 | hi0
      · subst hi0
        have HOK : Hid (¬ (vld (⟨0, time, gen, st, sn, ty, de, d0, d1, d2⟩ : Ev) = false ∨ (0 : Nat) ≠ 0)) := Lib.hid (by
          intro h
          rcases h with h | h
          · rw [← HV0.out] at h
            cases h
          · exact h rfl)
        have HRM := Lib.hid (room_p H1.out HM.out HN.out)
        go_wp2_with fail
        refine HRM.out.mono ?_
        rintro x w2 ⟨rv2, rfl, h2, k2⟩
        have HR2 : Hid (Lg.room s L = Lg.room s L) := Lib.hid rfl
        have HUS := Lib.hid (room_used H1.out.ok H1.out.dev.ok)
        have HRG := Lib.hid (room_rng s L)
        have HLK := Lib.hid (room_like s L)
        generalize hrr : Lg.room s L = rr at h2 HR2 HUS HRG HLK ⊢
        have HRR := Lib.hid hrr
        clear hrr HR2
        obtain ⟨s2, L2, e2⟩ := rr
        simp only at h2 HUS HRG HLK ⊢
        have hb2 : Box w2 bx ⟨0, time, gen, st, sn, ty, de, d0, d1, d2⟩ := (k2.at_ HFB.out hbx1).1.trans HE1.out
        have hf2 := (k2.at_ HFB.out hbx1).2
        have hbx2 := Nat.lt_of_lt_of_le hbx1 k2.size
        have K2 := KK1.out.trans k2
        have H2 := Lib.hid h2
        have HB2 := Lib.hid hb2
        have HF2 := Lib.hid hf2
        have KK2 := Lib.hid K2
        clear h2 hb2 hf2 K2 k2 H1 HE1 KK1 b0 hbx1 HRM
        rcases Classical.em (e2 = 0) with he | he
        · subst he
          have c7 := H2.out.c7
          have b0 := HB2.out.c0
          have f0 := HB2.out.fz 0
          have hlg2 := H2.out.lg
          have hn2 := H2.out.ok.nid
          have hev : Hid ((Lg.withId ⟨0, time, gen, st, sn, ty, de, d0, d1, d2⟩ L2.nid).Fit) := Lib.hid (fit_id HEF.out _ hn2.2)
          have hvv : Hid (vld (Lg.withId ⟨0, time, gen, st, sn, ty, de, d0, d1, d2⟩ L2.nid) = true) := Lib.hid (vld_id HV0.out.symm _ hn2.2)
          have hBb : B ≤ bx := by rw [HBQ.out]; exact HBS.out
          have h3 := H2.out.far_put HF2.out hBb 0 (.int .u16 (L2.nid : Int))
          have k3 := KK2.out.newer (b := bx) (by rw [HBQ.out]; exact Nat.le_refl _) 0 (.int .u16 (L2.nid : Int))
          have e3 : Box (w2.setCell ⟨bx, 0, none⟩ (.int .u16 (L2.nid : Int))) bx ⟨L2.nid, time, gen, st, sn, ty, de, d0, d1, d2⟩ := HB2.out.set 0 _ _ rfl
          have hwp := write_p h3 HM2.out HN.out _ hev.out hvv.out (HUS.out rfl).2 (by rw [HLK.out.slots]; exact (HUS.out rfl).1)
          have HWP := Lib.hid hwp
          have HE3 := Lib.hid e3
          have K3 := Lib.hid k3
          have HWL := Lib.hid (write_rng s2 L2 (Lg.withId ⟨0, time, gen, st, sn, ty, de, d0, d1, d2⟩ L2.nid))
          obtain ⟨rw3, hrw⟩ : ∃ r, r = Lg.write s2 L2 (Lg.withId ⟨0, time, gen, st, sn, ty, de, d0, d1, d2⟩ L2.nid) := ⟨_, rfl⟩
          rw [← hrw] at HWP HWL
          have HRW := Lib.hid hrw
          clear h3 k3 e3 hwp hrw hBb hn2
          go_wp2_with (refine wpList_load_box rfl (.tmp 3) rfl bx ⟨L2.nid, time, gen, st, sn, ty, de, d0, d1, d2⟩ rfl HE3.out ?_)
          refine HWP.out.mono ?_
          rintro x w4 ⟨rv4, rfl, h4, k4⟩
          obtain ⟨s4, L4, e4⟩ := rw3
          simp only at h4 HWL ⊢
          have kf := (k4.at_ (by exact HF2.out) (by simpa using hbx2)).1.trans HE3.out
          have HB4 : Hid (Box w4 bx ⟨L2.nid, time, gen, st, sn, ty, de, d0, d1, d2⟩) := Lib.hid kf
          have H4 := Lib.hid h4
          have K4 := Lib.hid (K3.out.trans k4)
          clear h4 k4 HWP K3 HE3 HB2 H2 b0 c7 f0 kf
          rcases Classical.em (e4 = 0) with he4 | he4
          · subst he4
            have HO := Lib.hid (add_done HDN.out HOK.out HRR.out rfl HRW.out.symm rfl)
            have b0 := HB4.out.c0
            go_wp2_with fail
            go_ret2
            rw [HO.out]
            exact ⟨rv4, rfl, (show LS B W w4 d s4 (m + 20 + 20) g rv4 (some L4) (n + 1) from H4.out).m_ (Nat.le_refl _) (Nat.le_refl _), K4.out⟩
          · have g0 : (e4 != 0) = true := by simpa using he4
            have HO := Lib.hid (add_write HDN.out HOK.out HRR.out rfl HRW.out.symm he4)
            have HNT := Lib.hid (note_s H4.out e4 HWL.out)
            clear he4
            go_wp2_with fail
            refine HNT.out.mono ?_
            rintro x w5 ⟨rfl, rv5, h5, k5⟩
            have H5 := Lib.hid h5
            have K5 := Lib.hid (K4.out.trans k5)
            clear h5 k5
            go_wp2_with fail
            go_ret2
            rw [HO.out]
            exact ⟨rv5, rfl, H5.out.m_ (Nat.le_refl _) (Nat.le_refl _), K5.out⟩
        · have g0 : (e2 == 0) = false := by simpa using he
          have g1 : (e2 != 0) = true := by simpa using he
          have HO := Lib.hid (add_room HDN.out HOK.out HRR.out he)
          have HNT := Lib.hid (note_s H2.out e2 HRG.out)
          clear he
          go_wp2_with fail
          refine HNT.out.mono ?_
          rintro x w3 ⟨rfl, rv3, h3, k3⟩
          have H3 := Lib.hid h3
          have K3 := Lib.hid (KK2.out.trans k3)
          clear h3 k3
          go_wp2_with fail
          go_ret2
          rw [HO.out]
          exact ⟨rv3, rfl, H3.out.m_ (Nat.add_le_add_left (by decide : 20 ≤ 40) m) (Nat.le_succ n), K3.out⟩
      · have g0 : ((id : Int) != 0) = true := by simp; omega
        have HO := Lib.hid (add_bad (L := L) (e := ⟨id, time, gen, st, sn, ty, de, d0, d1, d2⟩) HDN.out (.inr (Nat.ne_of_gt hi0)))
        go_wp2_with fail
        go_ret2
        rw [HO.out]
        exact ⟨rv, rfl, (show LS B W w1 d s m g rv (some L) n from H1.out).m_ (Nat.le_add_right m 40) (Nat.le_succ n), KK1.out⟩
  · have HEI := Lib.hid (down_yes h0 hdn)
    have HO := Lib.hid (add_down (L := L) (e := e) hdn)
    have KK0 := Lib.hid K0
    clear h hal hm hn he hv0 hdn h0 hE K0 hfb hbx
    obtain ⟨id, time, gen, st, sn, ty, de, d0, d1, d2⟩ := e
    dsimp only [Ev.v, Ev.cells] at *
    go_enter Try.func80, Try.ntmps80
    go_wp2_with fail
    refine (HEI.out).mono ?_
    rintro x w1 ⟨rfl, h1, k1⟩
    have H1 := Lib.hid h1
    have K1 := Lib.hid (KK0.out.trans k1)
    clear h1 k1
    go_wp2_with fail
    go_ret2
    rw [HO.out]
    exact ⟨.slice none 0 0, rfl, (show LS B W w1 d s m g (.slice none 0 0) none n from ⟨H1.out, rfl⟩).m_ (Nat.le_add_right m 40) (Nat.le_succ n), K1.out⟩
end
end Go.Proofs.Ytekhpcfggbegaaa.G9
