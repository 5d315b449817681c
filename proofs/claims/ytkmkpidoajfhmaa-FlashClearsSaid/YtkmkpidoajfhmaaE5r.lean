/- A flash device: what a call leaves of its form, and of its bytes. -/
import Derived.Test.YtkmkpidoajfhmaaE5q
namespace Go.Proofs.Ytkmkpidoajfhmaa.E5p
set_option maxRecDepth 100000
namespace Fl
/-- Two sectors of 64 bytes. -/
def two (s : Fl) : Prop := s.size = 64 ∧ s.wear.length = 2
theorem two_program {s : Fl} (h : s.two) (k : Int) (b : List UInt8) : (s.program k b).1.two := by
  unfold program
  split
  · exact h
  · split
    · unfold prog
      split <;> exact h
    · exact h
theorem two_erase {s : Fl} (h : s.two) (k : Int) : (s.erase k).1.two := by
  unfold erase
  split
  · exact h
  · split
    · exact ⟨h.1, by simpa [clear] using h.2⟩
    · exact h
theorem two_arm {s : Fl} (h : s.two) (k : Int) (t : UInt8) : (s.arm k t).two := by
  unfold arm
  split <;> exact h
theorem two_restore {s : Fl} (h : s.two) : s.restore.two := h
theorem two_len {s : Fl} {m : Nat} (h : s.two) (ok : s.Ok m) : s.bytes.length = 128 := by rw [ok.len, h.1, h.2]
theorem program_bytes (s : Fl) (k : Int) (b : List UInt8) : ∃ p e, (s.program k b).1.bytes = andAt s.bytes p e := by
  unfold program
  split
  · exact ⟨0, [], (andAt_nil _ _).symm⟩
  · split
    · unfold prog
      split
      · exact ⟨_, _, rfl⟩
      · exact ⟨_, _, rfl⟩
    · exact ⟨0, [], (andAt_nil _ _).symm⟩
theorem two_read {s : Fl} {m : Nat} (h : s.two) (ok : s.Ok m) (hd : s.down = false) : s.read 0 128 = (s.bytes, 0) := by
  have hl := two_len h ok
  have := read_up hd 0 128 (by omega)
  rw [show ((0 : Nat) : Int) = 0 from rfl, show ((128 : Nat) : Int) = 128 from rfl] at this
  rw [this, List.drop_zero, List.take_of_length_le (by omega)]
theorem two_erased {s : Fl} (h : s.two) (k : Nat) (hk : k < 2) : (s.restore.erase (k : Int)).1.bytes = orAt s.bytes (k * 64) 64 255 ∧ (s.restore.erase (k : Int)).1.down = false := by
  have e1 : s.restore.inside (k : Int) = true := by
    have : s.restore.wear.length = 2 := h.2
    simp [inside, this]; omega
  have e2 : s.restore.last = false := rfl
  have e3 : s.restore.erase (k : Int) = (s.restore.clear k, 0) := by
    unfold erase
    rw [e1, e2]
    rfl
  rw [e3]
  refine ⟨?_, e2⟩
  show orAt s.bytes (k * s.size) s.size _ = _
  rw [h.1]
  rfl
end Fl
theorem clear_and (x e : UInt8) (c : Prop) [Decidable c] : (if c then x &&& e else x).toNat &&& (255 - x.toNat) = 0 := by
  have h : ∀ y : UInt8, (y &&& ~~~ y) = 0 := fun y => by
    apply UInt8.eq_of_toBitVec_eq
    rw [UInt8.toBitVec_and, UInt8.toBitVec_not]
    simp
  have e1 : 255 - x.toNat = (~~~ x).toNat := by
    rw [UInt8.toNat_not]; rfl
  rw [e1, ← UInt8.toNat_and]
  split
  · have : x &&& e &&& ~~~ x = 0 := by rw [UInt8.and_comm x e, UInt8.and_assoc, h]; simp
    rw [this]; rfl
  · rw [h]; rfl
end Go.Proofs.Ytkmkpidoajfhmaa.E5p
