/- A flash device: more of its mathematics: reading, programming in parts. -/
import Derived.Test.YtekhpcfggbegaaaE5p
namespace Go.Proofs.Ytekhpcfggbegaaa.E5p
set_option maxRecDepth 100000
namespace Fl
theorem read_up {s : Fl} (hd : s.down = false) (k n : Nat) (h : k + n ≤ s.bytes.length) : s.read (k : Int) (n : Int) = ((s.bytes.drop k).take n, 0) := by
  have e1 : s.fits (k : Int) (n : Int) = true := by simp [fits]; omega
  unfold read
  rw [hd, e1]
  simp
theorem program_up {s : Fl} (hd : s.down = false) (k : Nat) (b : List UInt8) (h : k + b.length ≤ s.bytes.length) (hh : s.holds b.length = true) :
    s.program (k : Int) b = ({ s with bytes := andAt s.bytes k b, steps := s.steps + b.length, left := s.left - b.length }, 0) := by
  have e1 : s.fits (k : Int) (b.length : Int) = true := by simp [fits]; omega
  unfold program prog
  rw [hd, e1, hh]
  simp
theorem program_fails {s : Fl} (hd : s.down = false) (k : Nat) (b : List UInt8) (h : k + b.length ≤ s.bytes.length) (h1 : 1 ≤ s.left) (h2 : s.left ≤ b.length) :
    s.program (k : Int) b = ({ s with bytes := andAt s.bytes k (b.take (s.left - 1) ++ [b.getD (s.left - 1) 0 ||| s.torn]), steps := s.steps + s.left, left := 0, down := true }, 10) := by
  have e1 : s.fits (k : Int) (b.length : Int) = true := by simp [fits]; omega
  have e2 : s.holds b.length = false := by simp [holds]; omega
  unfold program prog
  rw [hd, e1, e2]
  simp
theorem andAt_parts (b : List UInt8) (k : Nat) : andAt (andAt (List.replicate b.length 255) k (b.drop k)) 0 (b.take k) = b := by
  apply List.ext_getElem (by simp)
  intro i h1 h2
  rw [andAt_get, if_pos (Nat.zero_le _), andAt_get, List.getElem_replicate, List.getD_eq_getElem?_getD, List.getD_eq_getElem?_getD, Nat.sub_zero]
  by_cases hk : k ≤ i
  · rw [if_pos hk, List.getElem?_eq_none (l := b.take k) (by simp; omega), List.getElem?_drop, show k + (i - k) = i by omega, List.getElem?_eq_getElem h2]
    simp [and_255, and_255']
  · rw [if_neg hk, List.getElem?_take, if_pos (by omega), List.getElem?_eq_getElem h2]
    simp [and_255']
/-- What the first of two parts leaves. -/
def half (b : List UInt8) (k : Nat) : Fl := { new 2 64 with bytes := andAt (List.replicate 128 255) k (b.drop k), steps := 128 - k }
theorem half_of (b : List UInt8) (k : Nat) (h : b.length = 128) (hk : k ≤ 128) : (new 2 64).program (k : Int) (b.drop k) = (half b k, 0) := by
  rw [program_up rfl k (b.drop k) (by simp [new]; omega) (by simp [holds, new])]
  simp [half, new, h]
theorem rest_of (R : List UInt8) (z : Nat) (W : List Int) (b : List UInt8) (k : Nat) (hR : R = List.replicate b.length 255) (h : b.length = 128) (hk : k ≤ 128) :
    (⟨z, andAt R k (b.drop k), W, 128 - k, 0, 0, false⟩ : Fl).program 0 (b.take k) = (⟨z, b, W, 128, 0, 0, false⟩, 0) := by
  have hl : R.length = 128 := by rw [hR, List.length_replicate, h]
  have ht : (b.take k).length = k := by rw [List.length_take]; omega
  have := program_up (s := ⟨z, andAt R k (b.drop k), W, 128 - k, 0, 0, false⟩) rfl 0 (b.take k) (by rw [ht]; show 0 + k ≤ (andAt R k (b.drop k)).length; rw [andAt_len]; omega) (by simp [holds])
  rw [show ((0 : Nat) : Int) = 0 from rfl] at this
  rw [this, ht]
  have e : andAt (andAt R k (b.drop k)) 0 (b.take k) = b := by rw [hR]; exact andAt_parts b k
  have e2 : 128 - k + k = 128 := by omega
  have e3 : 0 - k = 0 := by omega
  simp only [e, e2, e3]
theorem half_rest (b : List UInt8) (k : Nat) (h : b.length = 128) (hk : k ≤ 128) : (half b k).program 0 (b.take k) = (full b, 0) :=
  rest_of (List.replicate 128 255) 64 (List.replicate 2 0) b k (by rw [h]) h hk
theorem full_read (b : List UInt8) (h : b.length = 128) (k n : Nat) (hk : k + n ≤ 128) : (full b).read (k : Int) (n : Int) = ((b.drop k).take n, 0) := read_up rfl k n (by show k + n ≤ b.length; omega)
theorem full_all (b : List UInt8) (h : b.length = 128) : (full b).read 0 128 = (b, 0) := by
  have := full_read b h 0 128 (by omega)
  rw [show ((0 : Nat) : Int) = 0 from rfl, show ((128 : Nat) : Int) = 128 from rfl] at this
  rw [this, List.drop_zero, List.take_of_length_le (by omega)]
theorem full_front (b : List UInt8) (h : b.length = 128) (r : Nat) (hr : r ≤ 128) : (full b).read 0 (r : Int) = (b.take r, 0) := by
  have := full_read b h 0 r (by omega)
  rw [show ((0 : Nat) : Int) = 0 from rfl] at this
  rw [this, List.drop_zero]
theorem full_back (b : List UInt8) (h : b.length = 128) (r : Nat) (hr : r ≤ 128) : (full b).read (r : Int) (128 - (r : Int)) = (b.drop r, 0) := by
  have := full_read b h r (128 - r) (by omega)
  rw [show ((128 - r : Nat) : Int) = 128 - (r : Int) by omega] at this
  rw [this, List.take_of_length_le (by simp; omega)]
end Fl
end Go.Proofs.Ytekhpcfggbegaaa.E5p
