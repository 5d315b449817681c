/- A flash device: the mathematics of its bytes, its steps and its wear. -/
namespace Go.Proofs.Ytekhpcfggbegaaa.E5p
set_option maxRecDepth 100000

/-- The bytes b programmed over l from k on. -/
def andAt (l : List UInt8) (k : Nat) (b : List UInt8) : List UInt8 := l.mapIdx fun i x => if k ≤ i then x &&& b.getD (i - k) 255 else x
/-- The bits m set in n bytes of l from k on. -/
def orAt (l : List UInt8) (k n : Nat) (m : UInt8) : List UInt8 := l.mapIdx fun i x => if k ≤ i ∧ i < k + n then x ||| m else x

theorem and_255 (x : UInt8) : x &&& 255 = x := by
  apply UInt8.toNat_inj.1
  rw [UInt8.toNat_and]
  exact Nat.and_two_pow_sub_one_of_lt_two_pow (n := 8) x.toNat_lt
theorem or_255 (x : UInt8) : x ||| 255 = 255 := by
  apply UInt8.eq_of_toBitVec_eq
  rw [UInt8.toBitVec_or]
  exact BitVec.or_allOnes
theorem or_0 (x : UInt8) : x ||| 0 = x := by simp
@[simp] theorem andAt_len (l : List UInt8) (k : Nat) (b : List UInt8) : (andAt l k b).length = l.length := by simp [andAt]
@[simp] theorem orAt_len (l : List UInt8) (k n : Nat) (m : UInt8) : (orAt l k n m).length = l.length := by simp [orAt]
theorem andAt_get {l : List UInt8} {k : Nat} {b : List UInt8} {i : Nat} (h : i < (andAt l k b).length) :
    (andAt l k b)[i] = if k ≤ i then l[i]'(by simpa using h) &&& b.getD (i - k) 255 else l[i]'(by simpa using h) := by simp [andAt]
theorem orAt_get {l : List UInt8} {k n : Nat} {m : UInt8} {i : Nat} (h : i < (orAt l k n m).length) :
    (orAt l k n m)[i] = if k ≤ i ∧ i < k + n then l[i]'(by simpa using h) ||| m else l[i]'(by simpa using h) := by simp [orAt]
theorem andAt_nil (l : List UInt8) (k : Nat) : andAt l k [] = l := by
  apply List.ext_getElem (by simp)
  intro i h1 h2
  rw [andAt_get]
  split
  · simp [and_255]
  · rfl
theorem orAt_none (l : List UInt8) (k : Nat) (m : UInt8) : orAt l k 0 m = l := by
  apply List.ext_getElem (by simp)
  intro i h1 h2
  rw [orAt_get, if_neg (by omega)]
/-- A byte more. -/
theorem andAt_snoc (l : List UInt8) (k : Nat) (b : List UInt8) (x : UInt8) (h : k + b.length < l.length) :
    (andAt l k b).set (k + b.length) (l[k + b.length] &&& x) = andAt l k (b ++ [x]) := by
  apply List.ext_getElem (by simp)
  intro i h1 h2
  rw [List.getElem_set, andAt_get, andAt_get]
  by_cases hi : k + b.length = i
  · subst hi
    rw [if_pos rfl, if_pos (by omega)]
    congr 1
    rw [Nat.add_sub_cancel_left, List.getD_eq_getElem?_getD, List.getElem?_append_right (Nat.le_refl _)]
    simp
  · rw [if_neg hi]
    by_cases hk : k ≤ i
    · rw [if_pos hk, if_pos hk]
      congr 1
      rw [List.getD_eq_getElem?_getD, List.getD_eq_getElem?_getD]
      rcases Nat.lt_or_ge (i - k) b.length with hlt | hge
      · rw [List.getElem?_append_left hlt]
      · rw [List.getElem?_eq_none hge, List.getElem?_eq_none (by simp; omega)]
    · rw [if_neg hk, if_neg hk]
theorem andAt_here (l : List UInt8) (k : Nat) (b : List UInt8) (h : k + b.length < l.length) (h' : k + b.length < (andAt l k b).length) : (andAt l k b)[k + b.length] = l[k + b.length] := by
  rw [andAt_get, if_pos (by omega), Nat.add_sub_cancel_left, List.getD_eq_getElem?_getD, List.getElem?_eq_none (Nat.le_refl _)]
  simp [and_255]
theorem orAt_snoc (l : List UInt8) (k n : Nat) (m : UInt8) (h : k + n < l.length) : (orAt l k n m).set (k + n) (l[k + n] ||| m) = orAt l k (n + 1) m := by
  apply List.ext_getElem (by simp)
  intro i h1 h2
  rw [List.getElem_set, orAt_get, orAt_get]
  by_cases hi : k + n = i
  · subst hi
    rw [if_pos rfl, if_pos (by omega)]
  · rw [if_neg hi]
    by_cases hc : k ≤ i ∧ i < k + n
    · rw [if_pos hc, if_pos (by omega)]
    · rw [if_neg hc, if_neg (by omega)]
theorem orAt_here (l : List UInt8) (k n : Nat) (m : UInt8) (h : k + n < l.length) (h' : k + n < (orAt l k n m).length) : (orAt l k n m)[k + n] = l[k + n] := by
  rw [orAt_get, if_neg (by omega)]
theorem orAt_all (n : Nat) (l : List UInt8) (h : n = l.length) : orAt l 0 n 255 = List.replicate n 255 := by
  subst h
  apply List.ext_getElem (by simp)
  intro i h1 h2
  simp at h1
  rw [orAt_get, if_pos (by omega), or_255, List.getElem_replicate]

theorem and_255' (x : UInt8) : 255 &&& x = x := by
  apply UInt8.toNat_inj.1
  rw [UInt8.toNat_and, Nat.and_comm]
  exact Nat.and_two_pow_sub_one_of_lt_two_pow (n := 8) x.toNat_lt
theorem andAt_new (b : List UInt8) (n : Nat) (h : b.length = n) : andAt (List.replicate n 255) 0 b = b := by
  subst h
  apply List.ext_getElem (by simp)
  intro i h1 h2
  rw [andAt_get, if_pos (Nat.zero_le _), List.getElem_replicate, and_255', List.getD_eq_getElem?_getD, Nat.sub_zero, List.getElem?_eq_getElem h2]
  rfl
/-- What a device is. -/
structure Fl where
  size : Nat
  bytes : List UInt8
  wear : List Int
  steps : Nat
  left : Nat
  torn : UInt8
  down : Bool

namespace Fl
def new (sectors size : Nat) : Fl := ⟨size, List.replicate (sectors * size) 255, List.replicate sectors 0, 0, 0, 0, false⟩
/-- The power fails at the next step. -/
def last (s : Fl) : Bool := s.left == 1
/-- A step. -/
def step (s : Fl) : Fl := { s with steps := s.steps + 1, left := s.left - 1, down := s.last }
def fits (s : Fl) (k n : Int) : Bool := decide (0 ≤ k) && decide (0 ≤ n) && decide (k ≤ s.bytes.length) && decide (n ≤ s.bytes.length - k)
/-- The power does not fail within n steps. -/
def holds (s : Fl) (n : Nat) : Bool := s.left == 0 || decide (n < s.left)
def prog (s : Fl) (k : Nat) (b : List UInt8) : Fl :=
  if s.holds b.length then { s with bytes := andAt s.bytes k b, steps := s.steps + b.length, left := s.left - b.length }
  else { s with bytes := andAt s.bytes k (b.take (s.left - 1) ++ [b.getD (s.left - 1) 0 ||| s.torn]), steps := s.steps + s.left, left := 0, down := true }
def program (s : Fl) (k : Int) (b : List UInt8) : Fl × Int :=
  if s.down then (s, 10) else if s.fits k b.length then (s.prog k.toNat b, if s.holds b.length then 0 else 10) else (s, 2)
def bits (s : Fl) : UInt8 := if s.last then s.torn else 255
def clear (s : Fl) (k : Nat) : Fl := { s with bytes := orAt s.bytes (k * s.size) s.size s.bits, wear := s.wear.set k (s.wear.getD k 0 + 1), steps := s.steps + 1, left := s.left - 1, down := s.last }
def inside (s : Fl) (k : Int) : Bool := decide (0 ≤ k) && decide (k < s.wear.length)
def erase (s : Fl) (k : Int) : Fl × Int :=
  if s.down then (s, 10) else if s.inside k then (s.clear k.toNat, if s.last then 10 else 0) else (s, 2)
def read (s : Fl) (k n : Int) : List UInt8 × Int :=
  if s.down then ([], 10) else if s.fits k n then ((s.bytes.drop k.toNat).take n.toNat, 0) else ([], 2)
def arm (s : Fl) (n : Int) (t : UInt8) : Fl := if s.down then s else { s with left := n.toNat, torn := t }
def restore (s : Fl) : Fl := { s with left := 0, down := false }
/-- The numbers are as they must be: the bytes fill the sectors, the numbers are small. -/
structure Ok (s : Fl) (m : Nat) : Prop where
  one : 1 ≤ s.wear.length
  most : s.wear.length ≤ 16
  size1 : 64 ≤ s.size
  size2 : s.size ≤ 1024
  len : s.bytes.length = s.wear.length * s.size
  steps : s.steps ≤ m
  wear : ∀ x ∈ s.wear, 0 ≤ x ∧ x ≤ s.steps
  left : s.left ≤ 4611686018427387904
  down : s.down = true → s.left = 0
theorem Ok.more {s : Fl} {m n : Nat} (h : s.Ok m) (hn : m ≤ n) : s.Ok n := ⟨h.one, h.most, h.size1, h.size2, h.len, Nat.le_trans h.steps hn, h.wear, h.left, h.down⟩
theorem Ok.bytes_le {s : Fl} {m : Nat} (h : s.Ok m) : s.bytes.length ≤ 16384 := by
  rw [h.len]
  exact Nat.le_trans (Nat.mul_le_mul h.most h.size2) (by decide)
theorem new_ok (a b : Nat) (h1 : 1 ≤ a) (h2 : a ≤ 16) (h3 : 64 ≤ b) (h4 : b ≤ 1024) : (new a b).Ok 0 := by
  refine ⟨by simpa [new] using h1, by simpa [new] using h2, h3, h4, by simp [new], Nat.le_refl _, fun x hx => ?_, by simp [new], by simp [new]⟩
  have := (List.mem_replicate.1 hx).2
  subst this
  exact ⟨Int.le_refl _, by simp [new]⟩
theorem prog_ok {s : Fl} {m : Nat} (h : s.Ok m) (k : Nat) (b : List UInt8) : (s.prog k b).Ok (m + b.length) := by
  unfold prog
  have hw := h.wear
  have hs := h.steps
  have hl := h.left
  split
  · rename_i hh
    exact ⟨h.one, h.most, h.size1, h.size2, by simpa using h.len, by show s.steps + b.length ≤ _; omega, fun x hx => by have := hw x hx; show 0 ≤ x ∧ x ≤ ((s.steps + b.length : Nat) : Int); omega,
      by show s.left - b.length ≤ _; omega, fun hd => by have := h.down hd; show s.left - b.length = 0; omega⟩
  · rename_i hh
    have hle : s.left ≤ b.length := by
      rcases Nat.lt_or_ge b.length s.left with h1 | h1
      · exact absurd (by unfold holds; simp [h1]) hh
      · exact h1
    exact ⟨h.one, h.most, h.size1, h.size2, by simpa using h.len, by show s.steps + s.left ≤ _; omega, fun x hx => by have := hw x hx; show 0 ≤ x ∧ x ≤ ((s.steps + s.left : Nat) : Int); omega, by simp, fun _ => rfl⟩
theorem program_ok {s : Fl} {m : Nat} (h : s.Ok m) (k : Int) (b : List UInt8) : (s.program k b).1.Ok (m + b.length) := by
  unfold program
  split
  · exact h.more (by omega)
  · split
    · exact prog_ok h _ _
    · exact h.more (by omega)
theorem clear_ok {s : Fl} {m : Nat} (h : s.Ok m) (k : Nat) : (s.clear k).Ok (m + 1) := by
  have hw := h.wear
  have hs := h.steps
  have hl := h.left
  refine ⟨by simpa [clear] using h.one, by simpa [clear] using h.most, h.size1, h.size2, by simpa [clear] using h.len, by show s.steps + 1 ≤ _; omega, fun x hx => ?_, by show s.left - 1 ≤ _; omega, fun hd => ?_⟩
  · show 0 ≤ x ∧ x ≤ ((s.steps + 1 : Nat) : Int)
    rcases List.mem_or_eq_of_mem_set hx with h1 | h1
    · have := hw x h1; omega
    · subst h1
      rw [List.getD_eq_getElem?_getD]
      rcases Nat.lt_or_ge k s.wear.length with hk | hk
      · have := hw _ (List.getElem_mem hk)
        rw [List.getElem?_eq_getElem hk]
        simp only [Option.getD_some]
        omega
      · rw [List.getElem?_eq_none hk]
        simp only [Option.getD_none]
        omega
  · show s.left - 1 = 0
    have : s.last = true := hd
    unfold last at this
    have : s.left = 1 := by simpa using this
    omega
theorem erase_ok {s : Fl} {m : Nat} (h : s.Ok m) (k : Int) : (s.erase k).1.Ok (m + 1) := by
  unfold erase
  split
  · exact h.more (by omega)
  · split
    · exact clear_ok h _
    · exact h.more (by omega)
theorem arm_ok {s : Fl} {m : Nat} (h : s.Ok m) (n : Int) (t : UInt8) (hn : n ≤ 4611686018427387904) : (s.arm n t).Ok m := by
  unfold arm
  split
  · exact h
  · rename_i hd
    exact ⟨h.one, h.most, h.size1, h.size2, h.len, h.steps, h.wear, by show n.toNat ≤ _; omega, fun hd' => absurd hd' hd⟩
theorem restore_ok {s : Fl} {m : Nat} (h : s.Ok m) : s.restore.Ok m := ⟨h.one, h.most, h.size1, h.size2, h.len, h.steps, h.wear, by simp [restore], fun _ => rfl⟩
/-- In the midst of programming: j bytes are done. -/
def mid (s : Fl) (k : Nat) (b : List UInt8) (j : Nat) : Fl := { s with bytes := andAt s.bytes k (b.take j), steps := s.steps + j, left := s.left - j }
theorem mid_zero (s : Fl) (k : Nat) (b : List UInt8) : s.mid k b 0 = s := by simp [mid, andAt_nil]
theorem mid_ok {s : Fl} {m : Nat} (h : s.Ok m) (k : Nat) (b : List UInt8) (j : Nat) : (s.mid k b j).Ok (m + j) := by
  have hw := h.wear
  have hs := h.steps
  have hl := h.left
  exact ⟨h.one, h.most, h.size1, h.size2, by simpa [mid] using h.len, by show s.steps + j ≤ _; omega, fun x hx => by have := hw x hx; show 0 ≤ x ∧ x ≤ ((s.steps + j : Nat) : Int); omega,
      by show s.left - j ≤ _; omega, fun hd => by have := h.down hd; show s.left - j = 0; omega⟩
theorem mid_not {s : Fl} {k : Nat} {b : List UInt8} {j : Nat} (h : ¬ s.left = j + 1) : (s.mid k b j).last = false := by
  simp [last, mid]; omega
theorem mid_last {s : Fl} {k : Nat} {b : List UInt8} {j : Nat} (h : s.left = j + 1) : (s.mid k b j).last = true := by
  simp [last, mid]; omega
theorem mid_on {s : Fl} {k : Nat} {b : List UInt8} {j : Nat} (hlt : j < b.length) (hn : k + b.length ≤ s.bytes.length) (hd : s.down = false) (h : ¬ s.left = j + 1) :
    { (s.mid k b j).step with bytes := (andAt s.bytes k (b.take j)).set (k + j) (s.bytes[k + j] &&& b[j]) } = s.mid k b (j + 1) := by
  have hl := mid_not (k := k) (b := b) h
  have := andAt_snoc s.bytes k (b.take j) b[j] (by simp; omega)
  simp only [List.length_take, Nat.min_eq_left (Nat.le_of_lt hlt)] at this
  unfold step
  rw [hl, this, ← List.take_succ_eq_append_getElem hlt]
  simp [mid, hd]
  omega
theorem mid_end {s : Fl} {k : Nat} {b : List UInt8} {j : Nat} (hlt : j < b.length) (hn : k + b.length ≤ s.bytes.length) (h : s.left = j + 1) :
    { (s.mid k b j).step with bytes := (andAt s.bytes k (b.take j)).set (k + j) (s.bytes[k + j] &&& (b[j] ||| s.torn)) } = s.prog k b ∧ s.holds b.length = false := by
  have hh : s.holds b.length = false := by simp [holds]; omega
  refine ⟨?_, hh⟩
  have hl := mid_last (k := k) (b := b) h
  have := andAt_snoc s.bytes k (b.take j) (b[j] ||| s.torn) (by simp; omega)
  simp only [List.length_take, Nat.min_eq_left (Nat.le_of_lt hlt)] at this
  unfold step
  rw [hl, this]
  unfold prog
  rw [hh]
  have e1 : s.left - 1 = j := by omega
  have e2 : b.getD j 0 = b[j] := by rw [List.getD_eq_getElem?_getD, List.getElem?_eq_getElem hlt]; rfl
  rw [e1, e2]
  simp [mid]
  omega
theorem mid_all {s : Fl} {k : Nat} {b : List UInt8} {j : Nat} (hj : s.left = 0 ∨ j < s.left) (h : j = b.length) : s.mid k b j = s.prog k b ∧ s.holds b.length = true := by
  subst h
  have hh : s.holds b.length = true := by simp [holds]; omega
  refine ⟨?_, hh⟩
  unfold prog
  rw [hh]
  simp [mid]
theorem mid_bytes (s : Fl) (k : Nat) (b : List UInt8) (j : Nat) : (s.mid k b j).step.bytes = andAt s.bytes k (b.take j) := rfl
theorem mid_here (l : List UInt8) (k : Nat) (b : List UInt8) (j : Nat) (hj : j < b.length) (h : k + j < l.length) (h' : k + j < (andAt l k (b.take j)).length) : (andAt l k (b.take j))[k + j] = l[k + j] := by
  have e : (b.take j).length = j := by simp; omega
  have := andAt_here l k (b.take j) (by omega)
  simp only [e] at this
  exact this h'
theorem mid_torn (s : Fl) (k : Nat) (b : List UInt8) (j : Nat) : (s.mid k b j).step.torn = s.torn := rfl
theorem fits_nat {s : Fl} {k n : Int} (h : s.fits k n = true) : ∃ K N : Nat, k = K ∧ n = N ∧ K + N ≤ s.bytes.length := by
  simp [fits] at h
  exact ⟨k.toNat, n.toNat, by omega, by omega, by omega⟩
/-- A new device of two sectors of 64 bytes whose bytes are programmed with b. -/
def full (b : List UInt8) : Fl := { new 2 64 with bytes := b, steps := 128 }
theorem full_of (b : List UInt8) (h : b.length = 128) : (new 2 64).program 0 b = (full b, 0) := by
  have e1 : (new 2 64).fits 0 (b.length : Int) = true := by rw [h]; decide
  have e2 : (new 2 64).holds b.length = true := by simp [holds, new]
  have e3 : (new 2 64).prog 0 b = full b := by
    unfold prog
    rw [e2, h]
    show Fl.mk _ (andAt (List.replicate 128 255) 0 b) _ _ _ _ _ = _
    rw [andAt_new b 128 h]
    simp [full, new]
  unfold program
  rw [e1, e2]
  show ((new 2 64).prog 0 b, (0 : Int)) = _
  rw [e3]
end Fl
end Go.Proofs.Ytekhpcfggbegaaa.E5p
