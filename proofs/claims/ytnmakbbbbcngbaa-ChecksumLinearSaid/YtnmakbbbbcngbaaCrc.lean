/- The checksums are linear: what a change of some bytes or bits does to them. -/
import Derived.Test.YtnmakbbbbcngbaaWf
namespace Go.Proofs.Ytnmakbbbbcngbaa.Crc
open Go.Proofs.Ytnmakbbbbcngbaa.Pl Go.Proofs.Ytnmakbbbbcngbaa.Wa Go.Proofs.Ytnmakbbbbcngbaa.Wc Go.Proofs.Ytnmakbbbbcngbaa.Wf

section
variable (f : Nat → Nat) (n : Nat)
/-- f is linear and injective on the numbers below 2^n. -/
structure Reg : Prop where
  wide : 8 ≤ n
  lin : ∀ a b, a < 2 ^ n → b < 2 ^ n → f (a ^^^ b) = f a ^^^ f b
  lt : ∀ a, a < 2 ^ n → f a < 2 ^ n
  ker : ∀ a, a < 2 ^ n → f a = 0 → a = 0
variable {f n}
def fold (f : Nat → Nat) (c : Nat) (l : List UInt8) : Nat := l.foldl (fun c x => it f 8 (c ^^^ x.toNat)) c
theorem it_add (f : Nat → Nat) (a b c : Nat) : it f (a + b) c = it f a (it f b c) := by
  induction a with
  | zero => rw [Nat.zero_add]; rfl
  | succ a ih => rw [Nat.succ_add]; exact congrArg f ih
variable (R : Reg f n)
include R
theorem it_lt (k a : Nat) (h : a < 2 ^ n) : it f k a < 2 ^ n := by
  induction k with
  | zero => exact h
  | succ k ih => exact R.lt _ ih
theorem it_lin (k a b : Nat) (ha : a < 2 ^ n) (hb : b < 2 ^ n) : it f k (a ^^^ b) = it f k a ^^^ it f k b := by
  induction k with
  | zero => rfl
  | succ k ih => exact (congrArg f ih).trans (R.lin _ _ (it_lt R k a ha) (it_lt R k b hb))
theorem it_ker (k a : Nat) (h : a < 2 ^ n) (h0 : it f k a = 0) : a = 0 := by
  induction k with
  | zero => exact h0
  | succ k ih => exact ih (R.ker _ (it_lt R k a h) h0)
theorem it_zero (k : Nat) : it f k 0 = 0 := by
  have h := it_lin R k 0 0 (Nat.two_pow_pos n) (Nat.two_pow_pos n)
  rw [Nat.xor_self, Nat.xor_self] at h
  exact h
theorem it_inj (k a b : Nat) (ha : a < 2 ^ n) (hb : b < 2 ^ n) (h : it f k a = it f k b) : a = b := by
  have h1 := it_lin R k a b ha hb
  rw [h, Nat.xor_self] at h1
  have h2 := it_ker R k _ (Nat.xor_lt_two_pow ha hb) h1
  have : a ^^^ b ^^^ b = 0 ^^^ b := by rw [h2]
  rwa [Nat.xor_assoc, Nat.xor_self, Nat.xor_zero, Nat.zero_xor] at this
theorem byte_lt (x : UInt8) : x.toNat < 2 ^ n := Nat.lt_of_lt_of_le x.toNat_lt (Nat.pow_le_pow_right (by omega) R.wide)
theorem fold_lt (c : Nat) (l : List UInt8) (h : c < 2 ^ n) : fold f c l < 2 ^ n := by
  induction l generalizing c with
  | nil => exact h
  | cons x l ih => exact ih _ (it_lt R 8 _ (Nat.xor_lt_two_pow h (byte_lt R x)))
theorem fold_xor (c d : Nat) (l : List UInt8) (hc : c < 2 ^ n) (hd : d < 2 ^ n) : fold f (c ^^^ d) l = fold f c l ^^^ it f (8 * l.length) d := by
  induction l generalizing c d with
  | nil => rfl
  | cons x l ih =>
    have e : c ^^^ d ^^^ x.toNat = (c ^^^ x.toNat) ^^^ d := by rw [Nat.xor_assoc, Nat.xor_assoc, Nat.xor_comm d]
    have e1 := ih (it f 8 (c ^^^ x.toNat)) (it f 8 d) (it_lt R 8 _ (Nat.xor_lt_two_pow hc (byte_lt R x))) (it_lt R 8 _ hd)
    show fold f (it f 8 (c ^^^ d ^^^ x.toNat)) l = fold f (it f 8 (c ^^^ x.toNat)) l ^^^ _
    rw [e, it_lin R 8 _ _ (Nat.xor_lt_two_pow hc (byte_lt R x)) hd, e1, ← it_add, List.length_cons, Nat.mul_succ]
/-- A byte is changed by the mask m. -/
theorem fold_set (c : Nat) (l : List UInt8) (i : Nat) (m : UInt8) (hc : c < 2 ^ n) (hi : i < l.length) :
    fold f c (l.set i (l[i] ^^^ m)) = fold f c l ^^^ it f (8 * (l.length - i)) m.toNat := by
  induction l generalizing c i with
  | nil => simp at hi
  | cons x l ih =>
    rcases i with _ | i
    · have e1 : (x ^^^ m).toNat = x.toNat ^^^ m.toNat := UInt8.toNat_xor x m
      show fold f (it f 8 (c ^^^ (x ^^^ m).toNat)) l = fold f (it f 8 (c ^^^ x.toNat)) l ^^^ _
      rw [e1, ← Nat.xor_assoc, it_lin R 8 _ _ (Nat.xor_lt_two_pow hc (byte_lt R x)) (byte_lt R m),
        fold_xor R _ _ l (it_lt R 8 _ (Nat.xor_lt_two_pow hc (byte_lt R x))) (it_lt R 8 _ (byte_lt R m)), ← it_add]
      simp only [List.length_cons, Nat.sub_zero, Nat.mul_succ]
    · have e1 := ih (it f 8 (c ^^^ x.toNat)) i (it_lt R 8 _ (Nat.xor_lt_two_pow hc (byte_lt R x))) (by simpa using hi)
      simp only [List.length_cons, Nat.add_sub_add_right]
      exact e1
end

/-! The two shifts. -/
theorem bit_cases (a : Nat) (h : a < 2) : a = 0 ∨ a = 1 := by omega
theorem sh8_eq (c : Nat) : sh8 c = ((c <<< 1) % 2 ^ 8) ^^^ (if c / 2 ^ 7 = 1 then 7 else 0) := by
  unfold sh8
  rw [Nat.shiftLeft_eq]
  by_cases h : c / 128 = 1
  · rw [if_pos h, if_pos h]
  · rw [if_neg h, if_neg h, Nat.xor_zero]
theorem swap4 (a b c d : Nat) : a ^^^ b ^^^ (c ^^^ d) = a ^^^ c ^^^ (b ^^^ d) := by
  rw [Nat.xor_assoc, Nat.xor_assoc, ← Nat.xor_assoc b, Nat.xor_comm b c, Nat.xor_assoc c]
theorem if_xor (p a b : Nat) (ha : a < 2) (hb : b < 2) : (if a ^^^ b = 1 then p else 0) = (if a = 1 then p else 0) ^^^ (if b = 1 then p else 0) := by
  rcases bit_cases a ha with rfl | rfl <;> rcases bit_cases b hb with rfl | rfl <;> simp
theorem reg8 : Reg sh8 8 where
  wide := Nat.le_refl _
  lin := fun a b ha hb => by
    rw [sh8_eq, sh8_eq a, sh8_eq b, Nat.shiftLeft_xor_distrib, Nat.xor_mod_two_pow, Nat.xor_div_two_pow, if_xor _ _ _ (by omega) (by omega), swap4]
  lt := fun a _ => sh8_lt a
  ker := by
    have h : ∀ a, a < 256 → sh8 a = 0 → a = 0 := by decide +kernel
    exact h
theorem sh32_eq (c : Nat) : sh32 c = (c / 2 ^ 1) ^^^ (if c % 2 ^ 1 = 1 then 3988292384 else 0) := by
  unfold sh32
  by_cases h : c % 2 = 1
  · rw [if_pos h, if_pos h]
  · rw [if_neg h, if_neg h, Nat.xor_zero]
theorem reg32 : Reg sh32 32 where
  wide := by omega
  lin := fun a b ha hb => by
    rw [sh32_eq, sh32_eq a, sh32_eq b, Nat.xor_div_two_pow, Nat.xor_mod_two_pow, if_xor _ _ _ (by omega) (by omega), swap4]
  lt := fun a h => sh32_lt a h
  ker := fun a h h0 => by
    unfold sh32 at h0
    split at h0
    · have e : a / 2 ^^^ 3988292384 ^^^ 3988292384 = 0 ^^^ 3988292384 := by rw [h0]
      rw [Nat.xor_assoc, Nat.xor_self, Nat.xor_zero, Nat.zero_xor] at e
      omega
    · omega
theorem crc8_fold (l : List UInt8) : crc8 l = fold sh8 0 l := rfl
theorem raw32_fold (l : List UInt8) : raw32 l = fold sh32 4294967295 l := rfl

/-! Opening by the whole string's remainder. -/
theorem crc8_snoc (l : List UInt8) (x : UInt8) : crc8 (l ++ [x]) = it sh8 8 (crc8 l ^^^ x.toNat) := by
  unfold crc8
  rw [List.foldl_append]; rfl
theorem xor_zero_iff (a b : Nat) : a ^^^ b = 0 ↔ a = b := by
  constructor
  · intro h
    have : a ^^^ b ^^^ b = 0 ^^^ b := by rw [h]
    rwa [Nat.xor_assoc, Nat.xor_self, Nat.xor_zero, Nat.zero_xor] at this
  · rintro rfl; exact Nat.xor_self _
theorem opencrc8_bad (s : List UInt8) (h : 0 < s.length) (hb : crc8 s ≠ 0) : opencrc8 s = (5, []) := by
  rcases List.eq_nil_or_concat s with rfl | ⟨l, x, rfl⟩
  · simp at h
  · unfold opencrc8
    simp only [List.concat_eq_append] at hb ⊢
    rw [if_neg (by simp)]
    simp only [List.length_append, List.length_cons, List.length_nil, Nat.zero_add, Nat.add_sub_cancel, List.take_left]
    rw [if_pos]
    intro e
    apply hb
    have e2 : UInt8.ofNat (crc8 l) = x := by rw [e]; simp [List.getD]
    have e3 : crc8 l = x.toNat := by rw [← e2, UInt8.toNat_ofNat', Nat.mod_eq_of_lt (crc8_lt l)]
    rw [crc8_snoc, e3, Nat.xor_self, it_zero reg8]
theorem crc8_good (l : List UInt8) : crc8 (l ++ [UInt8.ofNat (crc8 l)]) = 0 := by
  rw [crc8_snoc, UInt8.toNat_ofNat', Nat.mod_eq_of_lt (crc8_lt l), Nat.xor_self, it_zero reg8]
theorem it_succ (f : Nat → Nat) (k c : Nat) : it f (k + 1) c = it f k (f c) := it_add f k 1 c
theorem it32_high (k z : Nat) : it sh32 k (2 ^ k * z) = z := by
  induction k with
  | zero => simp [it]
  | succ k ih =>
    have e : sh32 (2 ^ (k + 1) * z) = 2 ^ k * z := by
      have h : 2 ^ (k + 1) * z = 2 * (2 ^ k * z) := by rw [Nat.pow_succ, Nat.mul_comm (2 ^ k) 2, Nat.mul_assoc]
      rw [h]
      unfold sh32
      rw [if_neg (by omega)]; omega
    rw [it_succ, e, ih]
theorem xor_high (x y : Nat) (hx : x < 2 ^ 8) : x ^^^ 2 ^ 8 * y = x + 256 * y := by
  have h1 := @Nat.xor_mod_two_pow x (2 ^ 8 * y) 8
  have h2 := @Nat.xor_div_two_pow x (2 ^ 8 * y) 8
  rw [Nat.mul_mod_right, Nat.xor_zero, Nat.mod_eq_of_lt hx] at h1
  rw [Nat.mul_div_cancel_left _ (by omega), Nat.div_eq_of_lt hx, Nat.zero_xor] at h2
  omega
theorem fold_num (c : Nat) (l : List UInt8) (hl : l.length ≤ 4) (hc : c < 2 ^ 32) : fold sh32 c l = it sh32 (8 * l.length) (c ^^^ num l) := by
  induction l generalizing c with
  | nil => simp [fold, num, it]
  | cons x l ih =>
    have hx := byte_lt reg32 x
    have hn : num l < 2 ^ 24 := Nat.lt_of_lt_of_le (num_lt l) (Nat.pow_le_pow_right (n := 256) (j := 3) (by omega) (by simpa using hl))
    have hi := ih (it sh32 8 (c ^^^ x.toNat)) (by simp at hl; omega) (it_lt reg32 8 _ (Nat.xor_lt_two_pow hc hx))
    show fold sh32 (it sh32 8 (c ^^^ x.toNat)) l = _
    have e : num (x :: l) = x.toNat ^^^ 2 ^ 8 * num l := by rw [xor_high _ _ x.toNat_lt]; rfl
    rw [hi, List.length_cons, Nat.mul_succ, it_add, e, ← Nat.xor_assoc, it_lin reg32 8 _ _ (Nat.xor_lt_two_pow hc hx) (by omega), it32_high]
def K32 : Nat := it sh32 32 4294967295
theorem raw32_tail (l t : List UInt8) (ht : t.length = 4) : raw32 (l ++ t) = it sh32 32 (raw32 l ^^^ num t) := by
  have h : raw32 (l ++ t) = fold sh32 (raw32 l) t := by rw [raw32, List.foldl_append]; rfl
  rw [h, fold_num _ _ (by omega) (raw32_lt l), ht]
theorem num_lt4 (t : List UInt8) (ht : t.length = 4) : num t < 2 ^ 32 := by have := num_lt t; rw [ht] at this; exact this
theorem crc32_iff (l t : List UInt8) (ht : t.length = 4) : crc32 l = num t ↔ raw32 (l ++ t) = K32 := by
  have h1 := raw32_lt l
  have h2 := num_lt4 t ht
  have e := xor_ones (raw32 l) h1
  rw [raw32_tail l t ht, K32]
  have h3 : crc32 l = 4294967295 ^^^ raw32 l := e.symm
  constructor
  · intro h
    rw [← h, h3, Nat.xor_comm 4294967295, ← Nat.xor_assoc, Nat.xor_self, Nat.zero_xor]
  · intro h
    have := it_inj reg32 32 _ _ (Nat.xor_lt_two_pow h1 h2) (by omega) h
    rw [h3, ← this, Nat.xor_comm (raw32 l), Nat.xor_assoc, Nat.xor_self, Nat.xor_zero]
theorem opencrc32_bad (s : List UInt8) (h : 4 ≤ s.length) (hb : raw32 s ≠ K32) : opencrc32 s = (5, []) := by
  have ht : (s.drop (s.length - 4)).length = 4 := by rw [List.length_drop]; omega
  have e := crc32_iff (s.take (s.length - 4)) _ ht
  rw [List.take_append_drop] at e
  unfold opencrc32
  rw [if_neg (by omega), if_pos (fun hh => hb (e.1 hh))]
theorem raw32_good (l : List UInt8) : raw32 (l ++ lit (crc32 l) 4) = K32 :=
  (crc32_iff l _ (lit_len _ _)).1 (num_lit _ _ (by unfold crc32; omega)).symm
theorem open8_bad (s : List UInt8) (h : 0 < s.length) (hb : sum8 s ≠ 0) : open8 s = (5, []) := by
  unfold open8
  rw [if_neg (by omega), if_pos hb]
theorem total_cons (x : UInt8) (l : List UInt8) : total (x :: l) = (x.toNat + total l) % 256 := by
  have h := total_app [x] l
  rw [total_one] at h
  exact h
theorem total_set (l : List UInt8) (i : Nat) (y : UInt8) (hi : i < l.length) : (total (l.set i y) + l[i].toNat) % 256 = (total l + y.toNat) % 256 := by
  induction l generalizing i with
  | nil => simp at hi
  | cons x l ih =>
    rcases i with _ | i
    · simp only [List.set_cons_zero, total_cons, List.getElem_cons_zero]; omega
    · have := ih i (by simpa using hi)
      simp only [List.set_cons_succ, total_cons, List.getElem_cons_succ]; omega
theorem sum8_set (l : List UInt8) (i : Nat) (m : UInt8) (hi : i < l.length) (hm : m ≠ 0) (h0 : sum8 l = 0) : sum8 (l.set i (l[i] ^^^ m)) ≠ 0 := by
  intro h
  have e := total_set l i (l[i] ^^^ m) hi
  have h1 := total_lt l
  have h2 := total_lt (l.set i (l[i] ^^^ m))
  have h3 := l[i].toNat_lt
  have h4 := (l[i] ^^^ m).toNat_lt
  unfold sum8 at h h0
  have e2 : l[i].toNat = (l[i] ^^^ m).toNat := by omega
  rw [UInt8.toNat_xor] at e2
  have e3 : l[i].toNat ^^^ (l[i].toNat ^^^ m.toNat) = 0 := by rw [← e2, Nat.xor_self]
  rw [← Nat.xor_assoc, Nat.xor_self, Nat.zero_xor] at e3
  exact hm (UInt8.toNat_inj.1 e3)
theorem crc8_set (l : List UInt8) (i : Nat) (m : UInt8) (hi : i < l.length) : crc8 (l.set i (l[i] ^^^ m)) = crc8 l ^^^ it sh8 (8 * (l.length - i)) m.toNat := by
  rw [crc8_fold, crc8_fold]; exact fold_set reg8 0 l i m (by omega) hi
theorem raw32_set (l : List UInt8) (i : Nat) (m : UInt8) (hi : i < l.length) : raw32 (l.set i (l[i] ^^^ m)) = raw32 l ^^^ it sh32 (8 * (l.length - i)) m.toNat := by
  rw [raw32_fold, raw32_fold]; exact fold_set reg32 _ l i m (by omega) hi
theorem mask_pos {m : UInt8} (hm : m ≠ 0) : m.toNat ≠ 0 := fun h => hm (UInt8.toNat_inj.1 h)
theorem crc8_byte (l : List UInt8) (i : Nat) (m : UInt8) (hi : i < l.length) (hm : m ≠ 0) (h0 : crc8 l = 0) : crc8 (l.set i (l[i] ^^^ m)) ≠ 0 := by
  rw [crc8_set l i m hi, h0, Nat.zero_xor]
  exact fun h => mask_pos hm (it_ker reg8 _ _ (byte_lt reg8 m) h)
theorem raw32_byte (l : List UInt8) (i : Nat) (m : UInt8) (hi : i < l.length) (hm : m ≠ 0) (h0 : raw32 l = K32) : raw32 (l.set i (l[i] ^^^ m)) ≠ K32 := by
  rw [raw32_set l i m hi, h0]
  intro h
  have e : K32 ^^^ it sh32 (8 * (l.length - i)) m.toNat ^^^ K32 = 0 := by rw [h, Nat.xor_self]
  rw [Nat.xor_comm, ← Nat.xor_assoc, Nat.xor_self, Nat.zero_xor] at e
  exact mask_pos hm (it_ker reg32 _ _ (byte_lt reg32 m) e)

/-! Bits, the most significant one of the first byte first. -/
def bit (k : Nat) : UInt8 := UInt8.ofNat (2 ^ (7 - k % 8))
def flip (l : List UInt8) (k : Nat) : List UInt8 := l.set (k / 8) ((l[k / 8]?.getD 0) ^^^ bit k)
theorem flip_len (l : List UInt8) (k : Nat) : (flip l k).length = l.length := List.length_set
theorem bit_num (k : Nat) : (bit k).toNat = 2 ^ (7 - k % 8) := by
  have h : 2 ^ (7 - k % 8) ≤ 2 ^ 7 := Nat.pow_le_pow_right (by omega) (by omega)
  rw [bit, UInt8.toNat_ofNat']; exact Nat.mod_eq_of_lt (Nat.lt_of_le_of_lt h (by omega))
theorem up8 : ∀ m, m < 8 → it sh8 m (2 ^ (7 - m)) = 128 := by decide
theorem crc8_flip (l : List UInt8) (k : Nat) (hk : k < 8 * l.length) : crc8 (flip l k) = crc8 l ^^^ it sh8 (8 * l.length - k) 128 := by
  have hi : k / 8 < l.length := by omega
  have h := crc8_set l (k / 8) (bit k) hi
  have e : 8 * (l.length - k / 8) = (8 * l.length - k) + k % 8 := by omega
  rw [bit_num, e, it_add, up8 _ (Nat.mod_lt _ (by omega))] at h
  rw [flip, List.getElem?_eq_getElem hi]
  exact h
/-- The parity of a number's eight bits. -/
def par (c : Nat) : Nat := (c % 2 + c / 2 % 2 + c / 4 % 2 + c / 8 % 2 + c / 16 % 2 + c / 32 % 2 + c / 64 % 2 + c / 128 % 2) % 2
theorem par_sh8 : ∀ c, c < 256 → par (sh8 c) = par c := by decide +kernel
theorem par_it (k c : Nat) (h : c < 256) : par (it sh8 k c) = par c := by
  induction k with
  | zero => rfl
  | succ k ih => exact (par_sh8 _ (it8_lt k c h)).trans ih
theorem par_xor128 : ∀ a, a < 256 → ∀ b, b < 256 → par b = 1 → par (a ^^^ b) = (par a + 1) % 2 := by decide +kernel
theorem par_flip (l : List UInt8) (k : Nat) (hk : k < 8 * l.length) : par (crc8 (flip l k)) = (par (crc8 l) + 1) % 2 := by
  rw [crc8_flip l k hk]
  exact par_xor128 _ (crc8_lt l) _ (it8_lt _ _ (by omega)) (by rw [par_it _ _ (by omega)]; rfl)
theorem order127 : ∀ d, d < 126 → it sh8 (d + 1) 128 ≠ 128 := by decide +kernel
theorem crc8_pair (l : List UInt8) (k d : Nat) (hd : d < 126) (hk : k + (d + 1) < 8 * l.length) (h0 : crc8 l = 0) : crc8 (flip (flip l k) (k + (d + 1))) ≠ 0 := by
  rw [crc8_flip _ _ (by rw [flip_len]; exact hk), crc8_flip l k (by omega), flip_len, h0, Nat.zero_xor, ne_eq, xor_zero_iff]
  have e : 8 * l.length - k = (8 * l.length - (k + (d + 1))) + (d + 1) := by omega
  rw [e, it_add]
  intro h
  exact order127 d hd (it_inj reg8 _ _ _ (it8_lt _ _ (by omega)) (by omega) h)
theorem tbit (m e : Nat) : ((m : Int) / 2 ^ e).tmod 2 = ((m / 2 ^ e % 2 : Nat) : Int) := by
  rw [Int.tmod_eq_emod_of_nonneg (Int.ediv_nonneg (by omega) (Int.pow_nonneg (by omega)))]
  norm_cast
theorem tbit_yes {m e : Nat} (h : (((m : Int) / 2 ^ e).tmod 2 == 1) = true) : m / 2 ^ e % 2 = 1 := by
  have := eq_of_beq h
  rw [tbit] at this
  omega
theorem tbit_no {m e : Nat} (h : (((m : Int) / 2 ^ e).tmod 2 == 1) = false) : m / 2 ^ e % 2 = 0 := by
  have := ne_of_beq_false h
  rw [tbit] at this
  omega
theorem tbit_one {m e : Nat} (h : m / 2 ^ e % 2 = 1) : (((m : Int) / 2 ^ e).tmod 2 == 1) = true := by rw [tbit, h]; rfl
theorem tbit_zero {m e : Nat} (h : ¬ m / 2 ^ e % 2 = 1) : (((m : Int) / 2 ^ e).tmod 2 == 1) = false := by
  rw [tbit, show m / 2 ^ e % 2 = 0 by omega]; rfl
/-- The first i bits of a mask of eight, the most significant one first. -/
def top (m i : Nat) : Nat := m / 2 ^ (8 - i) * 2 ^ (8 - i)
theorem top_yes : ∀ i, i < 8 → ∀ m, m < 256 → m / 2 ^ (7 - i) % 2 = 1 → top m (i + 1) = top m i ^^^ 2 ^ (7 - i) := by decide +kernel
theorem top_no : ∀ i, i < 8 → ∀ m, m < 256 → m / 2 ^ (7 - i) % 2 = 0 → top m (i + 1) = top m i := by decide +kernel
theorem top_lt : ∀ i, i < 9 → ∀ m, m < 256 → top m i < 256 := by decide +kernel
/-- A flip of bit k + i in a burst that begins at bit k. -/
theorem burst8 (l : List UInt8) (k i m a : Nat) (hi : i < 8) (hk : k + 7 < 8 * l.length) (hm : m < 256) (hb : m / 2 ^ (7 - i) % 2 = 1) (ha : crc8 l = a ^^^ it sh8 (8 * l.length - k) (top m i)) :
    crc8 (flip l (k + i)) = a ^^^ it sh8 (8 * l.length - k) (top m (i + 1)) := by
  have h2 : 2 ^ (7 - i) ≤ 2 ^ 7 := Nat.pow_le_pow_right (by omega) (by omega)
  have e : 8 * l.length - k = (8 * l.length - (k + i)) + i := by omega
  rw [crc8_flip l _ (by omega), ha, top_yes i hi m hm hb, it_lin reg8 _ _ _ (top_lt i (by omega) m hm) (Nat.lt_of_le_of_lt h2 (by omega)), Nat.xor_assoc]
  congr 2
  rw [e, it_add, up8 i hi]
theorem burst8_end (n a m : Nat) (hm : m < 256) (h0 : m ≠ 0) (ha : a = 0) : a ^^^ it sh8 n (top m 8) ≠ 0 := by
  have e : top m 8 = m := by simp [top]
  rw [ha, Nat.zero_xor, e]
  exact fun h => h0 (it_ker reg8 _ _ hm h)

/-! Bits, the least significant one of the first byte first. -/
def lbit (k : Nat) : UInt8 := UInt8.ofNat (2 ^ (k % 8))
def lflip (l : List UInt8) (k : Nat) : List UInt8 := l.set (k / 8) ((l[k / 8]?.getD 0) ^^^ lbit k)
theorem lflip_len (l : List UInt8) (k : Nat) : (lflip l k).length = l.length := List.length_set
theorem lbit_num (k : Nat) : (lbit k).toNat = 2 ^ (k % 8) := by
  have h : 2 ^ (k % 8) ≤ 2 ^ 7 := Nat.pow_le_pow_right (by omega) (by omega)
  rw [lbit, UInt8.toNat_ofNat']; exact Nat.mod_eq_of_lt (Nat.lt_of_le_of_lt h (by omega))
theorem raw32_flip (l : List UInt8) (k : Nat) (hk : k < 8 * l.length) : raw32 (lflip l k) = raw32 l ^^^ it sh32 (8 * l.length - k) 1 := by
  have hi : k / 8 < l.length := by omega
  have h := raw32_set l (k / 8) (lbit k) hi
  have e : 8 * (l.length - k / 8) = (8 * l.length - k) + k % 8 := by omega
  have e2 := it32_high (k % 8) 1
  rw [Nat.mul_one] at e2
  rw [lbit_num, e, it_add, e2] at h
  rw [lflip, List.getElem?_eq_getElem hi]
  exact h
theorem low_yes (m i : Nat) (h : m / 2 ^ i % 2 = 1) : m % 2 ^ (i + 1) = m % 2 ^ i ^^^ 2 ^ i := by
  apply Nat.eq_of_testBit_eq
  intro j
  have hb : m.testBit i = true := by rw [Nat.testBit_eq_decide_div_mod_eq]; simpa using h
  rw [Nat.testBit_xor, Nat.testBit_mod_two_pow, Nat.testBit_mod_two_pow, Nat.testBit_two_pow]
  by_cases e : i = j
  · subst e; simp [hb]
  · have e1 : decide (j < i + 1) = decide (j < i) := by simp; omega
    simp [e1, e]
theorem low_no (m i : Nat) (h : m / 2 ^ i % 2 = 0) : m % 2 ^ (i + 1) = m % 2 ^ i := by
  have := Nat.mod_pow_succ (x := m) (b := 2) (k := i)
  rw [this, h]; omega
theorem burst32 (l : List UInt8) (k i m a : Nat) (hi : i < 32) (hk : k + 31 < 8 * l.length) (hb : m / 2 ^ i % 2 = 1) (ha : raw32 l = a ^^^ it sh32 (8 * l.length - k) (m % 2 ^ i)) :
    raw32 (lflip l (k + i)) = a ^^^ it sh32 (8 * l.length - k) (m % 2 ^ (i + 1)) := by
  have h2 : 2 ^ i < 2 ^ 32 := Nat.pow_lt_pow_right (by omega) hi
  have h3 : m % 2 ^ i < 2 ^ 32 := Nat.lt_trans (Nat.mod_lt _ (Nat.two_pow_pos i)) h2
  have e : 8 * l.length - k = (8 * l.length - (k + i)) + i := by omega
  have e2 := it32_high i 1
  rw [Nat.mul_one] at e2
  rw [raw32_flip l _ (by omega), ha, low_yes m i hb, it_lin reg32 _ _ _ h3 h2, Nat.xor_assoc]
  congr 2
  rw [e, it_add, e2]
theorem burst32_end (n m : Nat) (hm : m < 2 ^ 32) (h0 : m ≠ 0) : K32 ^^^ it sh32 n (m % 2 ^ 32) ≠ K32 := by
  rw [Nat.mod_eq_of_lt hm]
  intro h
  have e : K32 ^^^ it sh32 n m ^^^ K32 = 0 := by rw [h, Nat.xor_self]
  rw [Nat.xor_comm, ← Nat.xor_assoc, Nat.xor_self, Nat.zero_xor] at e
  exact h0 (it_ker reg32 _ _ hm e)
end Go.Proofs.Ytnmakbbbbcngbaa.Crc
