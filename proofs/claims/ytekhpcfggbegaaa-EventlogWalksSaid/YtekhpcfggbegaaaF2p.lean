/- Plain mathematics of type/length fields. -/
import Derived.Test.YtekhpcfggbegaaaOwn
namespace Go.Proofs.Ytekhpcfggbegaaa.F2p
def bl (s : ByteArray) : List UInt8 := s.data.toList
theorem bl_len (s : ByteArray) : (bl s).length = s.size := by unfold bl; rw [Array.length_toList]; rfl
theorem bl_get (s : ByteArray) (k : Nat) (h : k < s.size) : (bl s)[k]'(by rw [bl_len]; exact h) = s[k] := rfl
def dig (c : Nat) : Int := if 48 ≤ c ∧ c ≤ 57 then (c : Int) - 48 else if c = 32 then 10 else if c = 45 then 11 else if c = 46 then 12 else -1
def sixB (n : Nat) : Nat := (6 * n + 7) / 8
def okd (l : List UInt8) : Bool := l.all fun x => decide (0 ≤ dig x.toNat)
def oks (l : List UInt8) : Bool := l.all fun x => decide (32 ≤ x.toNat ∧ x.toNat ≤ 95)
def vld (k : Int) (l : List UInt8) : Bool :=
  if k = 0 then decide (l.length ≤ 63)
  else if k = 1 then decide (l.length % 2 = 0 ∧ l.length ≤ 126) && okd l
  else if k = 2 then decide (l.length % 4 ≠ 3 ∧ l.length ≤ 126 ∧ sixB l.length ≤ 63) && oks l
  else if k = 3 then decide (l.length = 0 ∨ (2 ≤ l.length ∧ l.length ≤ 63))
  else false
theorem all_take_succ (p : UInt8 → Bool) (l : List UInt8) (k : Nat) (h : k < l.length) : (l.take (k + 1)).all p = ((l.take k).all p && p l[k]) := by
  rw [List.take_succ_eq_append_getElem h, List.all_append]; simp
theorem all_false (p : UInt8 → Bool) (l : List UInt8) (k : Nat) (h : k < l.length) (hp : p l[k] = false) : l.all p = false := by
  rw [List.all_eq_false]
  exact ⟨l[k], List.getElem_mem h, by simp [hp]⟩
theorem dig_range (c : Nat) : -1 ≤ dig c ∧ dig c ≤ 12 := by
  unfold dig
  split
  · omega
  · split
    · omega
    · split
      · omega
      · split <;> omega
theorem okd_at {l : List UInt8} (h : okd l = true) (k : Nat) (hk : k < l.length) : 0 ≤ dig l[k].toNat := by
  have := List.all_eq_true.1 h _ (List.getElem_mem hk)
  simpa using this
theorem oks_at {l : List UInt8} (h : oks l = true) (k : Nat) (hk : k < l.length) : 32 ≤ l[k].toNat ∧ l[k].toNat ≤ 95 := by
  have := List.all_eq_true.1 h _ (List.getElem_mem hk)
  simpa using this
theorem vld_bcd {l : List UInt8} (h : vld 1 l = true) : l.length % 2 = 0 ∧ l.length ≤ 126 ∧ okd l = true := by
  simp [vld] at h
  exact ⟨h.1.1, h.1.2, h.2⟩
theorem vld_six {l : List UInt8} (h : vld 2 l = true) : l.length % 4 ≠ 3 ∧ l.length ≤ 126 ∧ sixB l.length ≤ 63 ∧ oks l = true := by
  simp [vld] at h
  exact ⟨h.1.1, h.1.2.1, h.1.2.2, h.2⟩
def bcd : List UInt8 → List UInt8
  | a :: b :: r => UInt8.ofNat (16 * dig a.toNat + dig b.toNat).toNat :: bcd r
  | _ => []
theorem bcd_app : ∀ (p l : List UInt8), p.length % 2 = 0 → bcd (p ++ l) = bcd p ++ bcd l
  | [], l, _ => rfl
  | [a], l, h => by simp at h
  | a :: b :: p, l, h => by
    have := bcd_app p l (by simp at h; omega)
    simp [bcd, this]
theorem bcd_len : ∀ (l : List UInt8), (bcd l).length = l.length / 2
  | [] => rfl
  | [a] => by simp [bcd]
  | a :: b :: l => by
    have := bcd_len l
    simp only [bcd, List.length_cons, this]; omega
theorem bcd_step (l : List UInt8) (k : Nat) (h : 2 * k + 1 < l.length) : bcd (l.take (2 * (k + 1))) = bcd (l.take (2 * k)) ++ [UInt8.ofNat (16 * dig l[2 * k].toNat + dig l[2 * k + 1].toNat).toNat] := by
  have e : l.take (2 * (k + 1)) = l.take (2 * k) ++ [l[2 * k], l[2 * k + 1]] := by
    rw [show 2 * (k + 1) = 2 * k + 1 + 1 from rfl, List.take_succ_eq_append_getElem h, List.take_succ_eq_append_getElem (by omega), List.append_assoc]; rfl
  rw [e, bcd_app _ _ (by rw [List.length_take]; omega)]
  rfl
/-- Little-endian bytes of a number. -/
def lit : Nat → Nat → List UInt8
  | _, 0 => []
  | v, n + 1 => UInt8.ofNat (v % 256) :: lit (v / 256) n
theorem lit_len (v n : Nat) : (lit v n).length = n := by
  induction n generalizing v with
  | zero => rfl
  | succ n ih => simp [lit, ih]
theorem lit_get (v n j : Nat) (h : j < n) : (lit v n)[j]'(by rw [lit_len]; exact h) = UInt8.ofNat (v / 256 ^ j % 256) := by
  induction n generalizing v j with
  | zero => omega
  | succ n ih =>
    rcases j with _ | j
    · simp [lit]
    · have := ih (v / 256) j (by omega)
      simp only [lit, List.getElem_cons_succ]
      rw [this, Nat.div_div_eq_div_mul, Nat.pow_succ, Nat.mul_comm 256]
theorem lit_bit (v n a : Nat) (hv : v < 2 ^ a) (ha : a < 8 * n) : (lit v n).set (a / 8) (UInt8.ofNat (v / 256 ^ (a / 8) % 256 + 2 ^ (a % 8))) = lit (v + 2 ^ a) n := by
  induction n generalizing v a with
  | zero => omega
  | succ n ih =>
    by_cases h8 : a < 8
    · have e1 : a / 8 = 0 := by omega
      have e2 : a % 8 = a := by omega
      have h2 : 2 ^ a ≤ 2 ^ 7 := Nat.pow_le_pow_right (by omega) (by omega)
      have e3 : v / 256 = 0 := by omega
      have e4 : (v + 2 ^ a) / 256 = 0 := by omega
      rw [e1, e2]
      simp only [lit, List.set_cons_zero, Nat.pow_zero, Nat.div_one, e3, e4]
      congr 2; omega
    · obtain ⟨b, rfl⟩ : ∃ b, a = b + 8 := ⟨a - 8, by omega⟩
      have e1 : (b + 8) / 8 = b / 8 + 1 := by omega
      have e2 : (b + 8) % 8 = b % 8 := by omega
      have hp : 2 ^ (b + 8) = 256 * 2 ^ b := by rw [Nat.pow_add, Nat.mul_comm]
      have h := ih (v / 256) b (by omega) (by omega)
      rw [e1, e2]
      simp only [lit, List.set_cons_succ]
      rw [hp, show (v + 256 * 2 ^ b) % 256 = v % 256 by omega, show (v + 256 * 2 ^ b) / 256 = v / 256 + 2 ^ b by omega, ← h, Nat.div_div_eq_div_mul, Nat.pow_succ, Nat.mul_comm 256]
/-- The number of six-bit characters. -/
def v6 : List UInt8 → Nat
  | [] => 0
  | x :: l => (x.toNat - 32) + 64 * v6 l
theorem v6_lt (l : List UInt8) (h : oks l = true) : v6 l < 64 ^ l.length := by
  induction l with
  | nil => simp [v6]
  | cons x l ih =>
    simp [oks] at h
    have := ih (by simpa [oks] using h.2)
    simp only [v6, List.length_cons, Nat.pow_succ]; omega
theorem v6_app (a b : List UInt8) : v6 (a ++ b) = v6 a + 64 ^ a.length * v6 b := by
  induction a with
  | nil => simp [v6]
  | cons x a ih => simp only [List.cons_append, v6, ih, List.length_cons, Nat.pow_succ]; rw [Nat.mul_add, Nat.add_assoc, Nat.mul_comm (64 ^ a.length) 64, Nat.mul_assoc]
theorem pow64 (i : Nat) : 64 ^ i = 2 ^ (6 * i) := by rw [Nat.pow_mul]
theorem bit_succ (y k : Nat) : y % 2 ^ (k + 1) = y % 2 ^ k + 2 ^ k * (y / 2 ^ k % 2) := Nat.mod_pow_succ
theorem v6_room (l : List UInt8) (i k y : Nat) (hv : v6 (l.take i) < 64 ^ i) : v6 (l.take i) + 64 ^ i * (y % 2 ^ k) < 2 ^ (6 * i + k) := by
  have h1 : y % 2 ^ k < 2 ^ k := Nat.mod_lt _ (Nat.two_pow_pos k)
  have h2 : 64 ^ i * (y % 2 ^ k + 1) ≤ 64 ^ i * 2 ^ k := Nat.mul_le_mul_left _ (by omega)
  rw [Nat.pow_add, ← pow64]
  rw [Nat.mul_add, Nat.mul_one] at h2
  omega
theorem v6_bit (l : List UInt8) (i k y n : Nat) (hv : v6 (l.take i) < 64 ^ i) (hb : y / 2 ^ k % 2 = 1) (ha : 6 * i + k < 8 * n) :
    (lit (v6 (l.take i) + 64 ^ i * (y % 2 ^ k)) n).set ((6 * i + k) / 8) (UInt8.ofNat ((v6 (l.take i) + 64 ^ i * (y % 2 ^ k)) / 256 ^ ((6 * i + k) / 8) % 256 + 2 ^ ((6 * i + k) % 8))) =
      lit (v6 (l.take i) + 64 ^ i * (y % 2 ^ (k + 1))) n := by
  rw [lit_bit _ n _ (v6_room l i k y hv) ha, bit_succ, hb, Nat.mul_one, Nat.mul_add, Nat.pow_add, ← pow64, Nat.add_assoc]
theorem v6_nobit (y k : Nat) (hb : ¬ y / 2 ^ k % 2 = 1) : y % 2 ^ (k + 1) = y % 2 ^ k := by
  rw [bit_succ, show y / 2 ^ k % 2 = 0 by omega, Nat.mul_zero, Nat.add_zero]
theorem v6_succ (l : List UInt8) (i : Nat) (h : i < l.length) : v6 (l.take (i + 1)) = v6 (l.take i) + 64 ^ i * (l[i].toNat - 32) := by
  rw [List.take_succ_eq_append_getElem h, v6_app, List.length_take, Nat.min_eq_left (by omega)]
  simp [v6]
theorem oks_take {l : List UInt8} (h : oks l = true) (i : Nat) : oks (l.take i) = true := by
  unfold oks at *
  rw [List.all_eq_true] at *
  exact fun x hx => h x (List.mem_of_mem_take hx)
theorem v6_take_lt {l : List UInt8} (h : oks l = true) (i : Nat) (hi : i ≤ l.length) : v6 (l.take i) < 64 ^ i := by
  have := v6_lt _ (oks_take h i)
  rwa [List.length_take, Nat.min_eq_left hi] at this
def dat (k : Int) (l : List UInt8) : List UInt8 := if k = 1 then bcd l else if k = 2 then lit (v6 l) (sixB l.length) else l
def enc (k : Int) (l : List UInt8) : List UInt8 := UInt8.ofNat (64 * k + (dat k l).length).toNat :: dat k l
theorem dat_len (k : Int) (l : List UInt8) : (dat k l).length = if k = 1 then l.length / 2 else if k = 2 then sixB l.length else l.length := by
  unfold dat
  split
  · exact bcd_len l
  · split
    · exact lit_len _ _
    · rfl
end Go.Proofs.Ytekhpcfggbegaaa.F2p
