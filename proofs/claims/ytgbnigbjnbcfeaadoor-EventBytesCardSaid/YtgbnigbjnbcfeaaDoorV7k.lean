/- Mathematics: the sixteen bytes of an event mean the event. -/
import Derived.Test.YtgbnigbjnbcfeaaDoorV7h
namespace Go.Proofs.YtgbnigbjnbcfeaaDoor.V7
open Go.RowKit Go.Proofs.YtgbnigbjnbcfeaaDoor.Mem Go.Proofs.YtgbnigbjnbcfeaaDoor.F2p
set_option maxRecDepth 100000
set_option maxHeartbeats 4000000

/-- The number of byte k. -/
def bt (l : List UInt8) (k : Nat) : Nat := (l.getD k 0).toNat
theorem bt_lt (l : List UInt8) (k : Nat) : bt l k < 256 := UInt8.toNat_lt _
/-- The event that sixteen bytes mean. -/
def decE (l : List UInt8) : Ev := ⟨bt l 0 + 256 * bt l 1, bt l 3 + 256 * bt l 4 + 65536 * bt l 5 + 16777216 * bt l 6, bt l 7 + 256 * bt l 8, bt l 10, bt l 11, bt l 12 % 128, decide (128 ≤ bt l 12), bt l 13, bt l 14, bt l 15⟩
/-- What bytes are decoded to. -/
def dec (l : List UInt8) : Ev × Nat := if l.length < 16 then (Ev.none, 4) else if 16 < l.length ∨ bt l 2 ≠ 2 ∨ bt l 9 ≠ 4 then (Ev.none, 6) else if vld (decE l) then (decE l, 0) else (Ev.none, 1)
theorem decE_fit (l : List UInt8) : (decE l).Fit := by
  have h0 := bt_lt l 0; have h1 := bt_lt l 1; have h3 := bt_lt l 3; have h4 := bt_lt l 4; have h5 := bt_lt l 5; have h6 := bt_lt l 6; have h7 := bt_lt l 7; have h8 := bt_lt l 8
  have h10 := bt_lt l 10; have h11 := bt_lt l 11; have h12 := bt_lt l 12; have h13 := bt_lt l 13; have h14 := bt_lt l 14; have h15 := bt_lt l 15
  unfold decE
  exact ⟨by show bt l 0 + 256 * bt l 1 < 65536; omega, by show bt l 3 + 256 * bt l 4 + 65536 * bt l 5 + 16777216 * bt l 6 < 4294967296; omega, by show bt l 7 + 256 * bt l 8 < 65536; omega, h10, h11, by show bt l 12 % 128 < 256; omega, h13, h14, h15⟩
theorem or_shift (a b i : Nat) (ha : a < 2 ^ i) : (a ||| (b * 2 ^ i)) = a + b * 2 ^ i := by
  rw [Nat.or_comm, Nat.mul_comm b, ← Nat.two_pow_add_eq_or_of_lt ha, Nat.add_comm]
theorem or16 (a b : Nat) (ha : a < 256) (hb : b < 256) : bits .or .u16 (a : Int) ((b : Int) * 256) = (a : Int) + (b : Int) * 256 := by
  have h := u16_or_nat a (b * 256) (by omega) (by omega)
  rw [show b * 256 = b * 2 ^ 8 from rfl, or_shift a b 8 ha] at h
  push_cast at h
  exact h
theorem or32 (a b i p : Nat) (hp : p = 2 ^ i) (ha : a < p) (hb : b * p + a < 4294967296) (X Y : Int) (hX : X = (a : Int)) (hY : Y = ((b * p : Nat) : Int)) : bits .or .u32 X Y = X + Y := by
  subst hp hX hY
  have h := u32_or_nat a (b * 2 ^ i) (by omega) (by omega)
  rw [or_shift a b i ha] at h
  rw [h]
  omega
theorem and_128 (x : Nat) (h : x < 256) : bits .and .u8 (x : Int) 128 = if 128 ≤ x then 128 else 0 := by
  have : ∀ x : Fin 256, bits .and .u8 ((x.val : Nat) : Int) 128 = if 128 ≤ x.val then 128 else 0 := by decide +kernel
  exact this ⟨x, h⟩
theorem andnot_128 (x : Nat) (h : x < 256) : bits .andNot .u8 (x : Int) 128 = ((x % 128 : Nat) : Int) := by
  have : ∀ x : Fin 256, bits .andNot .u8 ((x.val : Nat) : Int) 128 = ((x.val % 128 : Nat) : Int) := by decide +kernel
  exact this ⟨x, h⟩
theorem bt_enc (e : Ev) (hf : e.Fit) (hv : vld e = true) (k : Nat) (hk : k < 16) : bt (encE e) k = (encN e).getD k 0 := by
  have hl : (encN e).length = 16 := rfl
  unfold bt encE
  obtain ⟨x, hx⟩ : ∃ x, (encN e)[k]? = some x := ⟨(encN e)[k]'(by omega), List.getElem?_eq_getElem (by omega)⟩
  rw [List.getD_eq_getElem?_getD, List.getD_eq_getElem?_getD, List.getElem?_map, hx]
  have := encN_lt e hf hv x (List.mem_of_getElem? hx)
  show (UInt8.ofNat x).toNat = x
  rw [UInt8.toNat_ofNat', Nat.mod_eq_of_lt this]
theorem decE_enc (e : Ev) (hf : e.Fit) (hv : vld e = true) : decE (encE e) = e := by
  have b := fun k hk => bt_enc e hf hv k hk
  unfold decE
  rw [b 0 (by omega), b 1 (by omega), b 3 (by omega), b 4 (by omega), b 5 (by omega), b 6 (by omega), b 7 (by omega), b 8 (by omega), b 10 (by omega), b 11 (by omega), b 12 (by omega), b 13 (by omega), b 14 (by omega), b 15 (by omega)]
  clear b
  obtain ⟨id, time, gen, st, sn, ty, de, d0, d1, d2⟩ := e
  obtain ⟨f1, f2, f3, f4, f5, f6, f7, f8, f9⟩ := hf
  simp only [vld, Bool.and_eq_true, decide_eq_true_eq] at hv
  dsimp only at f1 f2 f3 f4 f5 f6 f7 f8 f9 hv
  show (⟨id % 256 + 256 * (id / 256), time % 256 + 256 * (time / 256 % 256) + 65536 * (time / 65536 % 256) + 16777216 * (time / 16777216), gen % 256 + 256 * (gen / 256), st, sn, tb ⟨id, time, gen, st, sn, ty, de, d0, d1, d2⟩ % 128, decide (128 ≤ tb ⟨id, time, gen, st, sn, ty, de, d0, d1, d2⟩), d0, d1, d2⟩ : Ev) = _
  have e1 : id % 256 + 256 * (id / 256) = id := by omega
  have e2 : time % 256 + 256 * (time / 256 % 256) + 65536 * (time / 65536 % 256) + 16777216 * (time / 16777216) = time := by omega
  have e3 : gen % 256 + 256 * (gen / 256) = gen := by omega
  have e4 : tb ⟨id, time, gen, st, sn, ty, de, d0, d1, d2⟩ % 128 = ty := by unfold tb; cases de <;> simp <;> omega
  have e5 : decide (128 ≤ tb ⟨id, time, gen, st, sn, ty, de, d0, d1, d2⟩) = de := by unfold tb; cases de <;> simp <;> omega
  rw [e1, e2, e3, e4, e5]
/-- The bytes of an event mean the event. -/
theorem dec_enc (e : Ev) (hf : e.Fit) (hv : vld e = true) : dec (encE e) = (e, 0) := by
  have b2 := bt_enc e hf hv 2 (by omega)
  have b9 := bt_enc e hf hv 9 (by omega)
  have e2 : (encN e).getD 2 0 = 2 := rfl
  have e9 : (encN e).getD 9 0 = 4 := rfl
  have hl : (encE e).length = 16 := rfl
  unfold dec
  rw [if_neg (by omega), if_neg (by omega), decE_enc e hf hv, hv, if_pos rfl]
theorem enc_inj {e f : Ev} (he : e.Fit) (hf : f.Fit) (ve : vld e = true) (vf : vld f = true) : (encE e = encE f) ↔ e = f := by
  constructor
  · intro h
    have h1 := dec_enc e he ve
    rw [h, dec_enc f hf vf] at h1
    injection h1 with h1 _
    exact h1.symm
  · rintro rfl; rfl
theorem dec_fit (l : List UInt8) : (dec l).1.Fit := by
  have hn : Ev.none.Fit := ⟨by decide, by decide, by decide, by decide, by decide, by decide, by decide, by decide, by decide⟩
  unfold dec
  split
  · exact hn
  · split
    · exact hn
    · split
      · exact decE_fit l
      · exact hn
end Go.Proofs.YtgbnigbjnbcfeaaDoor.V7
