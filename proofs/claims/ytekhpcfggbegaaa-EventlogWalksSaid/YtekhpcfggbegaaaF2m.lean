/- Plain mathematics of type/length fields: decoding. -/
import Derived.Test.YtekhpcfggbegaaaF2p
namespace Go.Proofs.Ytekhpcfggbegaaa.F2p
open Go.Proofs.Ytekhpcfggbegaaa.Mem
set_option maxRecDepth 100000
theorem bl_mk (l : List UInt8) : bl ⟨l.toArray⟩ = l := rfl
theorem mk_bl (s : ByteArray) : (⟨(bl s).toArray⟩ : ByteArray) = s := by
  rcases s with ⟨a⟩
  simp [bl]
def sgl : List UInt8 := [48, 49, 50, 51, 52, 53, 54, 55, 56, 57, 32, 45, 46]
def sg (d : Nat) : UInt8 := sgl.getD d 0
theorem dig_sg : ∀ d, d < 13 → dig (sg d).toNat = (d : Int) := by decide
theorem sg_dig (x : UInt8) (h : 0 ≤ dig x.toNat) : sg (dig x.toNat).toNat = x := by
  have hx : x.toNat < 256 := x.toNat_lt
  have : x = UInt8.ofNat x.toNat := by simp
  rw [this]
  generalize x.toNat = n at *
  revert h
  have key : ∀ n, n < 256 → 0 ≤ dig (UInt8.ofNat n).toNat → sg (dig (UInt8.ofNat n).toNat).toNat = UInt8.ofNat n := by decide
  intro h
  exact key n hx (by rw [UInt8.toNat_ofNat', Nat.mod_eq_of_lt (by omega)]; exact h)
def nyb (x : UInt8) : Bool := decide (x.toNat / 16 < 13) && decide (x.toNat % 16 < 13)
def unb (l : List UInt8) : List UInt8 := l.flatMap fun x => [sg (x.toNat / 16), sg (x.toNat % 16)]
theorem unb_cons (x : UInt8) (l : List UInt8) : unb (x :: l) = sg (x.toNat / 16) :: sg (x.toNat % 16) :: unb l := rfl
theorem unb_len (l : List UInt8) : (unb l).length = 2 * l.length := by
  induction l with
  | nil => rfl
  | cons x l ih => rw [unb_cons]; simp [ih]; omega
theorem unb_snoc {l : List UInt8} {k : Nat} (h : k < l.length) : unb (l.take (k + 1)) = unb (l.take k) ++ [sg (l[k].toNat / 16), sg (l[k].toNat % 16)] := by
  rw [List.take_succ_eq_append_getElem h]; unfold unb; rw [List.flatMap_append]; simp
theorem pack_nat (a b : Int) (ha : 0 ≤ a) (ha2 : a ≤ 12) (hb : 0 ≤ b) (hb2 : b ≤ 12) : (UInt8.ofNat (16 * a + b).toNat).toNat = (16 * a + b).toNat := by
  rw [UInt8.toNat_ofNat']; omega
theorem unb_bcd : ∀ (l : List UInt8), okd l = true → l.length % 2 = 0 → unb (bcd l) = l ∧ (bcd l).all nyb = true
  | [], _, _ => ⟨rfl, rfl⟩
  | [a], _, h => by simp at h
  | a :: b :: l, h, h2 => by
    have ha : 0 ≤ dig a.toNat := okd_at h 0 (by simp)
    have hb : 0 ≤ dig b.toNat := okd_at h 1 (by simp)
    have ha2 := (dig_range a.toNat).2
    have hb2 := (dig_range b.toNat).2
    have hl : okd l = true := by simp [okd] at h ⊢; exact h.2.2
    obtain ⟨h3, h4⟩ := unb_bcd l hl (by simp at h2; omega)
    have e := pack_nat _ _ ha ha2 hb hb2
    constructor
    · rw [bcd, unb_cons, h3, e, show (16 * dig a.toNat + dig b.toNat).toNat / 16 = (dig a.toNat).toNat by omega, show (16 * dig a.toNat + dig b.toNat).toNat % 16 = (dig b.toNat).toNat by omega, sg_dig a ha, sg_dig b hb]
    · rw [bcd, List.all_cons, h4, Bool.and_true]
      unfold nyb; rw [e]; simp; omega
theorem bcd_unb : ∀ (l : List UInt8), l.all nyb = true → bcd (unb l) = l ∧ okd (unb l) = true
  | [], _ => ⟨rfl, rfl⟩
  | x :: l, h => by
    rw [List.all_cons, Bool.and_eq_true] at h
    obtain ⟨h1, h2⟩ := h
    obtain ⟨h3, h4⟩ := bcd_unb l h2
    simp [nyb] at h1
    have e1 := dig_sg _ h1.1
    have e2 := dig_sg _ h1.2
    constructor
    · rw [unb_cons, bcd, h3, e1, e2, show (16 * ((x.toNat / 16 : Nat) : Int) + ((x.toNat % 16 : Nat) : Int)).toNat = x.toNat by omega]; simp
    · rw [unb_cons]
      unfold okd at *
      rw [List.all_cons, List.all_cons, h4, e1, e2]; simp; omega
/-- The number of little-endian bytes. -/
def num : List UInt8 → Nat
  | [] => 0
  | x :: l => x.toNat + 256 * num l
theorem num_lt (l : List UInt8) : num l < 256 ^ l.length := by
  induction l with
  | nil => simp [num]
  | cons x l ih =>
    have := x.toNat_lt
    simp only [num, List.length_cons, Nat.pow_succ]; omega
theorem num_app (a b : List UInt8) : num (a ++ b) = num a + 256 ^ a.length * num b := by
  induction a with
  | nil => simp [num]
  | cons x a ih => simp only [List.cons_append, num, ih, List.length_cons, Nat.pow_succ]; rw [Nat.mul_add, Nat.add_assoc, Nat.mul_comm (256 ^ a.length) 256, Nat.mul_assoc]
theorem num_succ (l : List UInt8) (i : Nat) (h : i < l.length) : num (l.take (i + 1)) = num (l.take i) + 256 ^ i * l[i].toNat := by
  rw [List.take_succ_eq_append_getElem h, num_app, List.length_take, Nat.min_eq_left (by omega)]
  simp [num]
theorem num_lit (v n : Nat) (h : v < 256 ^ n) : num (lit v n) = v := by
  induction n generalizing v with
  | zero => simp at h; subst h; rfl
  | succ n ih =>
    rw [lit, num, ih _ (by rw [Nat.pow_succ] at h; omega), UInt8.toNat_ofNat']; omega
theorem lit_num (l : List UInt8) : lit (num l) l.length = l := by
  induction l with
  | nil => rfl
  | cons x l ih =>
    have := x.toNat_lt
    rw [num, List.length_cons, lit, show (x.toNat + 256 * num l) / 256 = num l by omega, ih, show (x.toNat + 256 * num l) % 256 = x.toNat by omega]; simp
theorem lit_snoc (v n : Nat) : lit v (n + 1) = lit v n ++ [UInt8.ofNat (v / 256 ^ n % 256)] := by
  induction n generalizing v with
  | zero => simp [lit]
  | succ n ih => rw [lit, ih, lit, List.cons_append, Nat.div_div_eq_div_mul, Nat.pow_succ, Nat.mul_comm 256]
/-- The lowest bytes alone matter. -/
theorem lit_more (v c n : Nat) : lit (v + 256 ^ n * c) n = lit v n := by
  induction n generalizing v with
  | zero => rfl
  | succ n ih =>
    have e : 256 ^ (n + 1) * c = 256 * (256 ^ n * c) := by rw [Nat.pow_succ, Nat.mul_comm (256 ^ n) 256, Nat.mul_assoc]
    rw [lit, lit, e, show (v + 256 * (256 ^ n * c)) % 256 = v % 256 by omega, show (v + 256 * (256 ^ n * c)) / 256 = v / 256 + 256 ^ n * c by omega, ih]
def chr6 (v : Nat) : UInt8 := UInt8.ofNat (v % 64 + 32)
def chars : Nat → Nat → List UInt8
  | _, 0 => []
  | v, n + 1 => chr6 v :: chars (v / 64) n
theorem chars_len (v n : Nat) : (chars v n).length = n := by
  induction n generalizing v with
  | zero => rfl
  | succ n ih => simp [chars, ih]
theorem chars_snoc (v n : Nat) : chars v (n + 1) = chars v n ++ [chr6 (v / 64 ^ n)] := by
  induction n generalizing v with
  | zero => simp [chars]
  | succ n ih => rw [chars, ih, chars, List.cons_append, Nat.div_div_eq_div_mul, Nat.pow_succ, Nat.mul_comm 64]
theorem chars_more (v c n : Nat) : chars (v + 64 ^ n * c) n = chars v n := by
  induction n generalizing v with
  | zero => rfl
  | succ n ih =>
    have e : 64 ^ (n + 1) * c = 64 * (64 ^ n * c) := by rw [Nat.pow_succ, Nat.mul_comm (64 ^ n) 64, Nat.mul_assoc]
    rw [chars, chars, e, show (v + 64 * (64 ^ n * c)) / 64 = v / 64 + 64 ^ n * c by omega, ih]
    unfold chr6
    rw [show (v + 64 * (64 ^ n * c)) % 64 = v % 64 by omega]
theorem chr6_nat (v : Nat) : (chr6 v).toNat = v % 64 + 32 := by unfold chr6; rw [UInt8.toNat_ofNat']; omega
theorem oks_chars (v n : Nat) : oks (chars v n) = true := by
  induction n generalizing v with
  | zero => rfl
  | succ n ih =>
    have := ih (v / 64)
    unfold oks at *
    rw [chars, List.all_cons, this, chr6_nat]; simp; omega
theorem v6_chars (v n : Nat) (h : v < 64 ^ n) : v6 (chars v n) = v := by
  induction n generalizing v with
  | zero => simp at h; subst h; rfl
  | succ n ih =>
    rw [chars, v6, ih _ (by rw [Nat.pow_succ] at h; omega), chr6_nat]; omega
theorem chars_v6 (l : List UInt8) (h : oks l = true) : chars (v6 l) l.length = l := by
  induction l with
  | nil => rfl
  | cons x l ih =>
    have hx : 32 ≤ x.toNat ∧ x.toNat ≤ 95 := oks_at h 0 (by simp)
    have hl : oks l = true := by simp [oks] at h ⊢; exact h.2
    rw [List.length_cons, v6, chars, show (x.toNat - 32 + 64 * v6 l) / 64 = v6 l by omega, ih hl]
    unfold chr6
    rw [show (x.toNat - 32 + 64 * v6 l) % 64 + 32 = x.toNat by omega]; simp
/-- What encoded data stand for. -/
def und (k : Int) (l : List UInt8) : Option (List UInt8) :=
  if k = 1 then (if l.all nyb then some (unb l) else none)
  else if k = 2 then (if num l / 64 ^ (8 * l.length / 6) = 0 then some (chars (num l) (8 * l.length / 6)) else none)
  else some l
theorem six_back (n : Nat) (h : n % 4 ≠ 3) : 8 * sixB n / 6 = n := by
  unfold sixB
  obtain ⟨q, r, hr, rfl⟩ : ∃ q r, r < 4 ∧ n = 4 * q + r := ⟨n / 4, n % 4, by omega, by omega⟩
  match r, hr with
  | 0, _ => omega
  | 1, _ => omega
  | 2, _ => omega
  | 3, _ => omega
theorem six_forth (n : Nat) : sixB (8 * n / 6) = n ∧ (8 * n / 6) % 4 ≠ 3 := by unfold sixB; omega
theorem pow_six (n : Nat) : 64 ^ n ≤ 256 ^ sixB n := by
  rw [show (64 : Nat) = 2 ^ 6 from rfl, show (256 : Nat) = 2 ^ 8 from rfl, ← Nat.pow_mul, ← Nat.pow_mul]
  exact Nat.pow_le_pow_right (by omega) (by unfold sixB; omega)
theorem und_dat (k : Int) (l : List UInt8) (h : vld k l = true) : und k (dat k l) = some l := by
  unfold und dat
  by_cases h1 : k = 1
  · subst h1
    obtain ⟨h2, _, h3⟩ := vld_bcd h
    obtain ⟨e1, e2⟩ := unb_bcd l h3 h2
    simp only [if_true, e1, e2]
  · by_cases h2 : k = 2
    · subst h2
      obtain ⟨h4, _, _, h3⟩ := vld_six h
      have hv := v6_lt l h3
      have e := num_lit (v6 l) (sixB l.length) (Nat.lt_of_lt_of_le hv (pow_six _))
      have e2 : (if (2 : Int) = 1 then bcd l else if (2 : Int) = 2 then lit (v6 l) (sixB l.length) else l) = lit (v6 l) (sixB l.length) := by simp
      rw [e2, if_neg (by decide), if_pos rfl, e, lit_len, six_back _ h4, if_pos (Nat.div_eq_of_lt hv), chars_v6 l h3]
    · rw [if_neg h1, if_neg h2, if_neg h1, if_neg h2]
theorem dat_und (k : Int) (l v : List UInt8) (h : und k l = some v) : dat k v = l := by
  unfold und at h
  unfold dat
  by_cases h1 : k = 1
  · subst h1
    rw [if_pos rfl] at h ⊢
    split at h
    · injection h with h; subst h; exact (bcd_unb l ‹_›).1
    · cases h
  · by_cases h2 : k = 2
    · subst h2
      rw [if_neg (by omega), if_pos rfl] at h ⊢
      split at h
      · rename_i h0
        injection h with h; subst h
        have hlt : num l < 64 ^ (8 * l.length / 6) := by
          rcases Nat.div_eq_zero_iff.1 h0 with h | h
          · exact absurd h (by have := Nat.pow_pos (n := 8 * l.length / 6) (show 0 < 64 by omega); omega)
          · exact h
        rw [v6_chars _ _ hlt, chars_len, (six_forth _).1, lit_num]
      · cases h
    · rw [if_neg h1, if_neg h2] at h ⊢
      injection h with h; exact h.symm
theorem vld_und (k : Int) (l v : List UInt8) (h : und k l = some v) (hl : l.length ≤ 63) (h0 : 0 ≤ k) (h3 : k ≤ 3) (hm : ¬ (k = 3 ∧ l.length = 1)) : vld k v = true := by
  unfold und at h
  unfold vld
  by_cases h1 : k = 1
  · subst h1
    rw [if_pos rfl] at h
    split at h
    · injection h with h; subst h
      have := (bcd_unb l ‹_›).2
      rw [if_neg (by omega), if_pos rfl, this, unb_len]; simp; omega
    · cases h
  · by_cases h2 : k = 2
    · subst h2
      rw [if_neg (by omega), if_pos rfl] at h
      split at h
      · injection h with h; subst h
        have := six_forth l.length
        rw [if_neg (by omega), if_neg (by omega), if_pos rfl, oks_chars, chars_len, this.1]; simp; omega
      · cases h
    · rw [if_neg h1, if_neg h2] at h
      injection h with h; subst h
      by_cases hk : k = 0
      · subst hk; simp; omega
      · obtain rfl : k = 3 := by omega
        have hn : l.length ≠ 1 := fun e => hm ⟨rfl, e⟩
        rw [if_neg (by decide), if_neg (by decide), if_neg (by decide), if_pos rfl]
        exact decide_eq_true (by omega)
/-- What Decode answers. -/
structure De where
  k : Int
  v : List UInt8
  n : Nat
  z : Bool
  c : Int
def dec (l : List UInt8) : De :=
  if l.length = 0 then ⟨0, [], 0, false, 4⟩
  else if (l[0]?.getD 0).toNat = 193 then ⟨0, [], 1, true, 0⟩
  else if l.length < 1 + (l[0]?.getD 0).toNat % 64 then ⟨0, [], 0, false, 4⟩
  else match und ((l[0]?.getD 0).toNat / 64 : Nat) ((l.drop 1).take ((l[0]?.getD 0).toNat % 64)) with
    | some v => ⟨((l[0]?.getD 0).toNat / 64 : Nat), v, 1 + (l[0]?.getD 0).toNat % 64, false, 0⟩
    | none => ⟨0, [], 0, false, 6⟩
theorem vld_dat {k : Int} {l : List UInt8} (h : vld k l = true) : (dat k l).length ≤ 63 ∧ 0 ≤ k ∧ k ≤ 3 ∧ ¬ (k = 3 ∧ (dat k l).length = 1) := by
  rw [dat_len]
  unfold vld at h
  split at h
  · subst_vars; simp at h ⊢; exact h
  · split at h
    · subst_vars; simp at h ⊢; omega
    · split at h
      · subst_vars; simp at h ⊢; exact h.1.2.2
      · split at h
        · subst_vars
          have h := of_decide_eq_true h
          rw [if_neg (by decide), if_neg (by decide)]
          omega
        · cases h
theorem enc_len (k : Int) (l : List UInt8) : (enc k l).length = 1 + (dat k l).length := by simp [enc]; omega
theorem enc_head {k : Int} {l : List UInt8} (h : vld k l = true) (r : List UInt8) : (((enc k l ++ r)[0]?).getD 0).toNat = 64 * k.toNat + (dat k l).length := by
  obtain ⟨h1, h2, h3, _⟩ := vld_dat h
  simp only [enc, List.cons_append, List.getElem?_cons_zero, Option.getD_some]
  rw [UInt8.toNat_ofNat']; omega
theorem dec_enc (k : Int) (l r : List UInt8) (h : vld k l = true) : dec (enc k l ++ r) = ⟨k, l, (enc k l).length, false, 0⟩ := by
  obtain ⟨h1, h2, h3, h4⟩ := vld_dat h
  have hh := enc_head h r
  have hl : (enc k l ++ r).length = 1 + (dat k l).length + r.length := by rw [List.length_append, enc_len]
  have hd : (enc k l ++ r).drop 1 = dat k l ++ r := by simp [enc]
  unfold dec
  rw [hh, hl, hd, if_neg (by omega), if_neg (by omega), if_neg (by omega), show (64 * k.toNat + (dat k l).length) % 64 = (dat k l).length by omega, show (((64 * k.toNat + (dat k l).length) / 64 : Nat) : Int) = k by omega, List.take_left', und_dat k l h, enc_len]
  rfl
theorem dec_cut (k : Int) (l r : List UInt8) (h : vld k l = true) (n : Nat) (hn : n < (enc k l).length) : dec ((enc k l ++ r).take n) = ⟨0, [], 0, false, 4⟩ := by
  obtain ⟨h1, h2, h3, h4⟩ := vld_dat h
  have hh := enc_head h r
  rw [enc_len] at hn
  have hl : ((enc k l ++ r).take n).length = n := by rw [List.length_take, List.length_append, enc_len]; omega
  unfold dec
  rw [hl]
  by_cases h0 : n = 0
  · rw [if_pos h0]
  · have hx : ((enc k l ++ r).take n)[0]? = (enc k l ++ r)[0]? := by rw [List.getElem?_take]; simp; omega
    rw [if_neg h0, hx, hh, if_neg (by omega), if_pos (by omega)]
theorem dec_yes {l : List UInt8} (h : (dec l).c = 0) (hz : (dec l).z = false) : 1 ≤ (dec l).n ∧ (dec l).n ≤ l.length ∧ vld (dec l).k (dec l).v = true ∧ enc (dec l).k (dec l).v = l.take (dec l).n := by
  unfold dec at *
  by_cases h0 : l.length = 0
  · rw [if_pos h0] at h; cases h
  rw [if_neg h0] at h hz ⊢
  by_cases h1 : (l[0]?.getD 0).toNat = 193
  · rw [if_pos h1] at hz; cases hz
  rw [if_neg h1] at h hz ⊢
  by_cases h2 : l.length < 1 + (l[0]?.getD 0).toNat % 64
  · rw [if_pos h2] at h; cases h
  rw [if_neg h2] at h hz ⊢
  rcases hu : und ((l[0]?.getD 0).toNat / 64 : Nat) ((l.drop 1).take ((l[0]?.getD 0).toNat % 64)) with _ | v
  · rw [hu] at h; cases h
  · simp only [hu]
    have hx := (l[0]?.getD 0).toNat_lt
    have hlen : ((l.drop 1).take ((l[0]?.getD 0).toNat % 64)).length = (l[0]?.getD 0).toNat % 64 := by rw [List.length_take, List.length_drop]; omega
    refine ⟨by omega, by omega, vld_und _ _ _ hu (by rw [hlen]; omega) (by omega) (by omega) (by rw [hlen]; omega), ?_⟩
    have hd := dat_und _ _ _ hu
    unfold enc
    rw [hd, hlen]
    rcases l with _ | ⟨x, l⟩
    · simp at h0
    · simp only [List.getElem?_cons_zero, Option.getD_some, List.drop_succ_cons, List.drop_zero]
      rw [Nat.add_comm 1, List.take_succ_cons, show (64 * ((x.toNat / 64 : Nat) : Int) + ((x.toNat % 64 : Nat) : Int)).toNat = x.toNat by omega]; simp
theorem dec_no {l : List UInt8} (h : (dec l).c ≠ 0) : (dec l).n = 0 ∧ (dec l).z = false ∧ (dec l).k = 0 ∧ (dec l).v = [] := by
  unfold dec at *
  split
  · exact ⟨rfl, rfl, rfl, rfl⟩
  · split
    · simp_all
    · split
      · exact ⟨rfl, rfl, rfl, rfl⟩
      · split
        · simp_all
        · exact ⟨rfl, rfl, rfl, rfl⟩
theorem dec_z {l : List UInt8} (hz : (dec l).z = true) : (dec l).n = 1 ∧ (dec l).c = 0 ∧ (dec l).k = 0 ∧ (dec l).v = [] ∧ 0 < l.length ∧ (l[0]?.getD 0).toNat = 193 := by
  unfold dec at *
  split
  · simp_all
  · split
    · rename_i h1 h2
      exact ⟨rfl, rfl, rfl, rfl, by omega, h2⟩
    · split
      · simp_all
      · split <;> simp_all
/-- What Best answers: kind, value, error. -/
def best (l : List UInt8) : Int × List UInt8 × Int := if vld 1 l then (1, l, 0) else if vld 2 l then (2, l, 0) else if vld 3 l then (3, l, 0) else (0, [], 6)
theorem enc_short (l : List UInt8) : (enc 1 l).length ≤ (enc 2 l).length ∧ (enc 2 l).length ≤ (enc 3 l).length := by
  rw [enc_len, enc_len, enc_len, dat_len, dat_len, dat_len]
  simp [sixB]; omega
end Go.Proofs.Ytekhpcfggbegaaa.F2p
