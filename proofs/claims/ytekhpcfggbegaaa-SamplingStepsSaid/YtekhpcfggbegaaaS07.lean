/- Plain mathematics of conversions: their bytes. -/
import Derived.Test.YtekhpcfggbegaaaS04
import Derived.Test.YtekhpcfggbegaaaS06
namespace Go.Proofs.Ytekhpcfggbegaaa.C4p
open Go.Proofs.Ytekhpcfggbegaaa.M3p
set_option maxRecDepth 100000

/-- A number in two's complement, n bytes, the least significant first. -/
def le (v : Int) (n : Nat) : List UInt8 := F2p.lit (v % 18446744073709551616).toNat n
def top (l : List UInt8) : Bool := match l.getLast? with
  | some x => decide (128 ≤ x.toNat)
  | none => false
/-- The number that bytes in two's complement are. -/
def sgn (l : List UInt8) : Int := (F2p.num l : Int) - if top l = true then 256 ^ l.length else 0
theorem le_len (v : Int) (n : Nat) : (le v n).length = n := F2p.lit_len _ _
theorem top_lit (w n : Nat) : top (F2p.lit w (n + 1)) = decide (128 ≤ w / 256 ^ n % 256) := by
  unfold top
  rw [F2p.lit_snoc, List.getLast?_concat]
  show decide (128 ≤ (UInt8.ofNat (w / 256 ^ n % 256)).toNat) = _
  rw [UInt8.toNat_ofNat', Nat.mod_eq_of_lt (by omega)]
theorem lit_mod (w n : Nat) : F2p.lit w n = F2p.lit (w % 256 ^ n) n := by
  have := F2p.lit_more (w % 256 ^ n) (w / 256 ^ n) n
  rw [Nat.mod_add_div] at this
  exact this
theorem sgn_1 {v : Int} (h1 : -128 ≤ v) (h2 : v < 128) : sgn (le v 1) = v := by
  unfold sgn
  rw [le_len]
  unfold le
  rw [lit_mod, top_lit, F2p.num_lit _ _ (Nat.mod_lt _ (by decide))]
  simp only [decide_eq_true_eq]
  rw [show (256 : Nat) ^ 1 = 256 by decide, show (256 : Nat) ^ 0 = 1 by decide, show (256 : Int) ^ 1 = 256 by decide]
  split <;> omega
theorem sgn_2 {v : Int} (h1 : -32768 ≤ v) (h2 : v < 32768) : sgn (le v 2) = v := by
  unfold sgn
  rw [le_len]
  unfold le
  rw [lit_mod, top_lit, F2p.num_lit _ _ (Nat.mod_lt _ (by decide))]
  simp only [decide_eq_true_eq]
  rw [show (256 : Nat) ^ 2 = 65536 by decide, show (256 : Nat) ^ 1 = 256 by decide, show (256 : Int) ^ 2 = 65536 by decide]
  split <;> omega
theorem sgn_6 {v : Int} (h1 : -140737488355328 ≤ v) (h2 : v < 140737488355328) : sgn (le v 6) = v := by
  unfold sgn
  rw [le_len]
  unfold le
  rw [lit_mod, top_lit, F2p.num_lit _ _ (Nat.mod_lt _ (by decide))]
  simp only [decide_eq_true_eq]
  rw [show (256 : Nat) ^ 6 = 281474976710656 by decide, show (256 : Nat) ^ 5 = 1099511627776 by decide, show (256 : Int) ^ 6 = 281474976710656 by decide]
  split <;> omega
def body : List (UInt8 × Int) → List UInt8
  | [] => []
  | (r, v) :: l => r :: (le v 6 ++ body l)
def hd (c : Cv) : UInt8 := UInt8.ofNat (c.f.toNat + if c.s = true then 128 else 0)
/-- The bytes of a valid conversion. -/
def enc (c : Cv) : List UInt8 := if c.f = 5 then hd c :: UInt8.ofNat c.p.length :: body c.p else hd c :: (le c.m 2 ++ (le c.b 2 ++ (le c.k1 1 ++ le c.k2 1)))
def u8 (l : List UInt8) (i : Nat) : Nat := (l.getD i 0).toNat
def piece (l : List UInt8) (a n : Nat) : List UInt8 := (l.drop a).take n
def pts (l : List UInt8) : Nat → List (UInt8 × Int)
  | 0 => []
  | k + 1 => (l.getD 0 0, sgn (piece l 1 6)) :: pts (l.drop 7) k
def noCv : Cv := ⟨0, false, 0, 0, 0, 0, []⟩
def dfin (c : Cv) (n : Int) : Cv × Int × Int := if vld c = true then (c, n, 0) else (noCv, 0, 1)
/-- What Decode answers: conversion, length, error. -/
def dec (l : List UInt8) : Cv × Int × Int :=
  if l = [] then (noCv, 0, 4)
  else if u8 l 0 % 128 < 1 ∨ 5 < u8 l 0 % 128 then (noCv, 0, 6)
  else if u8 l 0 % 128 = 5 then
    if l.length < 2 then (noCv, 0, 4)
    else if u8 l 1 < 2 ∨ 12 < u8 l 1 then (noCv, 0, 6)
    else if l.length < 2 + 7 * u8 l 1 then (noCv, 0, 4)
    else dfin ⟨5, decide (128 ≤ u8 l 0), 0, 0, 0, 0, pts (l.drop 2) (u8 l 1)⟩ (2 + 7 * u8 l 1)
  else if l.length < 7 then (noCv, 0, 4)
  else dfin ⟨(u8 l 0 % 128 : Nat), decide (128 ≤ u8 l 0), sgn (piece l 1 2), sgn (piece l 3 2), sgn (piece l 5 1), sgn (piece l 6 1), []⟩ 7
theorem body_len (p : List (UInt8 × Int)) : (body p).length = 7 * p.length := by
  induction p with
  | nil => rfl
  | cons a p ih =>
    obtain ⟨r, v⟩ := a
    rw [body, List.length_cons, List.length_append, le_len, ih, List.length_cons]; omega
theorem take_pre {a b : List UInt8} {n : Nat} (h : a.length = n) : (a ++ b).take n = a := by subst h; exact List.take_left
theorem drop_pre {a b : List UInt8} {n : Nat} (h : a.length = n) : (a ++ b).drop n = b := by subst h; exact List.drop_left
theorem pts_body (p : List (UInt8 × Int)) (rest : List UInt8) (h : ∀ q ∈ p, -lim ≤ q.2 ∧ q.2 ≤ lim) : pts (body p ++ rest) p.length = p := by
  induction p with
  | nil => rfl
  | cons a p ih =>
    obtain ⟨r, v⟩ := a
    have hv := h (r, v) (by simp)
    unfold lim at hv
    rw [List.length_cons, pts, body, List.cons_append, List.append_assoc]
    have e1 : piece (r :: (le v 6 ++ (body p ++ rest))) 1 6 = le v 6 := by
      unfold piece
      rw [List.drop_one, List.tail_cons, take_pre (le_len _ _)]
    have e2 : (r :: (le v 6 ++ (body p ++ rest))).drop 7 = body p ++ rest := by
      rw [List.drop_succ_cons, drop_pre (le_len _ _)]
    rw [e1, e2, ih (fun q hq => h q (by simp [hq])), sgn_6 (by omega) (by omega)]
    rfl
theorem hd_nat {c : Cv} (h : vld c = true) : (hd c).toNat = c.f.toNat + (if c.s = true then 128 else 0) ∧ 1 ≤ c.f ∧ c.f ≤ 5 := by
  have hf : 1 ≤ c.f ∧ c.f ≤ 5 := by
    by_cases h5 : c.f = 5
    · omega
    · have := (vld_lin h h5).1; omega
  refine ⟨?_, hf⟩
  unfold hd
  rw [UInt8.toNat_ofNat', Nat.mod_eq_of_lt]
  split <;> omega
theorem hd_parts {c : Cv} (h : vld c = true) : (hd c).toNat % 128 = c.f.toNat ∧ decide (128 ≤ (hd c).toNat) = c.s := by
  obtain ⟨h1, h2, h3⟩ := hd_nat h
  rw [h1]
  rcases hs : c.s with _ | _
  · rw [if_neg (by simp)]
    exact ⟨by omega, decide_eq_false (by omega)⟩
  · rw [if_pos rfl]
    exact ⟨by omega, decide_eq_true (by omega)⟩
theorem enc_len {c : Cv} : (enc c).length = if c.f = 5 then 2 + 7 * c.p.length else 7 := by
  unfold enc
  split
  · rw [List.length_cons, List.length_cons, body_len]; omega
  · simp [le_len]
/-- A conversion is decoded from its bytes, whatever follows. -/
theorem dec_enc {c : Cv} (h : vld c = true) (rest : List UInt8) : dec (enc c ++ rest) = (c, ((enc c).length : Int), 0) := by
  obtain ⟨g1, g2⟩ := hd_parts h
  obtain ⟨-, g3, g4⟩ := hd_nat h
  have hlen := @enc_len c
  by_cases h5 : c.f = 5
  · obtain ⟨⟨hm, hb, hk1, hk2⟩, ⟨hp1, hp2⟩, hok⟩ := vld_tab h h5
    rw [if_pos h5] at hlen
    have e : enc c ++ rest = hd c :: UInt8.ofNat c.p.length :: (body c.p ++ rest) := by unfold enc; rw [if_pos h5]; rfl
    have hk : (UInt8.ofNat c.p.length).toNat = c.p.length := by rw [UInt8.toNat_ofNat']; exact Nat.mod_eq_of_lt (by omega)
    have u0 : u8 (enc c ++ rest) 0 = (hd c).toNat := by rw [e]; rfl
    have u1 : u8 (enc c ++ rest) 1 = c.p.length := by rw [e]; exact hk
    have hl : (enc c ++ rest).length = 2 + 7 * c.p.length + rest.length := by rw [List.length_append, hlen]
    unfold dec
    rw [if_neg (by rw [e]; simp), u0, g1, if_neg (by omega), if_pos (by omega), hl, if_neg (by omega), u1, if_neg (by omega), if_neg (by omega), g2]
    have hd2 : (enc c ++ rest).drop 2 = body c.p ++ rest := by rw [e]; rfl
    rw [hd2, pts_body c.p rest (okp_none hok)]
    have hc : (⟨5, c.s, 0, 0, 0, 0, c.p⟩ : Cv) = c := by
      obtain ⟨f, s, m, b, k1, k2, p⟩ := c
      dsimp only at h5 hm hb hk1 hk2
      subst h5 hm hb hk1 hk2
      rfl
    rw [hc]
    unfold dfin
    rw [if_pos h, hlen]
    simp
  · obtain ⟨hf, ⟨m1, m2, b1, b2, k1, k2, k3, k4⟩, hp⟩ := vld_lin h h5
    rw [if_neg h5] at hlen
    have e : enc c ++ rest = hd c :: (le c.m 2 ++ (le c.b 2 ++ (le c.k1 1 ++ (le c.k2 1 ++ rest)))) := by
      unfold enc; rw [if_neg h5]; simp [List.append_assoc]
    have u0 : u8 (enc c ++ rest) 0 = (hd c).toNat := by rw [e]; rfl
    have hl : (enc c ++ rest).length = 7 + rest.length := by rw [List.length_append, hlen]
    have p1 : piece (enc c ++ rest) 1 2 = le c.m 2 := by
      unfold piece; rw [e, List.drop_one, List.tail_cons, take_pre (le_len _ _)]
    have d3 : (enc c ++ rest).drop 3 = le c.b 2 ++ (le c.k1 1 ++ (le c.k2 1 ++ rest)) := by rw [e, List.drop_succ_cons, drop_pre (le_len _ _)]
    have p2 : piece (enc c ++ rest) 3 2 = le c.b 2 := by unfold piece; rw [d3, take_pre (le_len _ _)]
    have d5 : (enc c ++ rest).drop 5 = le c.k1 1 ++ (le c.k2 1 ++ rest) := by rw [show 5 = 3 + 2 by rfl, ← List.drop_drop, d3, drop_pre (le_len _ _)]
    have p3 : piece (enc c ++ rest) 5 1 = le c.k1 1 := by unfold piece; rw [d5, take_pre (le_len _ _)]
    have d6 : (enc c ++ rest).drop 6 = le c.k2 1 ++ rest := by rw [show 6 = 5 + 1 by rfl, ← List.drop_drop, d5, drop_pre (le_len _ _)]
    have p4 : piece (enc c ++ rest) 6 1 = le c.k2 1 := by unfold piece; rw [d6, take_pre (le_len _ _)]
    unfold dec
    rw [if_neg (by rw [e]; simp), u0, g1, if_neg (by omega), if_neg (by omega), hl, if_neg (by omega), g2, p1, p2, p3, p4, sgn_2 (by omega) (by omega), sgn_2 (by omega) (by omega), sgn_1 (by omega) (by omega), sgn_1 (by omega) (by omega)]
    have hc : (⟨((c.f.toNat : Nat) : Int), c.s, c.m, c.b, c.k1, c.k2, []⟩ : Cv) = c := by
      obtain ⟨f, s, m, b, x1, x2, p⟩ := c
      dsimp only at hf hp ⊢
      subst hp
      rw [show ((f.toNat : Nat) : Int) = f by omega]
    rw [hc]
    unfold dfin
    rw [if_pos h, hlen]
    simp
/-- From fewer bytes it is not. -/
theorem dec_cut {c : Cv} (h : vld c = true) {k : Nat} (hk : k < (enc c).length) : (dec ((enc c).take k)).2.2 = 4 := by
  obtain ⟨g1, g2⟩ := hd_parts h
  obtain ⟨-, g3, g4⟩ := hd_nat h
  have hlen := @enc_len c
  have hl : ((enc c).take k).length = k := by rw [List.length_take]; omega
  have hx : ∀ i, i < k → u8 ((enc c).take k) i = u8 (enc c) i := by
    intro i hi
    unfold u8
    rw [List.getD_eq_getElem?_getD, List.getD_eq_getElem?_getD, List.getElem?_take_of_lt hi]
  unfold dec
  by_cases h0 : k = 0
  · rw [if_pos (List.eq_nil_of_length_eq_zero (by omega))]
  · rw [if_neg (fun e => h0 (by rw [e] at hl; simp at hl; omega)), hx 0 (by omega)]
    have u0 : u8 (enc c) 0 = (hd c).toNat := by
      unfold enc
      split <;> rfl
    rw [u0, g1, if_neg (by omega), hl]
    by_cases h5 : c.f = 5
    · obtain ⟨-, ⟨hp1, hp2⟩, -⟩ := vld_tab h h5
      rw [if_pos h5] at hlen
      rw [if_pos (by omega)]
      by_cases h2 : k < 2
      · rw [if_pos h2]
      · have u1 : u8 (enc c) 1 = c.p.length := by
          unfold enc
          rw [if_pos h5]
          show (UInt8.ofNat c.p.length).toNat = _
          rw [UInt8.toNat_ofNat']; exact Nat.mod_eq_of_lt (by omega)
        rw [if_neg h2, hx 1 (by omega), u1, if_neg (by omega), if_pos (by omega)]
    · have := (vld_lin h h5).1
      rw [if_neg h5] at hlen
      rw [if_neg (by omega), if_pos (by omega)]
end Go.Proofs.Ytekhpcfggbegaaa.C4p
