/- Plain mathematics of sensor records: what was decoded has the bytes that were read. -/
import Derived.Test.YtafoaonkjcfbaaaK64
namespace Go.Proofs.Ytafoaonkjcfbaaa.Um
open Go.Proofs.Ytafoaonkjcfbaaa Go.Proofs.Ytafoaonkjcfbaaa.F2p Go.Proofs.Ytafoaonkjcfbaaa.Ta
set_option maxRecDepth 100000

theorem unsealed {l : List UInt8} (h : 1 ≤ l.length) (h0 : Pl.sum8 l = 0) : sealB (l.take (l.length - 1)) = l := by
  obtain ⟨x, y, rfl⟩ : ∃ x y, l = x ++ [y] := by
    rcases List.eq_nil_or_concat l with rfl | ⟨x, y, rfl⟩
    · simp at h
    · exact ⟨x, y, by simp⟩
  have e : (x ++ [y]).take ((x ++ [y]).length - 1) = x := by simp
  rw [e]
  unfold sealB
  have h1 : Pl.sum8 x = y.toNat := by
    unfold Pl.sum8 at h0 ⊢
    rw [total_app] at h0
    have h2 : Pl.total [y] = y.toNat := by
      have := y.toNat_lt
      show (0 + y.toNat) % 256 = _
      omega
    have := Pl.total_lt x
    have := y.toNat_lt
    rw [h2] at h0
    omega
  rw [h1, UInt8.ofNat_toNat]
theorem pair_of {r : List UInt8} (h : r.length = 2) : ∃ a b, r = [a, b] := by
  match r, h with
  | [a, b], _ => exact ⟨a, b, rfl⟩
theorem lit_two (a b : UInt8) : lit (num [a, b]) 2 = [a, b] := by
  have ha := a.toNat_lt
  have hb := b.toNat_lt
  have e : num [a, b] = a.toNat + 256 * b.toNat := by
    simp [num]
  rw [e]
  show [UInt8.ofNat ((a.toNat + 256 * b.toNat) % 256), UInt8.ofNat ((a.toNat + 256 * b.toNat) / 256 % 256)] = _
  rw [show (a.toNat + 256 * b.toNat) % 256 = a.toNat by omega, show (a.toNat + 256 * b.toNat) / 256 % 256 = b.toNat by omega, UInt8.ofNat_toNat, UInt8.ofNat_toNat]
theorem lit_n2 (r : List UInt8) (i : Nat) (h : i + 2 ≤ r.length) : lit (n2 r i) 2 = (r.drop i).take 2 := by
  obtain ⟨a, b, e⟩ := pair_of (r := (r.drop i).take 2) (by rw [List.length_take, List.length_drop]; omega)
  unfold n2
  rw [e, lit_two]
theorem take8 {x : List UInt8} (h : 8 ≤ x.length) : x.take 8 = [by_ x 0, by_ x 1, by_ x 2, by_ x 3, by_ x 4, by_ x 5, by_ x 6, by_ x 7] := by
  match x, h with
  | a :: b :: c :: d :: e :: f :: g :: i :: r, _ => rfl
theorem flg_back (z : UInt8) : UInt8.ofNat (flg (decide (z.toNat % 2 = 1)) (decide (z.toNat / 2 % 2 = 1)) (((z.toNat / 4 : Nat) : Int))) = z := by
  have e : flg (decide (z.toNat % 2 = 1)) (decide (z.toNat / 2 % 2 = 1)) (((z.toNat / 4 : Nat) : Int)) = z.toNat := by
    unfold flg
    rw [Int.toNat_natCast]
    by_cases h1 : z.toNat % 2 = 1 <;> by_cases h2 : z.toNat / 2 % 2 = 1 <;> simp [h1, h2] <;> omega
  rw [e, UInt8.ofNat_toNat]
theorem beg_size (x : List UInt8) (h : 8 + (by_ x 7).toNat ≤ x.length) : (beg x).nm.size = (by_ x 7).toNat := by
  show ((x.drop 8).take (by_ x 7).toNat).toArray.size = _
  rw [List.size_toArray, List.length_take, List.length_drop]
  omega
theorem beg_back {x : List UInt8} (s : Sn) (hs : s.nu = (beg x).nu ∧ s.ty = (beg x).ty ∧ s.un = (beg x).un ∧ s.nm = (beg x).nm ∧ s.ei = (beg x).ei ∧ s.en = (beg x).en ∧ s.d = (beg x).d ∧ s.on = (beg x).on ∧ s.sm = (beg x).sm)
    (h0 : by_ x 0 = 1) (h : 8 + (by_ x 7).toNat ≤ x.length) : head s ++ bl s.nm = x.take (8 + (by_ x 7).toNat) := by
  obtain ⟨e1, e2, e3, e4, e5, e6, e7, e8, e9⟩ := hs
  unfold head
  rw [e1, e2, e3, e4, e5, e6, e7, e8, e9, beg_size x h, List.take_add, take8 (by omega), h0]
  have f := flg_back (by_ x 6)
  show [1, by_ x 1, by_ x 2, by_ x 3, by_ x 4, by_ x 5, UInt8.ofNat (flg (decide ((by_ x 6).toNat % 2 = 1)) (decide ((by_ x 6).toNat / 2 % 2 = 1)) (((by_ x 6).toNat / 4 : Nat) : Int)), UInt8.ofNat (by_ x 7).toNat] ++ ((x.drop 8).take (by_ x 7).toNat) = _
  rw [f, UInt8.ofNat_toNat]
theorem size0 {b : List UInt8} {n : Nat} (h : size b n = 0) : b.length = n := by
  unfold size at h
  split at h
  · omega
  · split at h
    · omega
    · omega
theorem rdD_back {x : List UInt8} {s : Sn} (h0 : by_ x 0 = 1) (h : 8 + (by_ x 7).toNat ≤ x.length) (hd : (by_ x 6).toNat % 2 = 1) (hr : rdD (beg x) (x.drop (8 + (by_ x 7).toNat)) = (s, 0)) : pay s = x := by
  unfold rdD at hr
  split at hr
  · rename_i hz
    injection hr with _ h2
    exact absurd h2 hz
  · rename_i hz
    have hl := size0 (Decidable.not_not.1 hz)
    injection hr with h1 _
    have hb : head s ++ bl s.nm = x.take (8 + (by_ x 7).toNat) := beg_back s (by rw [← h1]; exact ⟨rfl, rfl, rfl, rfl, rfl, rfl, rfl, rfl, rfl⟩) h0 h
    have hdd : s.d = true := by rw [← h1]; exact decide_eq_true hd
    unfold pay mid
    rw [if_pos hdd, hb]
    have hx := List.take_append_drop (8 + (by_ x 7).toNat) x
    generalize x.drop (8 + (by_ x 7).toNat) = r at *
    have q1 : lit s.st 2 = (r.drop 0).take 2 := by rw [← h1]; exact lit_n2 r 0 (by omega)
    have q2 : lit s.av 2 = (r.drop 2).take 2 := by rw [← h1]; exact lit_n2 r 2 (by omega)
    have q3 : lit s.dv 2 = (r.drop 4).take 2 := by rw [← h1]; exact lit_n2 r 4 (by omega)
    rw [q1, q2, q3]
    match r, hl with
    | [a, b, c, d, e, f], _ => 
      simp only [List.append_assoc]
      exact hx
/-! Conversions. -/
theorem le_sgn (p : List UInt8) (n : Nat) (h : p.length = n) (hn : n = 1 ∨ n = 2 ∨ n = 6) : C4p.le (C4p.sgn p) n = p := by
  unfold C4p.le
  rw [C4p.lit_mod]
  have hl := num_lt p
  have e : (C4p.sgn p % 18446744073709551616).toNat % 256 ^ n = num p := by
    unfold C4p.sgn
    rw [h] at hl ⊢
    rcases hn with rfl | rfl | rfl
    · rw [show (256 : Nat) ^ 1 = 256 by decide] at hl ⊢
      rw [show (256 : Int) ^ 1 = 256 by decide]
      split <;> omega
    · rw [show (256 : Nat) ^ 2 = 65536 by decide] at hl ⊢
      rw [show (256 : Int) ^ 2 = 65536 by decide]
      split <;> omega
    · rw [show (256 : Nat) ^ 6 = 281474976710656 by decide] at hl ⊢
      rw [show (256 : Int) ^ 6 = 281474976710656 by decide]
      split <;> omega
  rw [e, ← h, lit_num]
theorem le_piece (l : List UInt8) (a n : Nat) (h : a + n ≤ l.length) (hn : n = 1 ∨ n = 2 ∨ n = 6) : C4p.le (C4p.sgn (C4p.piece l a n)) n = (l.drop a).take n :=
  le_sgn _ n (by unfold C4p.piece; rw [List.length_take, List.length_drop]; omega) hn
theorem hd_back (z : UInt8) (c : C4p.Cv) (hf : c.f = ((z.toNat % 128 : Nat) : Int)) (hs : c.s = decide (128 ≤ z.toNat)) : C4p.hd c = z := by
  have hz := z.toNat_lt
  have e : c.f.toNat + (if c.s = true then 128 else 0) = z.toNat := by
    rw [hf, hs, Int.toNat_natCast]
    by_cases h : 128 ≤ z.toNat
    · rw [if_pos (decide_eq_true h)]; omega
    · rw [if_neg (by simp; omega)]; omega
  unfold C4p.hd
  rw [e, UInt8.ofNat_toNat]
theorem pts_len (l : List UInt8) (k : Nat) : (C4p.pts l k).length = k := by
  induction k generalizing l with
  | zero => rfl
  | succ k ih => rw [C4p.pts, List.length_cons, ih]
theorem body_pts (k : Nat) (l : List UInt8) (h : 7 * k ≤ l.length) : C4p.body (C4p.pts l k) = l.take (7 * k) := by
  induction k generalizing l with
  | zero => rfl
  | succ k ih =>
    match l, h with
    | z :: r, h =>
      rw [C4p.pts, C4p.body]
      have h1 := le_piece (z :: r) 1 6 (by omega) (.inr (.inr rfl))
      rw [h1]
      have h2 := ih ((z :: r).drop 7) (by rw [List.length_drop]; omega)
      rw [h2]
      show z :: (r.take 6 ++ (r.drop 6).take (7 * k)) = _
      rw [← List.take_add, show 7 * (k + 1) = (6 + 7 * k) + 1 by omega, List.take_succ_cons]
theorem enc_dec {r : List UInt8} {c : C4p.Cv} {n : Int} (h : C4p.dec r = (c, n, 0)) : n.toNat ≤ r.length ∧ C4p.enc c = r.take n.toNat := by
  unfold C4p.dec at h
  split at h
  · injection h with _ h; injection h with _ h; exact absurd h (by decide)
  rename_i hne
  obtain ⟨z, r, rfl⟩ := List.exists_cons_of_ne_nil hne
  split at h
  · injection h with _ h; injection h with _ h; exact absurd h (by decide)
  rename_i hf
  have hu : C4p.u8 (z :: r) 0 = z.toNat := rfl
  rw [hu] at h hf
  split at h
  · rename_i h5
    split at h
    · injection h with _ h; injection h with _ h; exact absurd h (by decide)
    rename_i hl2
    split at h
    · injection h with _ h; injection h with _ h; exact absurd h (by decide)
    rename_i hk
    split at h
    · injection h with _ h; injection h with _ h; exact absurd h (by decide)
    rename_i hl7
    unfold C4p.dfin at h
    split at h
    · injection h with h1 h2
      injection h2 with h2 _
      match r, hl2 with
      | y :: r, _ =>
        have hu1 : C4p.u8 (z :: y :: r) 1 = y.toNat := rfl
        rw [hu1] at hl7 h1 h2 hk
        have hn : n.toNat = 2 + 7 * y.toNat := by rw [← h2]; omega
        refine ⟨by omega, ?_⟩
        rw [hn]
        have hb := body_pts y.toNat r (by simp only [List.length_cons] at hl7; omega)
        subst h1
        unfold C4p.enc
        rw [if_pos rfl, hd_back z _ (by rw [h5]; rfl) rfl]
        show z :: UInt8.ofNat (C4p.pts r y.toNat).length :: C4p.body (C4p.pts r y.toNat) = _
        rw [hb, pts_len, UInt8.ofNat_toNat, show 2 + 7 * y.toNat = 7 * y.toNat + 1 + 1 by omega, List.take_succ_cons, List.take_succ_cons]
    · injection h with _ h; injection h with _ h; exact absurd h (by decide)
  · rename_i h5
    split at h
    · injection h with _ h; injection h with _ h; exact absurd h (by decide)
    rename_i hl7
    unfold C4p.dfin at h
    split at h
    · injection h with h1 h2
      injection h2 with h2 _
      have hn : n.toNat = 7 := by rw [← h2]; rfl
      refine ⟨by omega, ?_⟩
      rw [hn]
      have q1 := le_piece (z :: r) 1 2 (by omega) (.inr (.inl rfl))
      have q2 := le_piece (z :: r) 3 2 (by omega) (.inr (.inl rfl))
      have q3 := le_piece (z :: r) 5 1 (by omega) (.inl rfl)
      have q4 := le_piece (z :: r) 6 1 (by omega) (.inl rfl)
      subst h1
      unfold C4p.enc
      rw [if_neg (by show ¬ ((z.toNat % 128 : Nat) : Int) = 5; omega), hd_back z _ rfl rfl]
      show z :: (C4p.le (C4p.sgn (C4p.piece (z :: r) 1 2)) 2 ++ (C4p.le (C4p.sgn (C4p.piece (z :: r) 3 2)) 2 ++ (C4p.le (C4p.sgn (C4p.piece (z :: r) 5 1)) 1 ++ C4p.le (C4p.sgn (C4p.piece (z :: r) 6 1)) 1))) = _
      rw [q1, q2, q3, q4]
      show z :: (r.take 2 ++ ((r.drop 2).take 2 ++ ((r.drop 4).take 1 ++ (r.drop 5).take 1))) = z :: r.take 6
      rw [show (6 : Nat) = 2 + (2 + (1 + 1)) from rfl, List.take_add, List.take_add, List.take_add, List.drop_drop, List.drop_drop]
    · injection h with _ h; injection h with _ h; exact absurd h (by decide)
theorem dec_err (r : List UInt8) : 0 ≤ (C4p.dec r).2.2 := by
  unfold C4p.dec C4p.dfin
  repeat' split
  all_goals first
    | exact (by decide : (0 : Int) ≤ 4)
    | exact (by decide : (0 : Int) ≤ 6)
    | exact (by decide : (0 : Int) ≤ 1)
    | exact (by decide : (0 : Int) ≤ 0)
theorem take9 {x : List UInt8} (h : 9 ≤ x.length) : x.take 9 = [by_ x 0, by_ x 1, by_ x 2, by_ x 3, by_ x 4, by_ x 5, by_ x 6, by_ x 7, by_ x 8] := by
  match x, h with
  | a :: b :: c :: d :: e :: f :: g :: i :: j :: r, _ => rfl
theorem rdA_back {x : List UInt8} {s : Sn} (h0 : by_ x 0 = 1) (h : 8 + (by_ x 7).toNat ≤ x.length) (hd : ¬ (by_ x 6).toNat % 2 = 1) (hr : rdA (beg x) (x.drop (8 + (by_ x 7).toNat)) = (s, 0)) : pay s = x := by
  unfold rdA at hr
  split at hr
  · rename_i hz
    injection hr with _ h2
    exfalso
    have := dec_err (x.drop (8 + (by_ x 7).toNat))
    omega
  split at hr
  · rename_i hz
    injection hr with _ h2
    exact absurd h2 hz
  rename_i hz hz2
  have hl := size0 (Decidable.not_not.1 hz2)
  have hq : C4p.dec (x.drop (8 + (by_ x 7).toNat)) = ((C4p.dec (x.drop (8 + (by_ x 7).toNat))).1, (C4p.dec (x.drop (8 + (by_ x 7).toNat))).2.1, 0) := by
    have := Decidable.not_not.1 hz
    rw [← this]
  obtain ⟨k1, k2⟩ := enc_dec hq
  injection hr with h1 _
  have hb : head s ++ bl s.nm = x.take (8 + (by_ x 7).toNat) := beg_back s (by rw [← h1]; exact ⟨rfl, rfl, rfl, rfl, rfl, rfl, rfl, rfl, rfl⟩) h0 h
  have hdd : ¬ s.d = true := by rw [← h1]; show ¬ decide ((by_ x 6).toNat % 2 = 1) = true; rw [decide_eq_true_eq]; exact hd
  have hx := List.take_append_drop (8 + (by_ x 7).toNat) x
  unfold pay mid ext
  rw [if_neg hdd, hb]
  generalize x.drop (8 + (by_ x 7).toNat) = r at *
  generalize C4p.dec r = D at *
  obtain ⟨C, n, E⟩ := D
  dsimp only at *
  have hr := List.take_append_drop n.toNat r
  have e1 : C4p.enc s.c = r.take n.toNat := by rw [← h1]; exact k2
  rw [e1]
  generalize r.drop n.toNat = b at *
  have q1 : lit s.av 2 = (b.drop 9).take 2 := by rw [← h1]; exact lit_n2 b 9 (by omega)
  have q2 : lit s.dv 2 = (b.drop 11).take 2 := by rw [← h1]; exact lit_n2 b 11 (by omega)
  have q3 : [s.mx] ++ (s.raw ++ [s.hl, s.hu]) = b.take 9 := by rw [← h1, take9 (by omega)]; rfl
  rw [q1, q2, q3]
  match b, hl with
  | [b0, b1, b2, b3, b4, b5, b6, b7, b8, b9, b10, b11, b12], _ =>
    refine Eq.trans ?_ hx
    conv => rhs; rw [← hr]
    simp only [List.append_assoc]
    rfl
/-- What was decoded has the bytes that were read. -/
theorem enc_decS {l : List UInt8} {s : Sn} (h : decS l = (s, 0)) : encS s = l ∧ vs s = true := by
  unfold decS at h
  split at h
  · injection h with _ h; exact absurd h (by decide)
  rename_i h9
  split at h
  · injection h with _ h; exact absurd h (by decide)
  rename_i h0
  split at h
  · rename_i hz
    injection h with _ h; exact absurd h hz
  rename_i hz
  split at h
  · rename_i hv
    injection h with h1 _
    rw [h1] at hv
    refine ⟨?_, hv⟩
    have hu := unsealed (l := l) (by omega) (Decidable.not_not.1 h0)
    have hp : rdS (l.take (l.length - 1)) = (s, 0) := by
      rw [← h1, ← Decidable.not_not.1 hz]
    have hg : pay s = l.take (l.length - 1) := by
      generalize l.take (l.length - 1) = x at *
      unfold rdS at hp
      split at hp
      · injection hp with _ h; exact absurd h (by decide)
      rename_i ha
      split at hp
      · injection hp with _ h; exact absurd h (by decide)
      rename_i hb
      have h01 : by_ x 0 = 1 := Decidable.byContradiction fun h => ha (.inl h)
      split at hp
      · rename_i hd
        exact rdD_back h01 (by omega) hd hp
      · rename_i hd
        exact rdA_back h01 (by omega) hd hp
    unfold encS
    rw [hg, hu]
  · injection h with _ h; exact absurd h (by decide)
end Go.Proofs.Ytafoaonkjcfbaaa.Um
