/- Plain mathematics of sensor records: their bytes are read back. Plain mathematics of sensor records: a changed byte, a missing end. -/
import Derived.Test.YtafoaonkjcfbaaaK09
namespace Go.Proofs.Ytafoaonkjcfbaaa.Um
open Go.Proofs.Ytafoaonkjcfbaaa.F2p Go.Proofs.Ytafoaonkjcfbaaa.Ta
set_option maxRecDepth 100000

theorem total_app (a b : List UInt8) : Pl.total (a ++ b) = (Pl.total a + Pl.total b) % 256 := by
  have gen : ∀ (l : List UInt8) (c : Nat), l.foldl (fun s x => (s + x.toNat) % 256) c % 256 = (c + Pl.total l) % 256 := by
    intro l
    induction l with
    | nil => intro c; simp [Pl.total]
    | cons x l ih =>
      intro c
      have h1 := ih ((c + x.toNat) % 256)
      have h2 := ih ((0 + x.toNat) % 256)
      have h3 : Pl.total (x :: l) = l.foldl (fun s x => (s + x.toNat) % 256) ((0 + x.toNat) % 256) := rfl
      have h4 := Pl.total_lt (x :: l)
      rw [List.foldl_cons]
      rw [h3] at h4
      rw [h3]
      omega
  have h := gen b (Pl.total a)
  have e : Pl.total (a ++ b) = b.foldl (fun s x => (s + x.toNat) % 256) (Pl.total a) := by
    unfold Pl.total
    rw [List.foldl_append]
  have hl := Pl.total_lt (a ++ b)
  rw [e] at hl ⊢
  omega
theorem sum8_sealed (l : List UInt8) : Pl.sum8 (sealB l) = 0 := by
  unfold sealB Pl.sum8
  rw [total_app]
  have h1 : Pl.total [UInt8.ofNat ((256 - Pl.total l) % 256)] = (256 - Pl.total l) % 256 := by
    show (0 + (UInt8.ofNat ((256 - Pl.total l) % 256)).toNat) % 256 = _
    rw [UInt8.toNat_ofNat']
    omega
  have h2 := Pl.total_lt l
  rw [h1]
  omega
theorem seal_len (l : List UInt8) : (sealB l).length = l.length + 1 := by unfold sealB; simp
theorem seal_take (l : List UInt8) : (sealB l).take ((sealB l).length - 1) = l := by
  rw [seal_len]
  unfold sealB
  simp
theorem ba_eq (s : ByteArray) : (⟨(bl s).toArray⟩ : ByteArray) = s := by
  unfold bl
  cases s
  simp
theorem n2_lit (v : Nat) (h : v < 65536) (rest : List UInt8) : n2 (lit v 2 ++ rest) 0 = v := by
  unfold n2
  rw [List.drop_zero, C4p.take_pre (lit_len v 2), F2p.num_lit v 2 (by omega)]
theorem n2_skip (l rest : List UInt8) (i k : Nat) (h : l.length = k) : n2 (l ++ rest) (k + i) = n2 rest i := by
  unfold n2
  rw [← List.drop_drop, C4p.drop_pre h]
theorem wid_of {s : Sn} (hv : vs s = true) : s.sm = 1 ∨ s.sm = 3 ∨ s.sm = 5 := by
  unfold vs wid at hv
  simp only [Bool.and_eq_true, decide_eq_true_eq] at hv
  exact hv.2.1
theorem nm_of {s : Sn} (hv : vs s = true) : 1 ≤ s.nm.size ∧ s.nm.size ≤ 16 := by
  unfold vs okn at hv
  simp only [Bool.and_eq_true, decide_eq_true_eq, bl_len] at hv
  exact hv.1.1
theorem flg_nat {s : Sn} (hv : vs s = true) : (UInt8.ofNat (flg s.d s.on s.sm)).toNat = flg s.d s.on s.sm ∧ flg s.d s.on s.sm < 32 ∧ (decide (flg s.d s.on s.sm % 2 = 1) = s.d) ∧ (decide (flg s.d s.on s.sm / 2 % 2 = 1) = s.on) ∧ (((flg s.d s.on s.sm / 4 : Nat) : Int) = s.sm) := by
  have h := wid_of hv
  rw [UInt8.toNat_ofNat']
  unfold flg
  rcases h with h | h | h <;> rw [h] <;> cases s.d <;> cases s.on <;> decide
/-- What stands behind the name. -/
def back (s : Sn) : List UInt8 := mid s ++ (lit s.av 2 ++ lit s.dv 2)
theorem pay_eq (s : Sn) : pay s = head s ++ (bl s.nm ++ back s) := by
  unfold pay back
  simp only [List.append_assoc]
theorem by_7 {s : Sn} (hv : vs s = true) : (by_ (pay s) 7).toNat = s.nm.size := by
  show (UInt8.ofNat s.nm.size).toNat = _
  rw [UInt8.toNat_ofNat']
  have := nm_of hv
  omega
theorem pay_len (s : Sn) : (pay s).length = 8 + s.nm.size + (back s).length := by
  rw [pay_eq, List.length_append, List.length_append, bl_len]
  show 8 + _ = _
  omega
theorem pay_drop {s : Sn} (hv : vs s = true) : (pay s).drop (8 + (by_ (pay s) 7).toNat) = back s := by
  rw [by_7 hv, pay_eq, ← List.drop_drop, C4p.drop_pre (a := head s) (by rfl), C4p.drop_pre (bl_len s.nm)]
theorem beg_pay {s : Sn} (hv : vs s = true) : beg (pay s) = { noSn with nu := s.nu, ty := s.ty, un := s.un, nm := s.nm, ei := s.ei, en := s.en, d := s.d, on := s.on, sm := s.sm } := by
  obtain ⟨h1, h2, h3, h4, h5⟩ := flg_nat hv
  have e6 : (by_ (pay s) 6).toNat = flg s.d s.on s.sm := h1
  have enm : (⟨(((pay s).drop 8).take (by_ (pay s) 7).toNat).toArray⟩ : ByteArray) = s.nm := by
    rw [by_7 hv, pay_eq, C4p.drop_pre (a := head s) (by rfl), C4p.take_pre (bl_len s.nm), ba_eq]
  unfold beg
  rw [e6, h3, h4, h5, enm]
  rfl
theorem dec_encS {s : Sn} (hv : vs s = true) (hf : s.Fit) : decS (encS s) = (s, 0) := by
  obtain ⟨h1, h2, h3, h4, h5⟩ := flg_nat hv
  have e6 : (by_ (pay s) 6).toNat = flg s.d s.on s.sm := h1
  have hb := beg_pay hv
  have hd := pay_drop hv
  have hl := pay_len s
  have hR : rdS (pay s) = (s, 0) := by
    unfold rdS
    rw [if_neg (by rw [e6]; intro h; rcases h with h | h; exact h rfl; omega), if_neg (by rw [by_7 hv, hl]; omega), hd, hb]
    have hd2 : (by_ (pay s) 6).toNat % 2 = 1 ↔ s.d = true := by
      rw [e6]
      constructor
      · intro h; rw [← h3]; exact decide_eq_true h
      · intro h; rw [h] at h3; rw [h]; exact of_decide_eq_true h3
    by_cases hdd : s.d = true
    · rw [if_pos (hd2.2 hdd)]
      have hbk : back s = lit s.st 2 ++ (lit s.av 2 ++ lit s.dv 2) := by unfold back mid; rw [if_pos hdd]
      have hlen : (back s).length = 6 := by rw [hbk]; simp [lit_len]
      have hv2 := hv
      unfold vs dsc nocv nolim at hv2
      rw [if_pos hdd] at hv2
      simp only [Bool.and_eq_true, decide_eq_true_eq] at hv2
      obtain ⟨-, -, ⟨c1, c2, c3, c4, c5, c6, c7⟩, ⟨q0, q1, q2, q3, q4, q5, q6⟩, q7, q8, -, -⟩ := hv2
      have hsz : size (back s) 6 = 0 := by unfold size; rw [hlen]; rfl
      unfold rdD
      rw [if_neg (by omega)]
      have n0 : n2 (back s) 0 = s.st := by rw [hbk]; exact n2_lit _ hf.st _
      have n2' : n2 (back s) 2 = s.av := by rw [hbk, show (2 : Nat) = 2 + 0 from rfl, n2_skip _ _ 0 2 (lit_len _ _)]; exact n2_lit _ hf.av _
      have n4 : n2 (back s) 4 = s.dv := by
        rw [hbk, show (4 : Nat) = 2 + (2 + 0) from rfl, n2_skip _ _ (2 + 0) 2 (lit_len _ _), n2_skip _ _ 0 2 (lit_len _ _)]
        have := n2_lit s.dv hf.dv []
        rwa [List.append_nil] at this
      rw [n0, n2', n4]
      obtain ⟨nu, ty, un, nm, ei, en, d, ⟨f, sg, m, b, k1, k2, p⟩, mx, r0, r1, r2, r3, r4, r5, hl', hu, st, av, dv, on, sm⟩ := s
      dsimp only at *
      rw [Bool.not_eq_true'] at c2
      have c7' : p = [] := List.length_eq_zero_iff.1 c7
      subst c1 c2 c3 c4 c5 c6 c7' q0 q1 q2 q3 q4 q5 q6 q7 q8
      rfl
    · rw [if_neg (fun h => hdd (hd2.1 h))]
      have hv2 := hv
      unfold vs ana at hv2
      rw [if_neg hdd] at hv2
      simp only [Bool.and_eq_true, decide_eq_true_eq] at hv2
      obtain ⟨-, -, hvc, -, hst, -, -⟩ := hv2
      have hbk : back s = C4p.enc s.c ++ (s.mx :: s.r0 :: s.r1 :: s.r2 :: s.r3 :: s.r4 :: s.r5 :: s.hl :: s.hu :: (lit s.av 2 ++ lit s.dv 2)) := by
        unfold back mid ext Sn.raw
        rw [if_neg hdd]
        simp
      have hdc := C4p.dec_enc hvc (s.mx :: s.r0 :: s.r1 :: s.r2 :: s.r3 :: s.r4 :: s.r5 :: s.hl :: s.hu :: (lit s.av 2 ++ lit s.dv 2))
      rw [← hbk] at hdc
      unfold rdA
      rw [hdc]
      dsimp only
      rw [if_neg (by simp), Int.toNat_natCast]
      have hdr : (back s).drop (C4p.enc s.c).length = s.mx :: s.r0 :: s.r1 :: s.r2 :: s.r3 :: s.r4 :: s.r5 :: s.hl :: s.hu :: (lit s.av 2 ++ lit s.dv 2) := by rw [hbk]; exact C4p.drop_pre rfl
      rw [hdr]
      have hsz : size (s.mx :: s.r0 :: s.r1 :: s.r2 :: s.r3 :: s.r4 :: s.r5 :: s.hl :: s.hu :: (lit s.av 2 ++ lit s.dv 2)) 13 = 0 := by
        unfold size
        simp [lit_len]
      rw [if_neg (by omega)]
      have na : n2 (s.mx :: s.r0 :: s.r1 :: s.r2 :: s.r3 :: s.r4 :: s.r5 :: s.hl :: s.hu :: (lit s.av 2 ++ lit s.dv 2)) 9 = s.av := n2_lit _ hf.av _
      have nd : n2 (s.mx :: s.r0 :: s.r1 :: s.r2 :: s.r3 :: s.r4 :: s.r5 :: s.hl :: s.hu :: (lit s.av 2 ++ lit s.dv 2)) 11 = s.dv := by
        have := n2_lit s.dv hf.dv []
        rw [List.append_nil] at this
        exact this
      unfold fin
      rw [na, nd]
      obtain ⟨nu, ty, un, nm, ei, en, d, c, mx, r0, r1, r2, r3, r4, r5, hl', hu, st, av, dv, on, sm⟩ := s
      dsimp only at *
      subst hst
      rfl
  unfold decS
  have hsl := seal_len (pay s)
  have hn := nm_of hv
  rw [show encS s = sealB (pay s) from rfl, if_neg (by rw [hsl, hl]; omega), if_neg (by rw [sum8_sealed]; simp), seal_take, hR]
  dsimp only
  rw [if_neg (by simp), hv]
  rfl
end Go.Proofs.Ytafoaonkjcfbaaa.Um
namespace Go.Proofs.Ytafoaonkjcfbaaa.Um
open Go.Proofs.Ytafoaonkjcfbaaa.F2p Go.Proofs.Ytafoaonkjcfbaaa.Ta
set_option maxRecDepth 100000

theorem total_one (x : UInt8) : Pl.total [x] = x.toNat := by
  have := x.toNat_lt
  show (0 + x.toNat) % 256 = _
  omega
theorem set_split (l : List UInt8) (i : Nat) (h : i < l.length) (y : UInt8) : l.set i y = l.take i ++ ([y] ++ l.drop (i + 1)) := by
  rw [List.set_eq_take_append_cons_drop, if_pos h]
  rfl
theorem sum_set {l : List UInt8} {i : Nat} (h : i < l.length) (y : UInt8) (h0 : Pl.sum8 l = 0) (hne : y ≠ l[i]) : Pl.sum8 (l.set i y) ≠ 0 := by
  have e : l = l.take i ++ ([l[i]] ++ l.drop (i + 1)) := by
    have := List.take_append_drop i l
    rw [List.drop_eq_getElem_cons h] at this
    exact this.symm
  have hn : y.toNat ≠ (l[i]).toNat := fun g => hne (UInt8.toNat_inj.1 g)
  have t1 : Pl.total l = (Pl.total (l.take i) + ((l[i]).toNat + Pl.total (l.drop (i + 1))) % 256) % 256 := by
    conv => lhs; rw [e]
    rw [total_app, total_app, total_one]
  have t2 : Pl.total (l.set i y) = (Pl.total (l.take i) + (y.toNat + Pl.total (l.drop (i + 1))) % 256) % 256 := by
    rw [set_split l i h, total_app, total_app, total_one]
  have b1 := Pl.total_lt l
  have b2 := Pl.total_lt (l.set i y)
  have b3 := y.toNat_lt
  have b4 := (l[i]).toNat_lt
  unfold Pl.sum8 at h0 ⊢
  omega
theorem enc_len {s : Sn} (hv : vs s = true) : 10 ≤ (encS s).length ∧ (encS s).length ≤ 160 := by
  have hn := nm_of hv
  have hb : 6 ≤ (back s).length ∧ (back s).length ≤ 110 := by
    unfold back mid
    by_cases hd : s.d = true
    · rw [if_pos hd]; simp [lit_len]
    · rw [if_neg hd]
      have hv2 := hv
      unfold vs ana at hv2
      rw [if_neg hd] at hv2
      simp only [Bool.and_eq_true, decide_eq_true_eq] at hv2
      have hvc := hv2.2.2.1
      have : (C4p.enc s.c).length ≤ 86 := by
        rw [C4p.enc_len]
        split
        · rename_i h5
          have := (C4p.vld_tab hvc h5).2.1.2
          omega
        · omega
      unfold ext Sn.raw
      simp [lit_len]
      omega
  rw [show encS s = sealB (pay s) from rfl, seal_len, pay_len]
  omega
theorem dec_changed {s : Sn} (hv : vs s = true) {i : Nat} (h : i < (encS s).length) (y : UInt8) (hne : y ≠ (encS s)[i]) : decS ((encS s).set i y) = (noSn, 5) := by
  have hl := enc_len hv
  have h0 : Pl.sum8 (encS s) = 0 := sum8_sealed _
  unfold decS
  rw [List.length_set, if_neg (by omega), if_pos (sum_set h y h0 hne)]
theorem dec_cut (l : List UInt8) (k : Nat) (h : k < 9) : decS (l.take k) = (noSn, 4) := by
  unfold decS
  rw [if_pos (by rw [List.length_take]; omega)]
end Go.Proofs.Ytafoaonkjcfbaaa.Um
