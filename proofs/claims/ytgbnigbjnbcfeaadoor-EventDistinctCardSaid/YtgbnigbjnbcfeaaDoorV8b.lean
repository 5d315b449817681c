/- Mathematics: an event's text means the event, and a text that means an event is the event's. -/
import Derived.Test.YtgbnigbjnbcfeaaDoorV8a
namespace Go.Proofs.YtgbnigbjnbcfeaaDoor.V7
open Go.RowKit Go.Proofs.YtgbnigbjnbcfeaaDoor.Mem Go.Proofs.YtgbnigbjnbcfeaaDoor.F2p
set_option maxRecDepth 100000
set_option maxHeartbeats 1000000

theorem hxn_hx {v : Nat} (h : v < 16) : hxn (hx v) = v := by unfold hxn; rw [hxv_hx v h]; rfl
theorem hx_free : ∀ v, v < 16 → hx v ≠ 32 := by decide
theorem byteD_hex (a b c : Nat) (ha : a < 256) (hb : b < 256) (hc : c < 256) :
    byteD (hex2 a ++ (hex2 b ++ hex2 c)) 0 = a ∧ byteD (hex2 a ++ (hex2 b ++ hex2 c)) 1 = b ∧ byteD (hex2 a ++ (hex2 b ++ hex2 c)) 2 = c := by
  refine ⟨?_, ?_, ?_⟩
  · show 16 * hxn (hx (a / 16)) + hxn (hx (a % 16)) = a
    rw [hxn_hx (by omega), hxn_hx (by omega)]; omega
  · show 16 * hxn (hx (b / 16)) + hxn (hx (b % 16)) = b
    rw [hxn_hx (by omega), hxn_hx (by omega)]; omega
  · show 16 * hxn (hx (c / 16)) + hxn (hx (c % 16)) = c
    rw [hxn_hx (by omega), hxn_hx (by omega)]; omega
theorem dec_free (u : Nat) : ∀ x ∈ Lib.decDigits u, x ≠ 32 := fun x hx e => by
  have := List.all_eq_true.1 (dec_all u) x hx
  subst e
  exact absurd this (by decide)
theorem word_free (t : Nat) : ∀ x ∈ word t, x ≠ 32 := by
  unfold word
  split
  · decide
  · split <;> decide
theorem hex2_free (a : Nat) (h : a < 256) : ∀ x ∈ hex2 a, x ≠ 32 := fun x hx => by
  simp only [hex2, List.mem_cons, List.not_mem_nil, or_false] at hx
  rcases hx with rfl | rfl
  · exact hx_free _ (by omega)
  · exact hx_free _ (by omega)
theorem parts_free (e : Ev) (hf : e.Fit) : ∀ p ∈ partsE e, ∀ x ∈ p, x ≠ 32 := fun p hp => by
  simp only [partsE, List.mem_cons, List.not_mem_nil, or_false] at hp
  rcases hp with rfl | rfl | rfl | rfl | rfl | rfl | rfl | rfl | rfl
  · exact dec_free _
  · exact dec_free _
  · exact dec_free _
  · exact dec_free _
  · exact dec_free _
  · exact dec_free _
  · unfold sgn; split <;> decide
  · intro x hx
    simp only [List.mem_append] at hx
    rcases hx with h | h | h
    · exact hex2_free _ hf.d0 x h
    · exact hex2_free _ hf.d1 x h
    · exact hex2_free _ hf.d2 x h
  · exact word_free _
theorem spl_fmt (e : Ev) (hf : e.Fit) : spl (fmtE e) = partsE e := spl_join _ (by simp [partsE]) (parts_free e hf)
theorem isSgn_sgn (b : Bool) : isSgn (sgn b) = true ∧ decide (sgn b = [45]) = b := by cases b <;> decide
theorem isDat_hex (a b c : Nat) (ha : a < 256) (hb : b < 256) (hc : c < 256) : isDat (hex2 a ++ (hex2 b ++ hex2 c)) = true := by
  unfold isDat
  simp [hex2, hxv_hx _ (show a / 16 < 16 by omega), hxv_hx _ (show a % 16 < 16 by omega), hxv_hx _ (show b / 16 < 16 by omega), hxv_hx _ (show b % 16 < 16 by omega), hxv_hx _ (show c / 16 < 16 by omega), hxv_hx _ (show c % 16 < 16 by omega)]
theorem isWrd_word (t : Nat) : isWrd (word t) = true := by
  unfold word
  split
  · decide
  · split <;> decide
theorem evP_parts (e : Ev) (hf : e.Fit) : evP (partsE e) = e := by
  obtain ⟨id, time, gen, st, sn, ty, de, d0, d1, d2⟩ := e
  obtain ⟨f1, f2, f3, f4, f5, f6, f7, f8, f9⟩ := hf
  obtain ⟨b0, b1, b2⟩ := byteD_hex d0 d1 d2 f7 f8 f9
  show (⟨valD (Lib.decDigits id), valD (Lib.decDigits time), valD (Lib.decDigits gen), valD (Lib.decDigits st), valD (Lib.decDigits sn), valD (Lib.decDigits ty), decide (sgn de = [45]), byteD (hex2 d0 ++ (hex2 d1 ++ hex2 d2)) 0, byteD (hex2 d0 ++ (hex2 d1 ++ hex2 d2)) 1, byteD (hex2 d0 ++ (hex2 d1 ++ hex2 d2)) 2⟩ : Ev) = _
  rw [b0, b1, b2, (isSgn_sgn de).2, valD_dec, valD_dec, valD_dec, valD_dec, valD_dec, valD_dec]
theorem frm_parts (e : Ev) (hf : e.Fit) : frm (partsE e) = true := by
  obtain ⟨id, time, gen, st, sn, ty, de, d0, d1, d2⟩ := e
  obtain ⟨f1, f2, f3, f4, f5, f6, f7, f8, f9⟩ := hf
  dsimp only at f1 f2 f3 f4 f5 f6 f7 f8 f9
  unfold frm
  simp only [Bool.and_eq_true]
  refine ⟨⟨⟨⟨rfl, ?_⟩, (isSgn_sgn de).1⟩, isDat_hex d0 d1 d2 f7 f8 f9⟩, isWrd_word ty⟩
  show [Lib.decDigits id, Lib.decDigits time, Lib.decDigits gen, Lib.decDigits st, Lib.decDigits sn, Lib.decDigits ty].all isDec = true
  simp [isDec_dec id (by omega), isDec_dec time (by omega), isDec_dec gen (by omega), isDec_dec st (by omega), isDec_dec sn (by omega), isDec_dec ty (by omega)]
theorem fits_parts (e : Ev) (hf : e.Fit) : fits (partsE e) = true := by
  obtain ⟨id, time, gen, st, sn, ty, de, d0, d1, d2⟩ := e
  obtain ⟨f1, f2, f3, f4, f5, f6, f7, f8, f9⟩ := hf
  dsimp only at f1 f2 f3 f4 f5 f6 f7 f8 f9
  unfold fits
  have h : ∀ u, valD (Lib.decDigits u) = u := valD_dec
  rw [List.all_eq_true]
  intro i hi
  rw [List.mem_range] at hi
  rw [decide_eq_true_eq]
  match i, hi with
  | 0, _ => show valD (Lib.decDigits id) ≤ 65535; rw [h]; omega
  | 1, _ => show valD (Lib.decDigits time) ≤ 4294967295; rw [h]; omega
  | 2, _ => show valD (Lib.decDigits gen) ≤ 65535; rw [h]; omega
  | 3, _ => show valD (Lib.decDigits st) ≤ 255; rw [h]; omega
  | 4, _ => show valD (Lib.decDigits sn) ≤ 255; rw [h]; omega
  | 5, _ => show valD (Lib.decDigits ty) ≤ 255; rw [h]; omega
/-- The text of an event means the event. -/
theorem prs_fmt (e : Ev) (hf : e.Fit) (hv : vld e = true) : prs (fmtE e) = (e, 0) := by
  unfold prs prsP
  rw [spl_fmt e hf, frm_parts e hf, fits_parts e hf, evP_parts e hf, hv]
  rw [if_neg (by simp), if_neg (by simp), if_neg (by simp [partsE]), if_pos rfl]
theorem byteD_back {l : List UInt8} (h : isDat l = true) : hex2 (byteD l 0) ++ (hex2 (byteD l 1) ++ hex2 (byteD l 2)) = l := by
  unfold isDat at h
  rw [Bool.and_eq_true, decide_eq_true_eq] at h
  obtain ⟨hl, ha⟩ := h
  match l, hl with
  | [a, b, c, d, e, f], _ =>
    simp only [List.all_cons, List.all_nil, Bool.and_eq_true, and_true, Option.isSome_iff_exists] at ha
    obtain ⟨⟨x0, h0⟩, ⟨x1, h1⟩, ⟨x2, h2⟩, ⟨x3, h3⟩, ⟨x4, h4⟩, ⟨x5, h5⟩⟩ := ha
    have key : ∀ {x y : UInt8} {v w : Nat}, hxv x = some v → hxv y = some w → hex2 (16 * hxn x + hxn y) = [x, y] := by
      intro x y v w hv hw
      have l1 := hxv_lt hv
      have l2 := hxv_lt hw
      have e1 : hxn x = v := by unfold hxn; rw [hv]; rfl
      have e2 : hxn y = w := by unfold hxn; rw [hw]; rfl
      unfold hex2
      rw [e1, e2, show (16 * v + w) / 16 = v by omega, show (16 * v + w) % 16 = w by omega, hx_hxv hv, hx_hxv hw]
    show hex2 (16 * hxn a + hxn b) ++ (hex2 (16 * hxn c + hxn d) ++ hex2 (16 * hxn e + hxn f)) = _
    rw [key h0 h1, key h2 h3, key h4 h5]; rfl
theorem fit_evP {p : List (List UInt8)} (h : fits p = true) : (evP p).Fit := by
  unfold fits at h
  rw [List.all_eq_true] at h
  have g : ∀ i, i < 6 → nth p i ≤ mostL.getD i 0 := fun i hi => by simpa using h i (List.mem_range.2 hi)
  have g0 := g 0 (by omega); have g1 := g 1 (by omega); have g2 := g 2 (by omega); have g3 := g 3 (by omega); have g4 := g 4 (by omega); have g5 := g 5 (by omega)
  simp only [mostL, List.getD_cons_zero, List.getD_cons_succ] at g0 g1 g2 g3 g4 g5
  exact ⟨by show nth p 0 < 65536; omega, by show nth p 1 < 4294967296; omega, by show nth p 2 < 65536; omega, by show nth p 3 < 256; omega, by show nth p 4 < 256; omega, by show nth p 5 < 256; omega, byteD_lt _ _, byteD_lt _ _, byteD_lt _ _⟩
theorem parts_evP {p : List (List UInt8)} (h : frm p = true) (hw : p.getD 8 [] = word (evP p).ty) : partsE (evP p) = p := by
  unfold frm at h
  simp only [Bool.and_eq_true, decide_eq_true_eq] at h
  obtain ⟨⟨⟨⟨hl, hd⟩, hs⟩, ht⟩, hww⟩ := h
  match p, hl with
  | [p0, p1, p2, p3, p4, p5, p6, p7, p8], _ =>
    simp only [List.take, List.all_cons, List.all_nil, Bool.and_eq_true, and_true] at hd
    obtain ⟨d0, d1, d2, d3, d4, d5⟩ := hd
    replace hw : p8 = word (valD p5) := hw
    replace ht : isDat p7 = true := ht
    replace hs : isSgn p6 = true := hs
    show [Lib.decDigits (valD p0), Lib.decDigits (valD p1), Lib.decDigits (valD p2), Lib.decDigits (valD p3), Lib.decDigits (valD p4), Lib.decDigits (valD p5), sgn (decide (p6 = [45])), hex2 (byteD p7 0) ++ (hex2 (byteD p7 1) ++ hex2 (byteD p7 2)), word (valD p5)] = _
    rw [dec_of_isDec d0, dec_of_isDec d1, dec_of_isDec d2, dec_of_isDec d3, dec_of_isDec d4, dec_of_isDec d5, byteD_back ht, ← hw]
    unfold isSgn at hs
    simp only [Bool.or_eq_true, decide_eq_true_eq] at hs
    rcases hs with rfl | rfl <;> rfl
/-- A text that means an event is its text. -/
theorem fmt_prs {l : List UInt8} (h : (prs l).2 = 0) : (prs l).1.Fit ∧ vld (prs l).1 = true ∧ fmtE (prs l).1 = l := by
  unfold prs prsP at h ⊢
  by_cases h1 : frm (spl l) = false
  · rw [if_pos h1] at h; cases h
  rw [if_neg h1] at h ⊢
  by_cases h2 : fits (spl l) = false
  · rw [if_pos h2] at h; cases h
  rw [if_neg h2] at h ⊢
  by_cases h3 : (spl l).getD 8 [] ≠ word (evP (spl l)).ty
  · rw [if_pos h3] at h; cases h
  rw [if_neg h3] at h ⊢
  by_cases h4 : vld (evP (spl l)) = true
  · rw [if_pos h4] at h ⊢
    refine ⟨fit_evP (by simpa using h2), h4, ?_⟩
    show fmtE (evP (spl l)) = l
    unfold fmtE
    rw [parts_evP (by simpa using h1) (by simpa using h3), join_spl]
  · rw [if_neg h4] at h; cases h
theorem prs_fit (l : List UInt8) : (prs l).1.Fit := by
  unfold prs prsP
  split
  · exact ⟨by decide, by decide, by decide, by decide, by decide, by decide, by decide, by decide, by decide⟩
  · split
    · exact ⟨by decide, by decide, by decide, by decide, by decide, by decide, by decide, by decide, by decide⟩
    · rename_i h2
      split
      · exact ⟨by decide, by decide, by decide, by decide, by decide, by decide, by decide, by decide, by decide⟩
      · split
        · exact fit_evP (by simpa using h2)
        · exact ⟨by decide, by decide, by decide, by decide, by decide, by decide, by decide, by decide, by decide⟩
theorem fmt_inj {e f : Ev} (he : e.Fit) (hf : f.Fit) (ve : vld e = true) (vf : vld f = true) : (fmtE e = fmtE f) ↔ e = f := by
  constructor
  · intro h
    have h1 := prs_fmt e he ve
    rw [h, prs_fmt f hf vf] at h1
    injection h1 with h1 _
    exact h1.symm
  · rintro rfl; rfl
end Go.Proofs.YtgbnigbjnbcfeaaDoor.V7
