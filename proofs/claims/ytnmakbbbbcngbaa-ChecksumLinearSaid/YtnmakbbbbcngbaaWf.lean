/- The same contracts over one word for a slice that is read, so that they chain; and what opening sealed strings gives. -/
import Derived.Test.YtnmakbbbbcngbaaWe
namespace Go.Proofs.Ytnmakbbbbcngbaa.Wf
open Go.RowKit Go.Proofs.Ytnmakbbbbcngbaa.Mem Go.Proofs.Ytnmakbbbbcngbaa.Pl Go.Proofs.Ytnmakbbbbcngbaa.Wa Go.Proofs.Ytnmakbbbbcngbaa.Wb Go.Proofs.Ytnmakbbbbcngbaa.Wc Go.Proofs.Ytnmakbbbbcngbaa.Wd Go.Proofs.Ytnmakbbbbcngbaa.We
set_option maxRecDepth 100000

/-- In world w the slice value '.slice A n c' reads as the bytes l. -/
structure Sl (w : World) (A : Option Addr) (n c : Nat) (l : List UInt8) : Prop where
  len : n = l.length
  row : Row w.heap.size w A l
  cap : n ≤ c
  max : c ≤ maxLen
  nil : A = none → c = 0
section
variable {w w' : World} {A : Option Addr} {n c : Nat} {l : List UInt8}
theorem Sl.step (h : Sl w A n c l) (hb : Below w.heap.size w w') : Sl w' A n c l := ⟨h.len, (h.row.below hb).more hb.size, h.cap, h.max, h.nil⟩
theorem Sl.of_own {base : Nat} {v : Value} (h : Own base w v l) : ∃ A n c, v = .slice A n c ∧ Sl w A n c l := by
  obtain ⟨A, c, h1, h2, h3, h4, h5⟩ := h.form
  exact ⟨A, l.length, c, h1, rfl, h4, h2, h3, h5⟩
theorem lite (h : Sl w A n c l) : n ≤ maxLen := Nat.le_trans h.cap h.max
end
variable {A A' : Option Addr} {n n' c c' : Nat} {l l' : List UInt8} {w : World}
theorem light_s (h : Sl w A n c l) : Calls Try.prog 13 #[.slice A n c] w fun e w' => e = .returned (.bool (decide (n ≤ 2000))) ∧ w = w' := light_any A n c w (lite h)
theorem sum8_s (h : Sl w A n c l) : Calls Try.prog 15 #[.slice A n c] w fun e w' => e = .returned (.int .u8 (sum8 l)) ∧ w = w' := sum8_at A n c l _ w h.len h.row (lite h)
theorem crc8_s (h : Sl w A n c l) : Calls Try.prog 17 #[.slice A n c] w fun e w' => e = .returned (.int .u8 (crc8 l)) ∧ w = w' := crc8_at A n c l _ w h.len h.row (lite h)
theorem crc32_s (h : Sl w A n c l) : Calls Try.prog 19 #[.slice A n c] w fun e w' => e = .returned (.int .u32 (crc32 l)) ∧ w = w' := crc32_at A n c l _ w h.len h.row (lite h)

/-- What a call that makes a new slice of bytes leaves. -/
def Made (w : World) (l : List UInt8) (e : Ending) (w' : World) : Prop := ∃ A n c, e = .returned (.slice A n c) ∧ Own w.heap.size w' (.slice A n c) l ∧ Sl w' A n c l ∧ Below w.heap.size w w'
/-- What a call that makes a new slice of bytes and an error code leaves. -/
def Opened (w : World) (o : Nat × List UInt8) (e : Ending) (w' : World) : Prop := ∃ A n c, e = .returned (.tuple #[.slice A n c, .int .i64 (o.1 : Int)]) ∧ Sl w' A n c o.2 ∧ Below w.heap.size w w'
theorem Made.of {e : Ending} {w' : World} (h : ∃ v, e = .returned v ∧ Own w.heap.size w' v l ∧ Below w.heap.size w w') : Made w l e w' := by
  obtain ⟨v, rfl, ho, hb⟩ := h
  obtain ⟨A, n, c, rfl, hs⟩ := Sl.of_own ho
  exact ⟨A, n, c, rfl, ho, hs, hb⟩
theorem Opened.of {o : Nat × List UInt8} {e : Ending} {w' : World} (h : ∃ v, e = .returned (.tuple #[v, .int .i64 (o.1 : Int)]) ∧ Own w.heap.size w' v o.2 ∧ Below w.heap.size w w') : Opened w o e w' := by
  obtain ⟨v, rfl, ho, hb⟩ := h
  obtain ⟨A, n, c, rfl, hs⟩ := Sl.of_own ho
  exact ⟨A, n, c, rfl, hs, hb⟩
theorem seal8_s (h : Sl w A n c l) (hb : n ≤ 100000) : Calls Try.prog 28 #[.slice A n c] w (Made w (l ++ [UInt8.ofNat (sum8 l)])) := (seal8_any A n c l w h.len h.row h.nil hb).mono fun _ _ h => Made.of h
theorem sealcrc8_s (h : Sl w A n c l) (hb : n ≤ 100000) : Calls Try.prog 30 #[.slice A n c] w (Made w (l ++ [UInt8.ofNat (crc8 l)])) := (sealcrc8_any A n c l w h.len h.row h.nil hb).mono fun _ _ h => Made.of h
theorem sealcrc32_s (h : Sl w A n c l) (hb : n ≤ 100000) : Calls Try.prog 32 #[.slice A n c] w (Made w (l ++ lit (crc32 l) 4)) := (sealcrc32_any A n c l w h.len h.row h.nil hb).mono fun _ _ h => Made.of h
theorem rseal8_s (h : Sl w A n c l) (hb : n ≤ 100000) : Calls Try.prog 29 #[.slice A n c] w (Made w (l ++ [UInt8.ofNat (sum8 l)])) := (rseal8_any A n c l w h.len h.row hb).mono fun _ _ h => Made.of h
theorem rsealcrc8_s (h : Sl w A n c l) (hb : n ≤ 100000) : Calls Try.prog 31 #[.slice A n c] w (Made w (l ++ [UInt8.ofNat (crc8 l)])) := (rsealcrc8_any A n c l w h.len h.row hb).mono fun _ _ h => Made.of h
theorem rsealcrc32_s (h : Sl w A n c l) (hb : n ≤ 100000) : Calls Try.prog 33 #[.slice A n c] w (Made w (l ++ lit (crc32 l) 4)) := (rsealcrc32_any A n c l w h.len h.row hb).mono fun _ _ h => Made.of h
theorem open8_s (h : Sl w A n c l) (hb : n ≤ 100000) : Calls Try.prog 21 #[.slice A n c] w (Opened w (open8 l)) := (open8_any A n c l w h.len h.row h.cap hb).mono fun _ _ h => Opened.of h
theorem opencrc8_s (h : Sl w A n c l) (hb : n ≤ 100000) : Calls Try.prog 23 #[.slice A n c] w (Opened w (opencrc8 l)) := (opencrc8_any A n c l w h.len h.row h.cap hb).mono fun _ _ h => Opened.of h
theorem opencrc32_s (h : Sl w A n c l) (hb : n ≤ 100000) : Calls Try.prog 25 #[.slice A n c] w (Opened w (opencrc32 l)) := (opencrc32_any A n c l w h.len h.row h.cap hb).mono fun _ _ h => Opened.of h
theorem ropen8_s (h : Sl w A n c l) (hb : n ≤ 100000) : Calls Try.prog 22 #[.slice A n c] w (Opened w (open8 l)) := (ropen8_any A n c l w h.len h.row h.cap hb).mono fun _ _ h => Opened.of h
theorem ropencrc8_s (h : Sl w A n c l) (hb : n ≤ 100000) : Calls Try.prog 24 #[.slice A n c] w (Opened w (opencrc8 l)) := (ropencrc8_any A n c l w h.len h.row h.cap hb).mono fun _ _ h => Opened.of h
theorem ropencrc32_s (h : Sl w A n c l) (hb : n ≤ 100000) : Calls Try.prog 26 #[.slice A n c] w (Opened w (opencrc32 l)) := (ropencrc32_any A n c l w h.len h.row h.cap hb).mono fun _ _ h => Opened.of h
theorem same_s (h : Sl w A n c l) (h' : Sl w A' n' c' l') : Calls Try.prog 27 #[.slice A n c, .slice A' n' c'] w fun e w' => e = .returned (.bool (decide (l = l'))) ∧ Below w.heap.size w w' :=
  (same_any A A' n n' c c' l l' _ w h.len h'.len h.row h'.row (lite h) (lite h')).mono fun _ _ ⟨h1, _, h2⟩ => ⟨h1, h2 ▸ below_of_drawn⟩
theorem same_yes (h : Sl w A n c l) (h' : Sl w A' n' c' l) : Calls Try.prog 27 #[.slice A n c, .slice A' n' c'] w fun e w' => e = .returned (.bool true) ∧ Below w.heap.size w w' :=
  (same_s h h').mono fun _ _ ⟨h1, h2⟩ => ⟨h1.trans (by simp), h2⟩

/-! Opening what was sealed. -/
theorem total_app (a b : List UInt8) : total (a ++ b) = (total a + total b) % 256 := by
  have h : ∀ (b : List UInt8) (s : Nat), b.foldl (fun s x => (s + x.toNat) % 256) (s % 256) = (s + total b) % 256 := by
    intro b
    induction b with
    | nil => intro s; simp [total]
    | cons x b ih =>
      intro s
      have e1 := ih (s % 256 + x.toNat)
      have e2 := ih (0 + x.toNat)
      have e3 : total (x :: b) = ((0 + x.toNat) + total b) % 256 := e2
      rw [List.foldl_cons, e1, e3]; omega
  have h1 := h b (total a)
  rw [Nat.mod_eq_of_lt (total_lt a)] at h1
  rw [total, List.foldl_append]
  exact h1
theorem total_one (x : UInt8) : total [x] = x.toNat := by
  have := x.toNat_lt
  simp only [total, List.foldl_cons, List.foldl_nil]; omega
theorem sum8_sealed (l : List UInt8) : sum8 (l ++ [UInt8.ofNat (sum8 l)]) = 0 := by
  have h := total_lt l
  rw [sum8, total_app, total_one, UInt8.toNat_ofNat']
  unfold sum8; omega
theorem open8_sealed (l : List UInt8) : open8 (l ++ [UInt8.ofNat (sum8 l)]) = (0, l) := by
  unfold open8
  rw [if_neg (by simp), if_neg (by simp [sum8_sealed])]
  simp
theorem opencrc8_sealed (l : List UInt8) : opencrc8 (l ++ [UInt8.ofNat (crc8 l)]) = (0, l) := by
  unfold opencrc8
  rw [if_neg (by simp), if_neg (by simp [List.getD])]
  simp
theorem num_lit (v n : Nat) (h : v < 256 ^ n) : num (lit v n) = v := by
  induction n generalizing v with
  | zero => simp [lit, num] at h ⊢; omega
  | succ n ih =>
    rw [lit, num, ih _ (by rw [Nat.pow_succ] at h; omega), UInt8.toNat_ofNat']
    omega
theorem opencrc32_sealed (l : List UInt8) : opencrc32 (l ++ lit (crc32 l) 4) = (0, l) := by
  have e : (l ++ lit (crc32 l) 4).length - 4 = l.length := by rw [List.length_append, lit_len]; omega
  have hlt : crc32 l < 256 ^ 4 := by unfold crc32; omega
  unfold opencrc32
  rw [e, if_neg (by rw [List.length_append, lit_len]; omega)]
  simp only [List.take_left, List.drop_left, num_lit _ _ hlt, ne_eq, not_true_eq_false, if_false]
end Go.Proofs.Ytnmakbbbbcngbaa.Wf
