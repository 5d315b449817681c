/- Mathematics: texts of events: pieces between spaces, decimal numbers, digits of bytes; what a text means. -/
import Derived.Test.YtgbnigbjnbcfeaaDoorV7d
import Derived.Lib.IndexMore
import Derived.Lib.Split
namespace Go.Proofs.YtgbnigbjnbcfeaaDoor.V7
open Go.RowKit Go.Proofs.YtgbnigbjnbcfeaaDoor.Mem Go.Proofs.YtgbnigbjnbcfeaaDoor.F2p
set_option maxRecDepth 100000
set_option maxHeartbeats 1000000

/-- The pieces of a text between single spaces. -/
def spl : List UInt8 → List (List UInt8)
  | [] => [[]]
  | x :: r => if x = 32 then [] :: spl r else (x :: (spl r).headD []) :: (spl r).tail
theorem spl_ne (l : List UInt8) : spl l ≠ [] := by
  cases l with
  | nil => simp [spl]
  | cons x r => unfold spl; split <;> simp
theorem spl_none : ∀ {a : List UInt8}, (∀ x ∈ a, x ≠ 32) → spl a = [a]
  | [], _ => rfl
  | x :: r, h => by
    unfold spl
    rw [if_neg (h x (by simp)), spl_none (a := r) fun y hy => h y (by simp [hy])]
    rfl
theorem spl_hit : ∀ {a : List UInt8} (b : List UInt8), (∀ x ∈ a, x ≠ 32) → spl (a ++ 32 :: b) = a :: spl b
  | [], b, _ => by
    rw [List.nil_append, spl, if_pos rfl]
  | x :: r, b, h => by
    rw [List.cons_append, spl, if_neg (h x (by simp)), spl_hit (a := r) b fun y hy => h y (by simp [hy])]
    rfl
theorem join_one_more (x y : List UInt8) (r : List (List UInt8)) : Lib.join (x :: y :: r) [32] = x ++ 32 :: Lib.join (y :: r) [32] := by
  rw [Lib.join_cons, Lib.join_cons]
  simp [Lib.joinTail]
theorem spl_join : ∀ (ps : List (List UInt8)), ps ≠ [] → (∀ p ∈ ps, ∀ x ∈ p, x ≠ 32) → spl (Lib.join ps [32]) = ps
  | [], h, _ => absurd rfl h
  | [p], _, h => by rw [Lib.join_one, spl_none (h p (by simp))]
  | p :: q :: r, _, h => by rw [join_one_more, spl_hit _ (h p (by simp)), spl_join (q :: r) (by simp) fun x hx => h x (by simp [List.mem_cons.1 hx])]
theorem join_head (x : UInt8) (p : List UInt8) (r : List (List UInt8)) : Lib.join ((x :: p) :: r) [32] = x :: Lib.join (p :: r) [32] := by
  rw [Lib.join_cons, Lib.join_cons]; rfl
theorem join_spl : ∀ (l : List UInt8), Lib.join (spl l) [32] = l
  | [] => rfl
  | x :: r => by
    have ih := join_spl r
    unfold spl
    obtain ⟨p, q, hp⟩ : ∃ p q, spl r = p :: q := by
      cases h : spl r with
      | nil => exact absurd h (spl_ne r)
      | cons p q => exact ⟨p, q, rfl⟩
    rw [hp] at ih ⊢
    by_cases hx : x = 32
    · subst hx
      rw [if_pos rfl, join_one_more, ih]; rfl
    · rw [if_neg hx]
      show Lib.join ((x :: p) :: q) [32] = _
      rw [join_head, ih]
theorem spl_free : ∀ (l : List UInt8), ∀ p ∈ spl l, ∀ x ∈ p, x ≠ 32
  | [], p, hp, x, hx => by simp [spl] at hp; subst hp; cases hx
  | y :: r, p, hp, x, hx => by
    have ih := spl_free r
    unfold spl at hp
    obtain ⟨a, q, ha⟩ : ∃ a q, spl r = a :: q := by
      cases h : spl r with
      | nil => exact absurd h (spl_ne r)
      | cons a q => exact ⟨a, q, rfl⟩
    rw [ha] at hp ih
    by_cases hy : y = 32
    · rw [if_pos hy] at hp
      rcases List.mem_cons.1 hp with rfl | hp
      · cases hx
      · exact ih p hp x hx
    · rw [if_neg hy] at hp
      rcases List.mem_cons.1 hp with rfl | hp
      · rcases List.mem_cons.1 hx with rfl | hx
        · exact hy
        · exact ih a (by simp) x hx
      · exact ih p (by simp; exact .inr hp) x hx

/-- A decimal number of at most ten digits. -/
def isDec (l : List UInt8) : Bool := decide (1 ≤ l.length) && decide (l.length ≤ 10) && (decide (l.length = 1) || decide (l.head? ≠ some 48)) && l.all fun x => decide (48 ≤ x.toNat ∧ x.toNat ≤ 57)
def valD (l : List UInt8) : Nat := l.foldl (fun v x => 10 * v + (x.toNat - 48)) 0
theorem valD_snoc (l : List UInt8) (x : UInt8) : valD (l ++ [x]) = 10 * valD l + (x.toNat - 48) := by unfold valD; rw [List.foldl_append]; rfl
theorem valD_take (l : List UInt8) (k : Nat) (h : k < l.length) : valD (l.take (k + 1)) = 10 * valD (l.take k) + (l[k].toNat - 48) := by
  rw [List.take_succ_eq_append_getElem h, valD_snoc]
theorem snoc_ind {P : List UInt8 → Prop} (h0 : P []) (h1 : ∀ l x, P l → P (l ++ [x])) (l : List UInt8) : P l := by
  have key : ∀ n (l : List UInt8), l.length = n → P l := by
    intro n
    induction n with
    | zero => intro l h; obtain rfl := List.eq_nil_of_length_eq_zero h; exact h0
    | succ n ih =>
      intro l h
      rcases List.eq_nil_or_concat l with rfl | ⟨m, x, rfl⟩
      · simp at h
      · rw [List.concat_eq_append] at h ⊢
        exact h1 m x (ih m (by simpa using h))
  exact key _ l rfl
theorem valD_lt (l : List UInt8) (h : ∀ x ∈ l, x.toNat ≤ 57) : valD l < 10 ^ l.length := by
  revert h
  refine snoc_ind (P := fun l => (∀ x ∈ l, x.toNat ≤ 57) → valD l < 10 ^ l.length) (fun _ => by simp [valD]) (fun l x ih h => ?_) l
  have h1 := ih fun y hy => h y (by simp [hy])
  have h2 := h x (by simp)
  rw [valD_snoc, List.length_append, List.length_singleton, Nat.pow_succ]
  omega
theorem dg_nat {u : Nat} (h : u < 10) : (UInt8.ofNat (48 + u)).toNat = 48 + u := by rw [UInt8.toNat_ofNat']; omega
theorem valD_dec (u : Nat) : valD (Lib.decDigits u) = u := by
  induction u using Nat.strongRecOn with
  | _ u ih =>
    rw [Lib.decDigits]
    split
    · rename_i h
      show 10 * 0 + ((UInt8.ofNat (48 + u)).toNat - 48) = u
      rw [dg_nat h]; omega
    · rename_i h
      rw [valD_snoc, ih (u / 10) (by omega), dg_nat (by omega)]; omega
theorem dec_all (u : Nat) : (Lib.decDigits u).all (fun x => decide (48 ≤ x.toNat ∧ x.toNat ≤ 57)) = true := by
  induction u using Nat.strongRecOn with
  | _ u ih =>
    rw [Lib.decDigits]
    split
    · rename_i h
      simp only [List.all_cons, List.all_nil, Bool.and_true, decide_eq_true_eq, dg_nat h]; omega
    · rename_i h
      rw [List.all_append, ih (u / 10) (by omega)]
      simp only [List.all_cons, List.all_nil, Bool.and_true, Bool.true_and, decide_eq_true_eq, dg_nat (show u % 10 < 10 by omega)]; omega
theorem dec_head (u : Nat) (h : 1 ≤ u) : (Lib.decDigits u).head? ≠ some 48 := by
  induction u using Nat.strongRecOn with
  | _ u ih =>
    rw [Lib.decDigits]
    split
    · rename_i h10
      intro e
      have := congrArg UInt8.toNat (Option.some.inj e)
      rw [dg_nat h10] at this
      have h48 : (48 : UInt8).toNat = 48 := rfl
      omega
    · rename_i h10
      have := ih (u / 10) (by omega) (by omega)
      rw [List.head?_append]
      cases hh : (Lib.decDigits (u / 10)).head? with
      | none => rw [List.head?_eq_none_iff] at hh; have := Lib.decDigits_length (u / 10); have := Lib.nDigits_pos (u / 10); rw [hh] at *; simp at *; omega
      | some y => rw [hh] at this; simpa using this
theorem dec_len10 (u : Nat) (h : u < 10000000000) : 1 ≤ (Lib.decDigits u).length ∧ (Lib.decDigits u).length ≤ 10 := by
  rw [Lib.decDigits_length]
  refine ⟨Lib.nDigits_pos u, ?_⟩
  rcases Nat.lt_or_ge 10 (Lib.nDigits u) with hh | hh
  · exfalso
    have key : ∀ k u : Nat, k + 1 ≤ Lib.nDigits u → 1 ≤ k → 10 ^ k ≤ u := by
      intro k
      induction k with
      | zero => intro u _ h1; omega
      | succ k ih =>
        intro u hk _
        by_cases hu : u < 10
        · rw [Lib.nDigits_small hu] at hk; omega
        · rw [Lib.nDigits_big hu] at hk
          rcases Nat.eq_zero_or_pos k with rfl | hpos
          · simp; omega
          · have := ih (u / 10) (by omega) hpos
            rw [Nat.pow_succ]; omega
    have := key 10 u (by omega) (by omega)
    omega
  · exact hh
theorem isDec_dec (u : Nat) (h : u < 10000000000) : isDec (Lib.decDigits u) = true := by
  obtain ⟨h1, h2⟩ := dec_len10 u h
  unfold isDec
  simp only [Bool.and_eq_true, Bool.or_eq_true, decide_eq_true_eq]
  refine ⟨⟨⟨h1, h2⟩, ?_⟩, dec_all u⟩
  rcases Nat.eq_zero_or_pos u with rfl | hp
  · left; rw [Lib.decDigits]; rfl
  · exact .inr (dec_head u hp)
/-- A number without superfluous zeros is the one that is written. -/
theorem dec_valD : ∀ (n : Nat) (l : List UInt8), l.length = n → 1 ≤ n → (n = 1 ∨ l.head? ≠ some 48) → l.all (fun x => decide (48 ≤ x.toNat ∧ x.toNat ≤ 57)) = true → Lib.decDigits (valD l) = l := by
  intro n
  induction n with
  | zero => intro l _ h; omega
  | succ n ih =>
    intro l hl _ hz ha
    rcases List.eq_nil_or_concat l with rfl | ⟨m, x, rfl⟩
    · simp at hl
    rw [List.concat_eq_append] at *
    rw [List.length_append, List.length_singleton] at hl
    rw [List.all_append, Bool.and_eq_true] at ha
    have hx : 48 ≤ x.toNat ∧ x.toNat ≤ 57 := by simpa using ha.2
    have hxo : UInt8.ofNat (48 + (x.toNat - 48)) = x := by
      rw [show 48 + (x.toNat - 48) = x.toNat by omega]; exact UInt8.ofNat_toNat
    rw [valD_snoc]
    rcases Nat.eq_zero_or_pos n with rfl | hp
    · obtain rfl : m = [] := List.eq_nil_of_length_eq_zero (by omega)
      show Lib.decDigits (10 * 0 + (x.toNat - 48)) = [x]
      rw [Nat.mul_zero, Nat.zero_add, Lib.decDigits_one (by omega), hxo]
    · have hh : m.head? ≠ some 48 := by
        rcases hz with h | h
        · omega
        · cases m with
          | nil => simp at hl; omega
          | cons y r => simpa using h
      have e := ih m (by omega) hp (.inr hh) ha.1
      have hpos : 1 ≤ valD m := by
        rcases Nat.eq_zero_or_pos (valD m) with h0 | h0
        · exfalso
          rw [h0, Lib.decDigits_one (by omega)] at e
          rw [← e] at hh
          exact hh rfl
        · exact h0
      rw [Lib.decDigits, dif_neg (by omega), show (10 * valD m + (x.toNat - 48)) / 10 = valD m by omega, show (10 * valD m + (x.toNat - 48)) % 10 = x.toNat - 48 by omega, e, hxo]
theorem dec_of_isDec {l : List UInt8} (h : isDec l = true) : Lib.decDigits (valD l) = l := by
  unfold isDec at h
  simp only [Bool.and_eq_true, Bool.or_eq_true, decide_eq_true_eq] at h
  obtain ⟨⟨⟨h1, h2⟩, h3⟩, h4⟩ := h
  exact dec_valD l.length l rfl h1 h3 h4
theorem valD_10 {l : List UInt8} (h : isDec l = true) : valD l < 10000000000 := by
  unfold isDec at h
  simp only [Bool.and_eq_true, Bool.or_eq_true, decide_eq_true_eq] at h
  obtain ⟨⟨⟨h1, h2⟩, h3⟩, h4⟩ := h
  have := valD_lt l fun x hx => by have := List.all_eq_true.1 h4 x hx; simp at this; omega
  have hp : 10 ^ l.length ≤ 10 ^ 10 := Nat.pow_le_pow_right (by omega) h2
  omega

/-- The value of a digit of a byte, if it is one. -/
def hxv (x : UInt8) : Option Nat := if 48 ≤ x.toNat ∧ x.toNat ≤ 57 then some (x.toNat - 48) else if 97 ≤ x.toNat ∧ x.toNat ≤ 102 then some (x.toNat - 87) else none
def hxn (x : UInt8) : Nat := (hxv x).getD 0
theorem hxv_lt {x : UInt8} {v : Nat} (h : hxv x = some v) : v < 16 := by
  unfold hxv at h
  split at h
  · injection h; omega
  · split at h
    · injection h; omega
    · cases h
theorem hxn_lt (x : UInt8) : hxn x < 16 := by
  unfold hxn
  cases h : hxv x with
  | none => show (0 : Nat) < 16; omega
  | some v => exact hxv_lt h
theorem hxv_hx : ∀ v, v < 16 → hxv (hx v) = some v := by decide
theorem hx_hxv {x : UInt8} {v : Nat} (h : hxv x = some v) : hx v = x := by
  have key : ∀ y : Fin 256, ∀ v, hxv (UInt8.ofNat y.val) = some v → hx v = UInt8.ofNat y.val := by
    intro y v h
    have hv := hxv_lt h
    revert y v
    decide +kernel
  have := key ⟨x.toNat, UInt8.toNat_lt x⟩ v
  rw [show UInt8.ofNat x.toNat = x from UInt8.ofNat_toNat] at this
  exact this h
def isDat (l : List UInt8) : Bool := decide (l.length = 6) && l.all fun x => (hxv x).isSome
def byteD (l : List UInt8) (i : Nat) : Nat := 16 * hxn (l.getD (2 * i) 0) + hxn (l.getD (2 * i + 1) 0)
theorem byteD_lt (l : List UInt8) (i : Nat) : byteD l i < 256 := by
  have h1 := hxn_lt (l.getD (2 * i) 0)
  have h2 := hxn_lt (l.getD (2 * i + 1) 0)
  unfold byteD; omega
def isSgn (l : List UInt8) : Bool := decide (l = [43]) || decide (l = [45])
def isWrd (l : List UInt8) : Bool := decide (l = thW) || decide (l = stW) || decide (l = otW)
/-- Which pieces have the form. -/
def frm (p : List (List UInt8)) : Bool := decide (p.length = 9) && (p.take 6).all isDec && isSgn (p.getD 6 []) && isDat (p.getD 7 []) && isWrd (p.getD 8 [])
def mostL : List Nat := [65535, 4294967295, 65535, 255, 255, 255]
def nth (p : List (List UInt8)) (i : Nat) : Nat := valD (p.getD i [])
/-- Which numbers are in their ranges. -/
def fits (p : List (List UInt8)) : Bool := (List.range 6).all fun i => decide (nth p i ≤ mostL.getD i 0)
def evP (p : List (List UInt8)) : Ev := ⟨nth p 0, nth p 1, nth p 2, nth p 3, nth p 4, nth p 5, decide (p.getD 6 [] = [45]), byteD (p.getD 7 []) 0, byteD (p.getD 7 []) 1, byteD (p.getD 7 []) 2⟩
/-- What pieces mean. -/
def prsP (p : List (List UInt8)) : Ev × Nat := if frm p = false then (Ev.none, 6) else if fits p = false then (Ev.none, 2) else if p.getD 8 [] ≠ word (evP p).ty then (Ev.none, 6) else if vld (evP p) then (evP p, 0) else (Ev.none, 1)
def prs (l : List UInt8) : Ev × Nat := prsP (spl l)
end Go.Proofs.YtgbnigbjnbcfeaaDoor.V7
