/- Walks: the program's conversions: a number in two's complement. -/
import Derived.Test.YtfnocgkhhbpiiaaP5c
namespace Go.Proofs.Ytfnocgkhhbpiiaa.P5
open Go.RowKit Go.Proofs.Ytfnocgkhhbpiiaa.Mem Go.Proofs.Ytfnocgkhhbpiiaa.M3p Go.Proofs.Ytfnocgkhhbpiiaa.C4p Go.Proofs.Ytfnocgkhhbpiiaa.C4l Go.Proofs.Ytfnocgkhhbpiiaa.C4v Go.Proofs.Ytfnocgkhhbpiiaa.P4
set_option maxRecDepth 100000
set_option maxHeartbeats 1000000

/-- A byte more behind a number. -/
theorem or_neg (v : Int) (b : Nat) (hv1 : -36028797018963968 ≤ v) (hv2 : v < 36028797018963968) (hb : b < 256) : bits .or .i64 (v * 256) (b : Int) = v * 256 + b := by
  show IntKind.i64.wrap ((BitVec.ofInt 64 (v * 256) ||| BitVec.ofInt 64 (b : Int)).toNat : Int) = _
  have e1 : (BitVec.ofInt 64 (b : Int)).toNat = b := by
    rw [BitVec.ofInt_natCast, BitVec.toNat_ofNat]; exact Nat.mod_eq_of_lt (by omega)
  obtain ⟨a, ha, ha2⟩ : ∃ a : Nat, (v * 256) % 18446744073709551616 = ((2 ^ 8 * a : Nat) : Int) ∧ a < 72057594037927936 := by
    refine ⟨(v % 72057594037927936).toNat, ?_, by omega⟩
    rw [show (2 : Nat) ^ 8 = 256 by decide]
    omega
  have e2 : (BitVec.ofInt 64 (v * 256)).toNat = 2 ^ 8 * a := by
    rw [BitVec.toNat_ofInt, show ((2 ^ 64 : Nat) : Int) = 18446744073709551616 by decide, ha]
    rfl
  rw [BitVec.toNat_or, e1, e2, ← Nat.two_pow_add_eq_or_of_lt (by omega : b < 2 ^ 8), IntKind.wrap_i64]
  rw [show (2 : Nat) ^ 8 = 256 by decide] at ha ⊢
  omega
theorem sgn_cons (x : UInt8) (l : List UInt8) (h : 0 < l.length) : sgn (x :: l) = sgn l * 256 + x.toNat := by
  unfold sgn
  have e1 : top (x :: l) = top l := by
    unfold top
    rcases l with _ | ⟨y, l⟩
    · simp at h
    · rw [List.getLast?_cons_cons]
  have e2 : F2p.num (x :: l) = x.toNat + 256 * F2p.num l := rfl
  rw [e1, e2]
  split
  · rw [List.length_cons, Int.pow_succ]; push_cast; rw [Int.sub_mul]; omega
  · push_cast; omega
theorem sgn_one (x : UInt8) : sgn [x] = if 128 ≤ x.toNat then (x.toNat : Int) - 256 else x.toNat := by
  unfold sgn
  have e2 : F2p.num [x] = x.toNat + 256 * 0 := rfl
  rw [e2]
  by_cases h : 128 ≤ x.toNat
  · have e1 : top [x] = true := by unfold top; simp [h]
    rw [if_pos h, if_pos e1]; simp
  · have e1 : top [x] = false := by unfold top; simp; omega
    rw [if_neg h, e1]; simp
theorem sgn_bd : ∀ (l : List UInt8), l.length ≤ 6 → -281474976710656 ≤ sgn l ∧ sgn l < 281474976710656 := by
  have key : ∀ (n : Nat) (l : List UInt8), l.length = n + 1 → -((256 ^ (n + 1) : Nat) : Int) ≤ sgn l ∧ sgn l < ((256 ^ (n + 1) : Nat) : Int) := by
    intro n
    induction n with
    | zero =>
      intro l hl
      match l, hl with
      | [x], _ =>
        have := x.toNat_lt
        rw [sgn_one]
        split <;> simp <;> omega
    | succ n ih =>
      intro l hl
      match l, hl with
      | x :: l, hl =>
        have h1 : l.length = n + 1 := by simpa using hl
        have := ih l h1
        have hx := x.toNat_lt
        rw [sgn_cons x l (by omega), Nat.pow_succ]
        push_cast at this ⊢
        omega
  intro l hl
  rcases l with _ | ⟨x, l⟩
  · have : sgn [] = 0 := rfl
    rw [this]; omega
  · obtain ⟨h1, h2⟩ := key l.length (x :: l) rfl
    have h3 : (256 : Nat) ^ (l.length + 1) ≤ 256 ^ 6 := Nat.pow_le_pow_right (by omega) (by simpa using hl)
    have h4 : (256 : Nat) ^ 6 = 281474976710656 := by decide
    omega
theorem i8_byte (x : Nat) (h : x < 256) : wrap64 (IntKind.i8.wrap (x : Int)) = if 128 ≤ x then (x : Int) - 256 else x := by
  have : ∀ x : Fin 256, wrap64 (IntKind.i8.wrap ((x.val : Nat) : Int)) = if 128 ≤ x.val then (x.val : Int) - 256 else x.val := by decide +kernel
  exact this ⟨x, h⟩
theorem number_q (A : Option Addr) (n c : Nat) (l : List UInt8) (B : Nat) (w : World) (h : Row B w A l) (hn : n = l.length) (h1 : 1 ≤ n) (h6 : n ≤ 6) :
    Calls Try.prog 37 #[.slice A n c] w fun e w' => e = .returned (.int .i64 (sgn l)) ∧ w = w' := by
  obtain ⟨m, rfl⟩ : ∃ m, n = m + 1 := ⟨n - 1, by omega⟩
  have hlm : m < l.length := by omega
  obtain ⟨a, rfl, ha, hc⟩ := row_at h hlm
  have hx := l[m].toNat_lt
  have HN := Lib.hid hn; clear hn
  have hdl : l.drop m = [l[m]] := by
    rw [List.drop_eq_getElem_cons hlm, List.drop_eq_nil_of_le (by have := HN.out; omega)]
  have hsl : sgn (l.drop m) = if 128 ≤ l[m].toNat then (l[m].toNat : Int) - 256 else l[m].toNat := by rw [hdl, sgn_one]
  have HS := Lib.hid hsl; clear hsl hdl
  have b0 : (0 : Int) ≤ (m : Int) := by omega
  have b1 : (m : Int) < (m : Int) + 1 := by omega
  have hw8 : wrap64 (IntKind.i8.wrap (l[m].toNat : Int)) = sgn (l.drop m) := by
    rw [HS.out]
    exact i8_byte _ hx
  have hj0 : ((m : Int) - 1) = (m : Int) - 1 := rfl
  clear hj0
  go_enter Try.func37, Try.ntmps37
  go_wp2_with fail
  go_loop [4, 5] (fun v i => ∃ j : Nat, j ≤ m ∧ i = .int .i64 ((j : Int) - 1) ∧ v = .int .i64 (sgn (l.drop j))) (fun _ i => (intOf i + 1).toNat)
  case atStart => exact ⟨m, Nat.le_refl _, rfl, by rw [hw8]⟩
  case round =>
    clear hw8
    obtain ⟨j, hj, rfl, rfl⟩ := hrel
    rcases j with _ | q
    · go_wp2_with fail
      go_ret
      exact ⟨rfl, rfl⟩
    · have hq : q < l.length := by omega
      obtain ⟨a', ha', _, hcq⟩ := row_at h hq
      injection ha' with ha'
      subst ha'
      have hxq := l[q].toNat_lt
      have hsn : sgn (l.drop q) = sgn (l.drop (q + 1)) * 256 + l[q].toNat := by
        rw [List.drop_eq_getElem_cons hq, sgn_cons _ _ (by simp; have := HN.out; omega)]
      have HSN := Lib.hid hsn; clear hsn
      obtain ⟨s1, s2⟩ := sgn_bd (l.drop (q + 1)) (by simp; have := HN.out; omega)
      have hor := or_neg (sgn (l.drop (q + 1))) l[q].toNat (by omega) (by omega) hxq
      generalize sgn (l.drop (q + 1)) = V at *
      have b3 : (((q + 1 : Nat) : Int)) - 1 = (q : Int) := by omega
      have b4 : (q : Int) + 1 - 1 = (q : Int) := by omega
      have b5 : (0 : Int) ≤ (q : Int) := by omega
      have b6 : (q : Int) < (m : Int) + 1 := by omega
      go_wp2_with fail
      exact ⟨⟨q, by omega, rfl, by rw [HSN.out]⟩, by simp [intOf]⟩
end Go.Proofs.Ytfnocgkhhbpiiaa.P5
