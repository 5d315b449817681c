/- Walks: the program's conversions: how many bytes a conversion has. Walks: the program's conversions: a number in two's complement. -/
import Derived.Test.YtafoaonkjcfbaaaK33
namespace Go.Proofs.Ytafoaonkjcfbaaa.P5
open Go.RowKit Go.Proofs.Ytafoaonkjcfbaaa.Mem Go.Proofs.Ytafoaonkjcfbaaa.M3p Go.Proofs.Ytafoaonkjcfbaaa.C4p Go.Proofs.Ytafoaonkjcfbaaa.C4l Go.Proofs.Ytafoaonkjcfbaaa.C4v Go.Proofs.Ytafoaonkjcfbaaa.P4
set_option maxRecDepth 100000
set_option maxHeartbeats 1000000

theorem andnot_128 (x : Nat) (h : x < 256) : bits .andNot .u8 (x : Int) 128 = ((x % 128 : Nat) : Int) := by
  have : ∀ x : Fin 256, bits .andNot .u8 ((x.val : Nat) : Int) 128 = ((x.val % 128 : Nat) : Int) := by decide +kernel
  exact this ⟨x, h⟩
/-- How many bytes the conversion has that l begins with; the error. -/
def esz (l : List UInt8) : Int × Int :=
  if l = [] then (0, 4)
  else if u8 l 0 % 128 < 1 ∨ 5 < u8 l 0 % 128 then (0, 6)
  else if u8 l 0 % 128 = 5 then
    if l.length < 2 then (0, 4)
    else if u8 l 1 < 2 ∨ 12 < u8 l 1 then (0, 6)
    else ((2 + 7 * u8 l 1 : Nat), 0)
  else (7, 0)
theorem u8_at {l : List UInt8} {i : Nat} (h : i < l.length) : u8 l i = l[i].toNat := by
  unfold u8
  rw [List.getD_eq_getElem?_getD, List.getElem?_eq_getElem h]
  rfl
theorem esize_p (A : Option Addr) (n c : Nat) (l : List UInt8) (w : World) (hsl : Sl w A n c l) (hn : n ≤ 1000000) :
    Calls Try.prog 159 #[.slice A n c] w fun e w' => e = .returned (.tuple #[.int .i64 (esz l).1, .int .i64 (esz l).2]) ∧ w = w' := by
  obtain ⟨R, hR⟩ : ∃ R, R = esz l := ⟨_, rfl⟩
  rw [← hR]
  unfold esz at hR
  have hln := hsl.len
  by_cases h0 : n = 0
  · subst h0
    rw [if_pos (List.eq_nil_of_length_eq_zero hln.symm)] at hR
    subst hR
    clear hln hsl
    go_enter Try.func159, Try.ntmps159
    go_wp2_with fail
    go_ret2
    exact ⟨rfl, rfl⟩
  have hl0 : 0 < l.length := by omega
  rw [if_neg (by intro e; rw [e] at hl0; simp at hl0), u8_at hl0] at hR
  obtain ⟨a, rfl, hab, hc0⟩ := row_at hsl.row hl0
  have hc0' : w.cell? a = some (.int .u8 (l[0].toNat : Int)) := hc0
  have hx8 := l[0].toNat_lt
  obtain ⟨x, hx⟩ : ∃ x, l[0].toNat = x := ⟨_, rfl⟩
  rw [hx] at hR hc0' hx8
  have han := andnot_128 x hx8
  obtain ⟨y, hy⟩ : ∃ y, x % 128 = y := ⟨_, rfl⟩
  rw [hy] at han hR
  have hyb : y < 128 := by omega
  have hne : ((n : Int) == 0) = false := by rw [beq_eq_false_iff_ne]; omega
  have HLN := Lib.hid hln
  clear hc0 hx hy hln
  by_cases h1 : y < 1
  · rw [if_pos (.inl h1)] at hR
    subst hR
    go_enter Try.func159, Try.ntmps159
    go_wp2_with fail
    go_ret2
    exact ⟨rfl, rfl⟩
  by_cases h5 : 5 < y
  · rw [if_pos (.inr h5)] at hR
    subst hR
    go_enter Try.func159, Try.ntmps159
    go_wp2_with fail
    go_ret2
    exact ⟨rfl, rfl⟩
  rw [if_neg (by omega)] at hR
  by_cases hy5 : y = 5
  case neg =>
    rw [if_neg hy5] at hR
    subst hR
    have hyne : ((y : Int) != 5) = true := by rw [bne_iff_ne]; omega
    go_enter Try.func159, Try.ntmps159
    go_wp2_with fail
    go_ret2
    exact ⟨rfl, rfl⟩
  subst hy5
  rw [if_pos rfl] at hR
  by_cases hn1 : n = 1
  · rw [if_pos (by rw [← HLN.out]; omega)] at hR
    subst hR
    subst hn1
    go_enter Try.func159, Try.ntmps159
    go_wp2_with fail
    go_ret2
    exact ⟨rfl, rfl⟩
  have hl1 : 1 < l.length := by rw [← HLN.out]; omega
  rw [if_neg (by omega), u8_at hl1] at hR
  obtain ⟨a2, e2, -, hc1⟩ := row_at hsl.row hl1
  injection e2 with e2
  subst e2
  have hc1' : w.cell? ⟨a.block, a.off + 1, none⟩ = some (.int .u8 (l[1].toNat : Int)) := hc1
  have hz8 := l[1].toNat_lt
  obtain ⟨z, hz⟩ : ∃ x, l[1].toNat = x := ⟨_, rfl⟩
  rw [hz] at hR hc1' hz8
  have hne1 : ((n : Int) == 1) = false := by rw [beq_eq_false_iff_ne]; omega
  clear hc1 hz
  by_cases g1 : z < 2
  · rw [if_pos (.inl g1)] at hR
    subst hR
    go_enter Try.func159, Try.ntmps159
    go_wp2_with fail
    go_ret2
    exact ⟨rfl, rfl⟩
  by_cases g2 : 12 < z
  · rw [if_pos (.inr g2)] at hR
    subst hR
    go_enter Try.func159, Try.ntmps159
    go_wp2_with fail
    go_ret2
    exact ⟨rfl, rfl⟩
  rw [if_neg (by omega)] at hR
  subst hR
  go_enter Try.func159, Try.ntmps159
  go_wp2_with fail
  go_ret2
  refine ⟨?_, rfl⟩
  congr 3
end Go.Proofs.Ytafoaonkjcfbaaa.P5
namespace Go.Proofs.Ytafoaonkjcfbaaa.P5
open Go.RowKit Go.Proofs.Ytafoaonkjcfbaaa.Mem Go.Proofs.Ytafoaonkjcfbaaa.M3p Go.Proofs.Ytafoaonkjcfbaaa.C4p Go.Proofs.Ytafoaonkjcfbaaa.C4l Go.Proofs.Ytafoaonkjcfbaaa.C4v Go.Proofs.Ytafoaonkjcfbaaa.P4
set_option maxRecDepth 100000
set_option maxHeartbeats 1000000

/-- A byte more behind a number. -/
theorem or_neg (v : Int) (b : Nat) (hv1 : -36028797018963968 ≤ v) (hv2 : v < 36028797018963968) (hb : b < 256) : bits .or .i64 (v * 256) (b : Int) = v * 256 + b := by
  show IntKind.i64.wrap ((BitVec.ofInt 64 (v * 256) ||| BitVec.ofInt 64 (b : Int)).toNat : Int) = _
  have e1 : (BitVec.ofInt 64 (b : Int)).toNat = b := by
    rw [BitVec.ofInt_natCast, BitVec.toNat_ofNat]; exact Nat.mod_eq_of_lt (by omega)
  obtain ⟨a, ha, ha2⟩ : ∃ a : Nat, (v * 256) % 18446744073709551616 = ((2 ^ 8 * a : Nat) : Int) ∧ a < 72057594037927936 := by
    refine ⟨(v % 72057594037927936).toNat, ?_, by omega⟩
    rw [show (2 : Nat) ^ 8 = 256 by decide]
    omega
  have e2 : (BitVec.ofInt 64 (v * 256)).toNat = 2 ^ 8 * a := by
    rw [BitVec.toNat_ofInt, show ((2 ^ 64 : Nat) : Int) = 18446744073709551616 by decide, ha]
    rfl
  rw [BitVec.toNat_or, e1, e2, ← Nat.two_pow_add_eq_or_of_lt (by omega : b < 2 ^ 8), IntKind.wrap_i64]
  rw [show (2 : Nat) ^ 8 = 256 by decide] at ha ⊢
  omega
theorem sgn_cons (x : UInt8) (l : List UInt8) (h : 0 < l.length) : sgn (x :: l) = sgn l * 256 + x.toNat := by
  unfold sgn
  have e1 : top (x :: l) = top l := by
    unfold top
    rcases l with _ | ⟨y, l⟩
    · simp at h
    · rw [List.getLast?_cons_cons]
  have e2 : F2p.num (x :: l) = x.toNat + 256 * F2p.num l := rfl
  rw [e1, e2]
  split
  · rw [List.length_cons, Int.pow_succ]; push_cast; rw [Int.sub_mul]; omega
  · push_cast; omega
theorem sgn_one (x : UInt8) : sgn [x] = if 128 ≤ x.toNat then (x.toNat : Int) - 256 else x.toNat := by
  unfold sgn
  have e2 : F2p.num [x] = x.toNat + 256 * 0 := rfl
  rw [e2]
  by_cases h : 128 ≤ x.toNat
  · have e1 : top [x] = true := by unfold top; simp [h]
    rw [if_pos h, if_pos e1]; simp
  · have e1 : top [x] = false := by unfold top; simp; omega
    rw [if_neg h, e1]; simp
theorem sgn_bd : ∀ (l : List UInt8), l.length ≤ 6 → -281474976710656 ≤ sgn l ∧ sgn l < 281474976710656 := by
  have key : ∀ (n : Nat) (l : List UInt8), l.length = n + 1 → -((256 ^ (n + 1) : Nat) : Int) ≤ sgn l ∧ sgn l < ((256 ^ (n + 1) : Nat) : Int) := by
    intro n
    induction n with
    | zero =>
      intro l hl
      match l, hl with
      | [x], _ =>
        have := x.toNat_lt
        rw [sgn_one]
        split <;> simp <;> omega
    | succ n ih =>
      intro l hl
      match l, hl with
      | x :: l, hl =>
        have h1 : l.length = n + 1 := by simpa using hl
        have := ih l h1
        have hx := x.toNat_lt
        rw [sgn_cons x l (by omega), Nat.pow_succ]
        push_cast at this ⊢
        omega
  intro l hl
  rcases l with _ | ⟨x, l⟩
  · have : sgn [] = 0 := rfl
    rw [this]; omega
  · obtain ⟨h1, h2⟩ := key l.length (x :: l) rfl
    have h3 : (256 : Nat) ^ (l.length + 1) ≤ 256 ^ 6 := Nat.pow_le_pow_right (by omega) (by simpa using hl)
    have h4 : (256 : Nat) ^ 6 = 281474976710656 := by decide
    omega
theorem i8_byte (x : Nat) (h : x < 256) : wrap64 (IntKind.i8.wrap (x : Int)) = if 128 ≤ x then (x : Int) - 256 else x := by
  have : ∀ x : Fin 256, wrap64 (IntKind.i8.wrap ((x.val : Nat) : Int)) = if 128 ≤ x.val then (x.val : Int) - 256 else x.val := by decide +kernel
  exact this ⟨x, h⟩
theorem number_q (A : Option Addr) (n c : Nat) (l : List UInt8) (B : Nat) (w : World) (h : Row B w A l) (hn : n = l.length) (h1 : 1 ≤ n) (h6 : n ≤ 6) :
    Calls Try.prog 178 #[.slice A n c] w fun e w' => e = .returned (.int .i64 (sgn l)) ∧ w = w' := by
  obtain ⟨m, rfl⟩ : ∃ m, n = m + 1 := ⟨n - 1, by omega⟩
  have hlm : m < l.length := by omega
  obtain ⟨a, rfl, ha, hc⟩ := row_at h hlm
  have hx := l[m].toNat_lt
  have HN := Lib.hid hn; clear hn
  have hdl : l.drop m = [l[m]] := by
    rw [List.drop_eq_getElem_cons hlm, List.drop_eq_nil_of_le (by have := HN.out; omega)]
  have hsl : sgn (l.drop m) = if 128 ≤ l[m].toNat then (l[m].toNat : Int) - 256 else l[m].toNat := by rw [hdl, sgn_one]
  have HS := Lib.hid hsl; clear hsl hdl
  have b0 : (0 : Int) ≤ (m : Int) := by omega
  have b1 : (m : Int) < (m : Int) + 1 := by omega
  have hw8 : wrap64 (IntKind.i8.wrap (l[m].toNat : Int)) = sgn (l.drop m) := by
    rw [HS.out]
    exact i8_byte _ hx
  have hj0 : ((m : Int) - 1) = (m : Int) - 1 := rfl
  clear hj0
  go_enter Try.func178, Try.ntmps178
  go_wp2_with fail
  go_loop [4, 5] (fun v i => ∃ j : Nat, j ≤ m ∧ i = .int .i64 ((j : Int) - 1) ∧ v = .int .i64 (sgn (l.drop j))) (fun _ i => (intOf i + 1).toNat)
  case atStart => exact ⟨m, Nat.le_refl _, rfl, by rw [hw8]⟩
  case round =>
    clear hw8
    obtain ⟨j, hj, rfl, rfl⟩ := hrel
    rcases j with _ | q
    · go_wp2_with fail
      go_ret
      exact ⟨rfl, rfl⟩
    · have hq : q < l.length := by omega
      obtain ⟨a', ha', _, hcq⟩ := row_at h hq
      injection ha' with ha'
      subst ha'
      have hxq := l[q].toNat_lt
      have hsn : sgn (l.drop q) = sgn (l.drop (q + 1)) * 256 + l[q].toNat := by
        rw [List.drop_eq_getElem_cons hq, sgn_cons _ _ (by simp; have := HN.out; omega)]
      have HSN := Lib.hid hsn; clear hsn
      obtain ⟨s1, s2⟩ := sgn_bd (l.drop (q + 1)) (by simp; have := HN.out; omega)
      have hor := or_neg (sgn (l.drop (q + 1))) l[q].toNat (by omega) (by omega) hxq
      generalize sgn (l.drop (q + 1)) = V at *
      have b3 : (((q + 1 : Nat) : Int)) - 1 = (q : Int) := by omega
      have b4 : (q : Int) + 1 - 1 = (q : Int) := by omega
      have b5 : (0 : Int) ≤ (q : Int) := by omega
      have b6 : (q : Int) < (m : Int) + 1 := by omega
      go_wp2_with fail
      exact ⟨⟨q, by omega, rfl, by rw [HSN.out]⟩, by simp [intOf]⟩
end Go.Proofs.Ytafoaonkjcfbaaa.P5
