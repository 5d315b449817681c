/- Walks: the program's conversions: how many bytes a conversion has. Walks: the program's conversions: a number in two's complement. Walks: the program's conversions: reading a conversion that is no table. Walks: the program's conversions: reading a table. Walks: the program's conversions: Decode. -/
import Derived.Test.YtigooekimkkhaaaP5b
import Derived.Test.YtigooekimkkhaaaG1
namespace Go.Proofs.Ytigooekimkkhaaa.P5
open Go.RowKit Go.Proofs.Ytigooekimkkhaaa.Mem Go.Proofs.Ytigooekimkkhaaa.M3p Go.Proofs.Ytigooekimkkhaaa.C4p Go.Proofs.Ytigooekimkkhaaa.C4l Go.Proofs.Ytigooekimkkhaaa.C4v Go.Proofs.Ytigooekimkkhaaa.P4
set_option maxRecDepth 100000
set_option maxHeartbeats 1000000

theorem andnot_128 (x : Nat) (h : x < 256) : bits .andNot .u8 (x : Int) 128 = ((x % 128 : Nat) : Int) := by
  have : ∀ x : Fin 256, bits .andNot .u8 ((x.val : Nat) : Int) 128 = ((x.val % 128 : Nat) : Int) := by decide +kernel
  exact this ⟨x, h⟩
/-- How many bytes the conversion has that l begins with; the error. -/
def esz (l : List UInt8) : Int × Int :=
  if l = [] then (0, 4)
  else if u8 l 0 % 128 < 1 ∨ 5 < u8 l 0 % 128 then (0, 6)
  else if u8 l 0 % 128 = 5 then
    if l.length < 2 then (0, 4)
    else if u8 l 1 < 2 ∨ 12 < u8 l 1 then (0, 6)
    else ((2 + 7 * u8 l 1 : Nat), 0)
  else (7, 0)
theorem u8_at {l : List UInt8} {i : Nat} (h : i < l.length) : u8 l i = l[i].toNat := by
  unfold u8
  rw [List.getD_eq_getElem?_getD, List.getElem?_eq_getElem h]
  rfl
theorem esize_p (A : Option Addr) (n c : Nat) (l : List UInt8) (w : World) (hsl : Sl w A n c l) (hn : n ≤ 1000000) :
    Calls Try.prog 88 #[.slice A n c] w fun e w' => e = .returned (.tuple #[.int .i64 (esz l).1, .int .i64 (esz l).2]) ∧ w = w' := by
  obtain ⟨R, hR⟩ : ∃ R, R = esz l := ⟨_, rfl⟩
  rw [← hR]
  unfold esz at hR
  have hln := hsl.len
  by_cases h0 : n = 0
  · subst h0
    rw [if_pos (List.eq_nil_of_length_eq_zero hln.symm)] at hR
    subst hR
    clear hln hsl
    go_enter Try.func88, Try.ntmps88
    go_wp2_with fail
    go_ret2
    exact ⟨rfl, rfl⟩
  have hl0 : 0 < l.length := by omega
  rw [if_neg (by intro e; rw [e] at hl0; simp at hl0), u8_at hl0] at hR
  obtain ⟨a, rfl, hab, hc0⟩ := row_at hsl.row hl0
  have hc0' : w.cell? a = some (.int .u8 (l[0].toNat : Int)) := hc0
  have hx8 := l[0].toNat_lt
  obtain ⟨x, hx⟩ : ∃ x, l[0].toNat = x := ⟨_, rfl⟩
  rw [hx] at hR hc0' hx8
  have han := andnot_128 x hx8
  obtain ⟨y, hy⟩ : ∃ y, x % 128 = y := ⟨_, rfl⟩
  rw [hy] at han hR
  have hyb : y < 128 := by omega
  have hne : ((n : Int) == 0) = false := by rw [beq_eq_false_iff_ne]; omega
  have HLN := Lib.hid hln
  clear hc0 hx hy hln
  by_cases h1 : y < 1
  · rw [if_pos (.inl h1)] at hR
    subst hR
    go_enter Try.func88, Try.ntmps88
    go_wp2_with fail
    go_ret2
    exact ⟨rfl, rfl⟩
  by_cases h5 : 5 < y
  · rw [if_pos (.inr h5)] at hR
    subst hR
    go_enter Try.func88, Try.ntmps88
    go_wp2_with fail
    go_ret2
    exact ⟨rfl, rfl⟩
  rw [if_neg (by omega)] at hR
  by_cases hy5 : y = 5
  case neg =>
    rw [if_neg hy5] at hR
    subst hR
    have hyne : ((y : Int) != 5) = true := by rw [bne_iff_ne]; omega
    go_enter Try.func88, Try.ntmps88
    go_wp2_with fail
    go_ret2
    exact ⟨rfl, rfl⟩
  subst hy5
  rw [if_pos rfl] at hR
  by_cases hn1 : n = 1
  · rw [if_pos (by rw [← HLN.out]; omega)] at hR
    subst hR
    subst hn1
    go_enter Try.func88, Try.ntmps88
    go_wp2_with fail
    go_ret2
    exact ⟨rfl, rfl⟩
  have hl1 : 1 < l.length := by rw [← HLN.out]; omega
  rw [if_neg (by omega), u8_at hl1] at hR
  obtain ⟨a2, e2, -, hc1⟩ := row_at hsl.row hl1
  injection e2 with e2
  subst e2
  have hc1' : w.cell? ⟨a.block, a.off + 1, none⟩ = some (.int .u8 (l[1].toNat : Int)) := hc1
  have hz8 := l[1].toNat_lt
  obtain ⟨z, hz⟩ : ∃ x, l[1].toNat = x := ⟨_, rfl⟩
  rw [hz] at hR hc1' hz8
  have hne1 : ((n : Int) == 1) = false := by rw [beq_eq_false_iff_ne]; omega
  clear hc1 hz
  by_cases g1 : z < 2
  · rw [if_pos (.inl g1)] at hR
    subst hR
    go_enter Try.func88, Try.ntmps88
    go_wp2_with fail
    go_ret2
    exact ⟨rfl, rfl⟩
  by_cases g2 : 12 < z
  · rw [if_pos (.inr g2)] at hR
    subst hR
    go_enter Try.func88, Try.ntmps88
    go_wp2_with fail
    go_ret2
    exact ⟨rfl, rfl⟩
  rw [if_neg (by omega)] at hR
  subst hR
  go_enter Try.func88, Try.ntmps88
  go_wp2_with fail
  go_ret2
  refine ⟨?_, rfl⟩
  congr 3
end Go.Proofs.Ytigooekimkkhaaa.P5
namespace Go.Proofs.Ytigooekimkkhaaa.P5
open Go.RowKit Go.Proofs.Ytigooekimkkhaaa.Mem Go.Proofs.Ytigooekimkkhaaa.M3p Go.Proofs.Ytigooekimkkhaaa.C4p Go.Proofs.Ytigooekimkkhaaa.C4l Go.Proofs.Ytigooekimkkhaaa.C4v Go.Proofs.Ytigooekimkkhaaa.P4
set_option maxRecDepth 100000
set_option maxHeartbeats 1000000

/-- A byte more behind a number. -/
theorem or_neg (v : Int) (b : Nat) (hv1 : -36028797018963968 ≤ v) (hv2 : v < 36028797018963968) (hb : b < 256) : bits .or .i64 (v * 256) (b : Int) = v * 256 + b := by
  show IntKind.i64.wrap ((BitVec.ofInt 64 (v * 256) ||| BitVec.ofInt 64 (b : Int)).toNat : Int) = _
  have e1 : (BitVec.ofInt 64 (b : Int)).toNat = b := by
    rw [BitVec.ofInt_natCast, BitVec.toNat_ofNat]; exact Nat.mod_eq_of_lt (by omega)
  obtain ⟨a, ha, ha2⟩ : ∃ a : Nat, (v * 256) % 18446744073709551616 = ((2 ^ 8 * a : Nat) : Int) ∧ a < 72057594037927936 := by
    refine ⟨(v % 72057594037927936).toNat, ?_, by omega⟩
    rw [show (2 : Nat) ^ 8 = 256 by decide]
    omega
  have e2 : (BitVec.ofInt 64 (v * 256)).toNat = 2 ^ 8 * a := by
    rw [BitVec.toNat_ofInt, show ((2 ^ 64 : Nat) : Int) = 18446744073709551616 by decide, ha]
    rfl
  rw [BitVec.toNat_or, e1, e2, ← Nat.two_pow_add_eq_or_of_lt (by omega : b < 2 ^ 8), IntKind.wrap_i64]
  rw [show (2 : Nat) ^ 8 = 256 by decide] at ha ⊢
  omega
theorem sgn_cons (x : UInt8) (l : List UInt8) (h : 0 < l.length) : sgn (x :: l) = sgn l * 256 + x.toNat := by
  unfold sgn
  have e1 : top (x :: l) = top l := by
    unfold top
    rcases l with _ | ⟨y, l⟩
    · simp at h
    · rw [List.getLast?_cons_cons]
  have e2 : F2p.num (x :: l) = x.toNat + 256 * F2p.num l := rfl
  rw [e1, e2]
  split
  · rw [List.length_cons, Int.pow_succ]; push_cast; rw [Int.sub_mul]; omega
  · push_cast; omega
theorem sgn_one (x : UInt8) : sgn [x] = if 128 ≤ x.toNat then (x.toNat : Int) - 256 else x.toNat := by
  unfold sgn
  have e2 : F2p.num [x] = x.toNat + 256 * 0 := rfl
  rw [e2]
  by_cases h : 128 ≤ x.toNat
  · have e1 : top [x] = true := by unfold top; simp [h]
    rw [if_pos h, if_pos e1]; simp
  · have e1 : top [x] = false := by unfold top; simp; omega
    rw [if_neg h, e1]; simp
theorem sgn_bd : ∀ (l : List UInt8), l.length ≤ 6 → -281474976710656 ≤ sgn l ∧ sgn l < 281474976710656 := by
  have key : ∀ (n : Nat) (l : List UInt8), l.length = n + 1 → -((256 ^ (n + 1) : Nat) : Int) ≤ sgn l ∧ sgn l < ((256 ^ (n + 1) : Nat) : Int) := by
    intro n
    induction n with
    | zero =>
      intro l hl
      match l, hl with
      | [x], _ =>
        have := x.toNat_lt
        rw [sgn_one]
        split <;> simp <;> omega
    | succ n ih =>
      intro l hl
      match l, hl with
      | x :: l, hl =>
        have h1 : l.length = n + 1 := by simpa using hl
        have := ih l h1
        have hx := x.toNat_lt
        rw [sgn_cons x l (by omega), Nat.pow_succ]
        push_cast at this ⊢
        omega
  intro l hl
  rcases l with _ | ⟨x, l⟩
  · have : sgn [] = 0 := rfl
    rw [this]; omega
  · obtain ⟨h1, h2⟩ := key l.length (x :: l) rfl
    have h3 : (256 : Nat) ^ (l.length + 1) ≤ 256 ^ 6 := Nat.pow_le_pow_right (by omega) (by simpa using hl)
    have h4 : (256 : Nat) ^ 6 = 281474976710656 := by decide
    omega
theorem i8_byte (x : Nat) (h : x < 256) : wrap64 (IntKind.i8.wrap (x : Int)) = if 128 ≤ x then (x : Int) - 256 else x := by
  have : ∀ x : Fin 256, wrap64 (IntKind.i8.wrap ((x.val : Nat) : Int)) = if 128 ≤ x.val then (x.val : Int) - 256 else x.val := by decide +kernel
  exact this ⟨x, h⟩
theorem number_q (A : Option Addr) (n c : Nat) (l : List UInt8) (B : Nat) (w : World) (h : Row B w A l) (hn : n = l.length) (h1 : 1 ≤ n) (h6 : n ≤ 6) :
    Calls Try.prog 90 #[.slice A n c] w fun e w' => e = .returned (.int .i64 (sgn l)) ∧ w = w' := by
  obtain ⟨m, rfl⟩ : ∃ m, n = m + 1 := ⟨n - 1, by omega⟩
  have hlm : m < l.length := by omega
  obtain ⟨a, rfl, ha, hc⟩ := row_at h hlm
  have hx := l[m].toNat_lt
  have HN := Lib.hid hn; clear hn
  have hdl : l.drop m = [l[m]] := by
    rw [List.drop_eq_getElem_cons hlm, List.drop_eq_nil_of_le (by have := HN.out; omega)]
  have hsl : sgn (l.drop m) = if 128 ≤ l[m].toNat then (l[m].toNat : Int) - 256 else l[m].toNat := by rw [hdl, sgn_one]
  have HS := Lib.hid hsl; clear hsl hdl
  have b0 : (0 : Int) ≤ (m : Int) := by omega
  have b1 : (m : Int) < (m : Int) + 1 := by omega
  have hw8 : wrap64 (IntKind.i8.wrap (l[m].toNat : Int)) = sgn (l.drop m) := by
    rw [HS.out]
    exact i8_byte _ hx
  have hj0 : ((m : Int) - 1) = (m : Int) - 1 := rfl
  clear hj0
  go_enter Try.func90, Try.ntmps90
  go_wp2_with fail
  go_loop [4, 5] (fun v i => ∃ j : Nat, j ≤ m ∧ i = .int .i64 ((j : Int) - 1) ∧ v = .int .i64 (sgn (l.drop j))) (fun _ i => (intOf i + 1).toNat)
  case atStart => exact ⟨m, Nat.le_refl _, rfl, by rw [hw8]⟩
  case round =>
    clear hw8
    obtain ⟨j, hj, rfl, rfl⟩ := hrel
    rcases j with _ | q
    · go_wp2_with fail
      go_ret
      exact ⟨rfl, rfl⟩
    · have hq : q < l.length := by omega
      obtain ⟨a', ha', _, hcq⟩ := row_at h hq
      injection ha' with ha'
      subst ha'
      have hxq := l[q].toNat_lt
      have hsn : sgn (l.drop q) = sgn (l.drop (q + 1)) * 256 + l[q].toNat := by
        rw [List.drop_eq_getElem_cons hq, sgn_cons _ _ (by simp; have := HN.out; omega)]
      have HSN := Lib.hid hsn; clear hsn
      obtain ⟨s1, s2⟩ := sgn_bd (l.drop (q + 1)) (by simp; have := HN.out; omega)
      have hor := or_neg (sgn (l.drop (q + 1))) l[q].toNat (by omega) (by omega) hxq
      generalize sgn (l.drop (q + 1)) = V at *
      have b3 : (((q + 1 : Nat) : Int)) - 1 = (q : Int) := by omega
      have b4 : (q : Int) + 1 - 1 = (q : Int) := by omega
      have b5 : (0 : Int) ≤ (q : Int) := by omega
      have b6 : (q : Int) < (m : Int) + 1 := by omega
      go_wp2_with fail
      exact ⟨⟨q, by omega, rfl, by rw [HSN.out]⟩, by simp [intOf]⟩
end Go.Proofs.Ytigooekimkkhaaa.P5
namespace Go.Proofs.Ytigooekimkkhaaa.P5
open Go.RowKit Go.Proofs.Ytigooekimkkhaaa.Mem Go.Proofs.Ytigooekimkkhaaa.M3p Go.Proofs.Ytigooekimkkhaaa.C4p Go.Proofs.Ytigooekimkkhaaa.C4l Go.Proofs.Ytigooekimkkhaaa.C4v Go.Proofs.Ytigooekimkkhaaa.P4
set_option maxRecDepth 100000
set_option maxHeartbeats 1000000

theorem and_128 (x : Nat) (h : x < 256) : bits .and .u8 (x : Int) 128 = if 128 ≤ x then 128 else 0 := by
  have : ∀ x : Fin 256, bits .and .u8 ((x.val : Nat) : Int) 128 = if 128 ≤ x.val then 128 else 0 := by decide +kernel
  exact this ⟨x, h⟩
theorem and_128' (x : Nat) (h : x < 256) : (bits .and .u8 (x : Int) 128 != 0) = decide (128 ≤ x) := by
  rw [and_128 x h]
  by_cases h : 128 ≤ x <;> simp [h]
theorem piece_row {B : Nat} {w : World} {a : Addr} {l : List UInt8} (h : Row B w (some a) l) (k n : Nat) (hk0 : k < l.length) : Row B w (some (a.add k)) (piece l k n) := by
  have := row_take (row_cut (cap := l.length) h (by omega : k ≤ l.length) (Nat.le_refl _)) n
  rw [if_neg (by omega), Option.map_some] at this
  exact this
theorem read_lin (a : Addr) (n c : Nat) (l : List UInt8) (w : World) (hsl : Sl w (some a) n c l) (hn : n = 7) (hf : ¬ u8 l 0 % 128 = 5) :
    Calls Try.prog 89 #[.slice (some a) n c] w fun e w' =>
      e = .returned (.agg #[.int .i64 ((u8 l 0 % 128 : Nat) : Int), .bool (decide (128 ≤ u8 l 0)), .int .i64 (sgn (piece l 1 2)), .int .i64 (sgn (piece l 3 2)), .int .i64 (sgn (piece l 5 1)), .int .i64 (sgn (piece l 6 1)), .slice none 0 0]) ∧ Below w.heap.size w w' := by
  have hln := hsl.len
  have hrow := hsl.row
  have hcp := hsl.cap
  subst hn
  have hl0 : 0 < l.length := by omega
  obtain ⟨a', ha', hab, hc0⟩ := row_at hrow hl0
  injection ha' with ha'
  subst ha'
  have hc0' : w.cell? a = some (.int .u8 (l[0].toNat : Int)) := hc0
  have hx8 := l[0].toNat_lt
  rw [u8_at hl0] at hf ⊢
  obtain ⟨x, hx⟩ : ∃ x, l[0].toNat = x := ⟨_, rfl⟩
  rw [hx] at hc0' hx8 hf ⊢
  have han := andnot_128 x hx8
  have hsg := and_128' x hx8
  obtain ⟨y, hy⟩ : ∃ y, x % 128 = y := ⟨_, rfl⟩
  rw [hy] at han hf ⊢
  have hyb : y < 128 := by omega
  have hyne : ((y : Int) == 5) = false := by rw [beq_eq_false_iff_ne]; omega
  obtain ⟨S, hS⟩ : ∃ S, decide (128 ≤ x) = S := ⟨_, rfl⟩
  rw [hS] at hsg ⊢
  have hN : ∀ k m : Nat, 1 ≤ k → 1 ≤ m → k + m ≤ 7 → ∀ (c' : Nat) (u : World), Below w.heap.size w u → Calls Try.prog 90 #[.slice (some ⟨a.block, a.off + k, none⟩) m c'] u fun e w' => e = .returned (.int .i64 (sgn (piece l k m))) ∧ u = w' := by
    intro k m hk h1 h2 c' u hu
    have hrk := (piece_row hrow k m (by omega)).below hu
    have he : a.add k = ⟨a.block, a.off + k, none⟩ := by unfold Addr.add; rw [if_neg (by omega)]
    rw [he] at hrk
    exact number_q (some ⟨a.block, a.off + k, none⟩) m c' (piece l k m) w.heap.size u hrk (by simp [piece]; omega) h1 (by omega)
  have HNU := Lib.hid hN
  have HLN := Lib.hid hln
  obtain ⟨N1, hN1⟩ : ∃ N1, N1 = sgn (piece l 1 2) := ⟨_, rfl⟩
  obtain ⟨N2, hN2⟩ : ∃ N2, N2 = sgn (piece l 3 2) := ⟨_, rfl⟩
  obtain ⟨N3, hN3⟩ : ∃ N3, N3 = sgn (piece l 5 1) := ⟨_, rfl⟩
  obtain ⟨N4, hN4⟩ : ∃ N4, N4 = sgn (piece l 6 1) := ⟨_, rfl⟩
  rw [← hN1, ← hN2, ← hN3, ← hN4]
  have HC1 := Lib.hid (fun c' u hu => by have := hN 1 2 (by omega) (by omega) (by omega) c' u hu; rw [← hN1] at this; exact this)
  have HC2 := Lib.hid (fun c' u hu => by have := hN 3 2 (by omega) (by omega) (by omega) c' u hu; rw [← hN2] at this; exact this)
  have HC3 := Lib.hid (fun c' u hu => by have := hN 5 1 (by omega) (by omega) (by omega) c' u hu; rw [← hN3] at this; exact this)
  have HC4 := Lib.hid (fun c' u hu => by have := hN 6 1 (by omega) (by omega) (by omega) c' u hu; rw [← hN4] at this; exact this)
  clear hN hln hrow hc0 hx hy hS hf hsl hN1 hN2 hN3 hN4 HNU
  go_enter Try.func89, Try.ntmps89
  go_wp2_with fail
  go_region
  have hb0 : Below w.heap.size w (((w.alloc (.cells #[.int .i64 0, .bool false, .int .i64 0, .int .i64 0, .int .i64 0, .int .i64 0, .slice none 0 0] 26)).alloc (.cells #[.int .i64 (y : Int), .bool S, .int .i64 0, .int .i64 0, .int .i64 0, .int .i64 0, .slice none 0 0] 26)).drew) := by
    have h := ((Below.refl w.heap.size w).alloc (Nat.le_refl _) (.cells #[.int .i64 0, .bool false, .int .i64 0, .int .i64 0, .int .i64 0, .int .i64 0, .slice none 0 0] 26)).alloc (by simp) (.cells #[.int .i64 (y : Int), .bool S, .int .i64 0, .int .i64 0, .int .i64 0, .int .i64 0, .slice none 0 0] 26)
    exact ⟨h.os, h.tape, h.output, h.size, h.block⟩
  have hhr : (((w.alloc (.cells #[.int .i64 0, .bool false, .int .i64 0, .int .i64 0, .int .i64 0, .int .i64 0, .slice none 0 0] 26)).alloc (.cells #[.int .i64 (y : Int), .bool S, .int .i64 0, .int .i64 0, .int .i64 0, .int .i64 0, .slice none 0 0] 26)).drew).heap[w.heap.size]? = some (.cells #[.int .i64 0, .bool false, .int .i64 0, .int .i64 0, .int .i64 0, .int .i64 0, .slice none 0 0] 26 (0, 0)) := (Below.heap_alloc _ _ _ (by rw [World.size_alloc]; omega)).trans (heap_alloc_new w _)
  have hhf : (((w.alloc (.cells #[.int .i64 0, .bool false, .int .i64 0, .int .i64 0, .int .i64 0, .int .i64 0, .slice none 0 0] 26)).alloc (.cells #[.int .i64 (y : Int), .bool S, .int .i64 0, .int .i64 0, .int .i64 0, .int .i64 0, .slice none 0 0] 26)).drew).heap[w.heap.size + 1]? = some (.cells #[.int .i64 (y : Int), .bool S, .int .i64 0, .int .i64 0, .int .i64 0, .int .i64 0, .slice none 0 0] 26 (0, 0)) := by
    have e := heap_alloc_new (w.alloc (.cells #[.int .i64 0, .bool false, .int .i64 0, .int .i64 0, .int .i64 0, .int .i64 0, .slice none 0 0] 26)) (.cells #[.int .i64 (y : Int), .bool S, .int .i64 0, .int .i64 0, .int .i64 0, .int .i64 0, .slice none 0 0] 26)
    rw [World.size_alloc] at e
    exact e
  generalize ((w.alloc (.cells #[.int .i64 0, .bool false, .int .i64 0, .int .i64 0, .int .i64 0, .int .i64 0, .slice none 0 0] 26)).alloc (.cells #[.int .i64 (y : Int), .bool S, .int .i64 0, .int .i64 0, .int .i64 0, .int .i64 0, .slice none 0 0] 26)).drew = W0 at *
  obtain ⟨r, hr⟩ : ∃ r, r = w.heap.size := ⟨_, rfl⟩
  rw [← hr] at hhr hhf ⊢
  have hrw : w.heap.size ≤ r := Nat.le_of_eq hr.symm
  clear hr hc0' han hsg
  have cF : ∀ i v, (#[.int .i64 (y : Int), .bool S, .int .i64 0, .int .i64 0, .int .i64 0, .int .i64 0, .slice none 0 0] : Array Value)[i]? = some v → W0.cell? ⟨r + 1, i, none⟩ = some v := fun i v h => (cell_of_row W0 (r + 1) i _ _ _ hhf).trans h
  have cR : ∀ i v, (#[.int .i64 0, .bool false, .int .i64 0, .int .i64 0, .int .i64 0, .int .i64 0, .slice none 0 0] : Array Value)[i]? = some v → W0.cell? ⟨r, i, none⟩ = some v := fun i v h => (cell_of_row W0 r i _ _ _ hhr).trans h
  have f0 := cF 0 _ rfl; have f1 := cF 1 _ rfl; have f2 := cF 2 _ rfl; have f3 := cF 3 _ rfl; have f4 := cF 4 _ rfl; have f5 := cF 5 _ rfl; have f6 := cF 6 _ rfl
  have r0 := cR 0 _ rfl; have r1 := cR 1 _ rfl; have r2 := cR 2 _ rfl; have r3 := cR 3 _ rfl; have r4 := cR 4 _ rfl; have r5 := cR 5 _ rfl; have r6 := cR 6 _ rfl
  have zF := fun i => frozen_of_row W0 (r + 1) i _ _ hhf
  have zR := fun i => frozen_of_row W0 r i _ _ hhr
  have g2 := zF 2; have g3 := zF 3; have g4 := zF 4; have g5 := zF 5
  have q0 := zR 0; have q1 := zR 1; have q2 := zR 2; have q3 := zR 3; have q4 := zR 4; have q5 := zR 5; have q6 := zR 6
  clear cF cR zF zR hhr hhf
  have hne : r + 1 ≠ r := by omega
  go_wp2_with fail
  refine (HC1.out _ _ hb0).mono ?_
  rintro e w' ⟨rfl, rfl⟩
  have hb1 := hb0.setCell (p := ⟨r + 1, 2, none⟩) (by show _ ≤ r + 1; omega) (.int .i64 N1)
  go_wp2_with fail
  refine (HC2.out _ _ hb1).mono ?_
  rintro e w' ⟨rfl, rfl⟩
  have hb2 := hb1.setCell (p := ⟨r + 1, 3, none⟩) (by show _ ≤ r + 1; omega) (.int .i64 N2)
  go_wp2_with fail
  refine (HC3.out _ _ hb2).mono ?_
  rintro e w' ⟨rfl, rfl⟩
  have hb3 := hb2.setCell (p := ⟨r + 1, 4, none⟩) (by show _ ≤ r + 1; omega) (.int .i64 N3)
  go_wp2_with fail
  refine (HC4.out _ _ hb3).mono ?_
  rintro e w' ⟨rfl, rfl⟩
  have hb4 := hb3.setCell (p := ⟨r + 1, 5, none⟩) (by show _ ≤ r + 1; omega) (.int .i64 N4)
  have hb5 := ((((((hb4.setCell (p := ⟨r, 0, none⟩) hrw (.int .i64 (y : Int))).setCell (p := ⟨r, 1, none⟩) hrw (.bool S)).setCell (p := ⟨r, 2, none⟩) hrw (.int .i64 N1)).setCell (p := ⟨r, 3, none⟩) hrw (.int .i64 N2)).setCell (p := ⟨r, 4, none⟩) hrw (.int .i64 N3)).setCell (p := ⟨r, 5, none⟩) hrw (.int .i64 N4)).setCell (p := ⟨r, 6, none⟩) hrw (.slice none 0 0)
  have HB5 := Lib.hid hb5; clear hb0 hb1 hb2 hb3 hb4 hb5
  go_wp2_with fail
  refine bodyPost_ret (v := .agg #[.int .i64 (y : Int), .bool S, .int .i64 N1, .int .i64 N2, .int .i64 N3, .int .i64 N4, .slice none 0 0]) ?_ rfl ⟨rfl, HB5.out⟩
  simp [results, Try.results89, go_sem, r0, r1, r2, r3, r4, r5, r6]
end Go.Proofs.Ytigooekimkkhaaa.P5
namespace Go.Proofs.Ytigooekimkkhaaa.P5
open Go.RowKit Go.Proofs.Ytigooekimkkhaaa.Mem Go.Proofs.Ytigooekimkkhaaa.M3p Go.Proofs.Ytigooekimkkhaaa.C4p Go.Proofs.Ytigooekimkkhaaa.C4l Go.Proofs.Ytigooekimkkhaaa.C4v Go.Proofs.Ytigooekimkkhaaa.P4 Go.Proofs.Ytigooekimkkhaaa.D5
set_option maxRecDepth 100000
set_option maxHeartbeats 1000000

theorem pts_snoc : ∀ (j : Nat) (l : List UInt8), pts l (j + 1) = pts l j ++ [(l.getD (7 * j) 0, sgn (piece l (7 * j + 1) 6))]
  | 0, l => by simp [pts]
  | j + 1, l => by
    have := pts_snoc j (l.drop 7)
    have e1 : (l.drop 7).getD (7 * j) 0 = l.getD (7 * (j + 1)) 0 := by
      rw [List.getD_eq_getElem?_getD, List.getD_eq_getElem?_getD, List.getElem?_drop, show 7 + 7 * j = 7 * (j + 1) by omega]
    have e2 : piece (l.drop 7) (7 * j + 1) 6 = piece l (7 * (j + 1) + 1) 6 := by
      unfold piece
      rw [List.drop_drop, show 7 + (7 * j + 1) = 7 * (j + 1) + 1 by omega]
    rw [pts, this, e1, e2, pts, List.cons_append]
theorem pts_len : ∀ (j : Nat) (l : List UInt8), (pts l j).length = j
  | 0, _ => rfl
  | j + 1, l => by rw [pts, List.length_cons, pts_len]
/-- What reading a table leaves. -/
def TabRead (w : World) (l : List UInt8) (e : Ending) (w' : World) : Prop := ∃ A n c, e = .returned (.agg #[.int .i64 5, .bool (decide (128 ≤ u8 l 0)), .int .i64 0, .int .i64 0, .int .i64 0, .int .i64 0, .slice A n c]) ∧
  POwn w.heap.size w' (.slice A n c) (pts (l.drop 2) (u8 l 1)) ∧ Below w.heap.size w w'
theorem read_tab (a : Addr) (n c : Nat) (l : List UInt8) (w : World) (hsl : Sl w (some a) n c l) (hf : u8 l 0 % 128 = 5) (hk2 : u8 l 1 ≤ 12) (hn : n = 2 + 7 * u8 l 1) (hk1 : 2 ≤ u8 l 1) :
    Calls Try.prog 89 #[.slice (some a) n c] w (TabRead w l) := by
  have hln := hsl.len
  have hrow := hsl.row
  have hcp := hsl.cap
  have hmx := hsl.max
  unfold maxLen at hmx
  have hl0 : 0 < l.length := by omega
  obtain ⟨a', ha', hab, hc0⟩ := row_at hrow hl0
  injection ha' with ha'
  subst ha'
  have hc0' : w.cell? a = some (.int .u8 (l[0].toNat : Int)) := hc0
  have hx8 := l[0].toNat_lt
  unfold TabRead
  rw [u8_at hl0] at hf ⊢
  obtain ⟨x, hx⟩ : ∃ x, l[0].toNat = x := ⟨_, rfl⟩
  rw [hx] at hc0' hx8 hf ⊢
  have han := andnot_128 x hx8
  have hsg := and_128' x hx8
  rw [hf] at han
  obtain ⟨S, hS⟩ : ∃ S, decide (128 ≤ x) = S := ⟨_, rfl⟩
  rw [hS] at hsg ⊢
  obtain ⟨k, hk⟩ : ∃ k, k = u8 l 1 := ⟨_, rfl⟩
  rw [← hk] at hn hk1 hk2 ⊢
  have HLN := Lib.hid hln
  have HN := Lib.hid hn
  have b1 : (2 : Int) ≤ (n : Int) := by omega
  have b2 : (n : Int) ≤ (c : Int) := by omega
  have b3 : ¬ (c = 2) := by omega
  clear hln hc0 hx hf hS hk hn hsl
  go_enter Try.func89, Try.ntmps89
  go_wp2_with fail
  go_region
  go_wp2_with fail
  have hb0 : Below w.heap.size w (((w.alloc (.cells #[.int .i64 0, .bool false, .int .i64 0, .int .i64 0, .int .i64 0, .int .i64 0, .slice none 0 0] 26)).alloc (.cells #[.int .i64 5, .bool S, .int .i64 0, .int .i64 0, .int .i64 0, .int .i64 0, .slice none 0 0] 26)).drew) := by
    have h := ((Below.refl w.heap.size w).alloc (Nat.le_refl _) (.cells #[.int .i64 0, .bool false, .int .i64 0, .int .i64 0, .int .i64 0, .int .i64 0, .slice none 0 0] 26)).alloc (by simp) (.cells #[.int .i64 5, .bool S, .int .i64 0, .int .i64 0, .int .i64 0, .int .i64 0, .slice none 0 0] 26)
    exact ⟨h.os, h.tape, h.output, h.size, h.block⟩
  have hhr : (((w.alloc (.cells #[.int .i64 0, .bool false, .int .i64 0, .int .i64 0, .int .i64 0, .int .i64 0, .slice none 0 0] 26)).alloc (.cells #[.int .i64 5, .bool S, .int .i64 0, .int .i64 0, .int .i64 0, .int .i64 0, .slice none 0 0] 26)).drew).heap[w.heap.size]? = some (.cells #[.int .i64 0, .bool false, .int .i64 0, .int .i64 0, .int .i64 0, .int .i64 0, .slice none 0 0] 26 (0, 0)) := (Below.heap_alloc _ _ _ (by rw [World.size_alloc]; omega)).trans (heap_alloc_new w _)
  have hhf : (((w.alloc (.cells #[.int .i64 0, .bool false, .int .i64 0, .int .i64 0, .int .i64 0, .int .i64 0, .slice none 0 0] 26)).alloc (.cells #[.int .i64 5, .bool S, .int .i64 0, .int .i64 0, .int .i64 0, .int .i64 0, .slice none 0 0] 26)).drew).heap[w.heap.size + 1]? = some (.cells #[.int .i64 5, .bool S, .int .i64 0, .int .i64 0, .int .i64 0, .int .i64 0, .slice none 0 0] 26 (0, 0)) := by
    have e := heap_alloc_new (w.alloc (.cells #[.int .i64 0, .bool false, .int .i64 0, .int .i64 0, .int .i64 0, .int .i64 0, .slice none 0 0] 26)) (.cells #[.int .i64 5, .bool S, .int .i64 0, .int .i64 0, .int .i64 0, .int .i64 0, .slice none 0 0] 26)
    rw [World.size_alloc] at e
    exact e
  generalize ((w.alloc (.cells #[.int .i64 0, .bool false, .int .i64 0, .int .i64 0, .int .i64 0, .int .i64 0, .slice none 0 0] 26)).alloc (.cells #[.int .i64 5, .bool S, .int .i64 0, .int .i64 0, .int .i64 0, .int .i64 0, .slice none 0 0] 26)).drew = W0 at *
  obtain ⟨r, hr⟩ : ∃ r, r = w.heap.size := ⟨_, rfl⟩
  rw [← hr] at hhr hhf ⊢
  have hrw : w.heap.size ≤ r := Nat.le_of_eq hr.symm
  have hrw2 : r ≤ w.heap.size := Nat.le_of_eq hr
  clear hr hc0' han hsg
  go_loopw [0] (fun u wr => ∃ (j m : Nat) (A : Option Addr) (c' : Nat) (v : Value), j ≤ k ∧ m = 7 * (k - j) ∧ u = .slice A m c' ∧ m ≤ c' ∧ (j < k → A = some ⟨a.block, a.off + 2 + 7 * j, none⟩) ∧
      wr.heap[r]? = some (.cells #[.int .i64 0, .bool false, .int .i64 0, .int .i64 0, .int .i64 0, .int .i64 0, .slice none 0 0] 26 (0, 0)) ∧ wr.heap[r + 1]? = some (.cells #[.int .i64 5, .bool S, .int .i64 0, .int .i64 0, .int .i64 0, .int .i64 0, v] 26 (0, 0)) ∧ POwn (r + 2) wr v (pts (l.drop 2) j) ∧ Below w.heap.size w wr) (fun u _ => match u with | .slice _ m _ => m | _ => 0)
  case atStart => exact ⟨0, n - 2, some ⟨a.block, a.off + 2, none⟩, c - 2, .slice none 0 0, Nat.zero_le _, by have := HN.out; omega, rfl, by have := HN.out; omega, fun _ => rfl, hhr, hhf, POwn.nil, hb0⟩
  case round =>
    clear hhr hhf hb0 b1 b2 b3
    obtain ⟨j, m, A, c', v, hj, hm, rfl, hc', hA, hhr, hhf, hown, hb⟩ := hrel
    by_cases hlt : j < k
    · obtain rfl := hA hlt
      have hm7 : 7 ≤ m := by omega
      have HM := Lib.hid hm; clear hm
      have hyl : 2 + 7 * j < l.length := by have := HLN.out; have := HN.out; omega
      obtain ⟨a', ha', _, hcy⟩ := row_at hrow hyl
      injection ha' with ha'
      subst ha'
      have hcy1 : w.cell? ⟨a.block, a.off + 2 + 7 * j, none⟩ = some (.int .u8 (l[2 + 7 * j].toNat : Int)) := by
        have he : a.add (2 + 7 * j) = ⟨a.block, a.off + 2 + 7 * j, none⟩ := by unfold Addr.add; rw [if_neg (by omega), Nat.add_assoc]
        rw [he] at hcy
        exact hcy
      have hcy2 := (hb.cell (p := ⟨a.block, a.off + 2 + 7 * j, none⟩) hab).trans hcy1
      have hps := pts_snoc j (l.drop 2)
      have hgd : (l.drop 2).getD (7 * j) 0 = l[2 + 7 * j] := by
        rw [List.getD_eq_getElem?_getD, List.getElem?_drop, List.getElem?_eq_getElem hyl]; rfl
      have hpc : piece (l.drop 2) (7 * j + 1) 6 = piece l (3 + 7 * j) 6 := by unfold piece; rw [List.drop_drop, show 2 + (7 * j + 1) = 3 + 7 * j by omega]
      rw [hgd, hpc] at hps
      have hrk := (piece_row hrow (3 + 7 * j) 6 (by have := HLN.out; have := HN.out; omega)).below hb
      have he3 : a.add (3 + 7 * j) = ⟨a.block, a.off + 2 + 7 * j + 1, none⟩ := by unfold Addr.add; rw [if_neg (by omega)]; congr 1; omega
      rw [he3] at hrk
      have hnq := fun c2 => number_q (some ⟨a.block, a.off + 2 + 7 * j + 1, none⟩) 6 c2 (piece l (3 + 7 * j) 6) w.heap.size wr.drew hrk (by simp [piece]; have := HLN.out; have := HN.out; omega) (by omega) (by omega)
      generalize l[2 + 7 * j] = y at *
      generalize sgn (piece l (3 + 7 * j) 6) = V at *
      have HPS := Lib.hid hps; have HNQ := Lib.hid hnq
      clear hps hgd hpc hrk he3 hnq hcy hcy1
      have hpl := pts_len j (l.drop 2)
      have hpl2 : (pts (l.drop 2) j).length ≤ 12 := by omega
      have hlf := lt_of_some hhf
      have hlr := lt_of_some hhr
      have hob : ∀ b, Value.ownBlock v = some b → r + 2 ≤ b := fun b hb => (World.ownsRow.lt hown b hb).1
      have k0 : wr.cell? ⟨r + 1, 6, none⟩ = some v := (cell_of_row wr (r + 1) 6 _ _ _ hhf).trans rfl
      have k0d : wr.drew.cell? ⟨r + 1, 6, none⟩ = some v := k0
      have hownd : POwn (r + 2) wr.drew v (pts (l.drop 2) j) := World.ownsRow.drew hown
      have HFD := Lib.hid hhf; have HRD := Lib.hid hhr
      generalize pts (l.drop 2) j = p at *
      clear hpl hhf hhr hown
      have b1 : (0 : Int) < (m : Int) := by omega
      have b4 : (1 : Int) ≤ (c' : Int) := by omega
      have b5 : (7 : Int) ≤ (c' : Int) := by omega
      have b6 : ¬ (c' = 1) := by omega
      have b7 : (7 : Int) ≤ (m : Int) := by omega
      go_wp2_with fail
      go_region_law (first
        | (go_simp; go_at_call 90; (with_reducible refine (HNQ.out _).mono ?_); rintro e w' ⟨rfl, rfl⟩)
        | (go_loud (refine step_append_p (wr.drew.alloc (.cells #[.int .u8 (y.toNat : Int), .int .i64 V] 90)) rfl (.tmp 26) (.tmp 34) rfl (r + 2) v p rfl (World.ownsRow.alloc hownd _) y V ⟨wr.drew.heap.size, 0, none⟩ 1 rfl (cell_of_row _ wr.drew.heap.size 0 _ _ _ (heap_alloc_new wr.drew _)) (cell_of_row _ wr.drew.heap.size 1 _ _ _ (heap_alloc_new wr.drew _)) (by omega) (by rw [World.size_alloc]; show r + 2 ≤ wr.heap.size + 1; omega) ?_); intro v9 w9 hown9 hg9; obtain ⟨A9, n9, c9, rfl, -⟩ := hown9.sl; have hF9 := (hg9.block (r + 1) (by rw [World.size_alloc]; show r + 1 < wr.heap.size + 1; omega) (fun e => (by have := hob _ e.symm; omega))).trans (((World.grownBy_alloc wr.drew (.cells #[.int .u8 (y.toNat : Int), .int .i64 V] 90) (none : Option Nat)).block (r + 1) hlf (by simp)).trans HFD.out); have hR9 := (hg9.block r (by rw [World.size_alloc]; show r < wr.heap.size + 1; omega) (fun e => (by have := hob _ e.symm; omega))).trans (((World.grownBy_alloc wr.drew (.cells #[.int .u8 (y.toNat : Int), .int .i64 V] 90) (none : Option Nat)).block r hlr (by simp)).trans HRD.out); have k9 : w9.cell? ⟨r + 1, 6, none⟩ = some v := (cell_of_row w9 (r + 1) 6 _ _ _ hF9).trans rfl; have f9 := frozen_of_row w9 (r + 1) 6 _ _ hF9))
      all_goals
        have hs5 := heap_setCell_same w9 (r + 1) 6 _ _ (.slice A9 n9 c9) hF9
        rw [set6] at hs5
        have hr5 := (heap_setCell_other w9 ⟨r + 1, 6, none⟩ r (.slice A9 n9 c9) (by show r ≠ r + 1; omega)).trans hR9
        have ho5 : POwn (r + 2) (w9.setCell ⟨r + 1, 6, none⟩ (.slice A9 n9 c9)) (.slice A9 n9 c9) (pts (l.drop 2) (j + 1)) := by rw [HPS.out]; exact pown_kept hown9 (set_grown w9 (r + 1) 6 _) (by omega)
        have hbd : Below w.heap.size w wr.drew := ⟨hb.os, hb.tape, hb.output, hb.size, hb.block⟩
        have hb5 := ((hbd.alloc hb.size (.cells #[.int .u8 (y.toNat : Int), .int .i64 V] 90)).grown hg9 (by rw [World.size_alloc]; show _ ≤ wr.heap.size + 1; omega) (fun q hq => by have := hob q hq; omega)).setCell (p := ⟨r + 1, 6, none⟩) (by show _ ≤ r + 1; omega) (.slice A9 n9 c9)
        generalize w9.setCell ⟨r + 1, 6, none⟩ (.slice A9 n9 c9) = wa at *
        clear k9 f9 hF9 hR9 hg9 hown9 hbd HFD HRD
        by_cases h7 : c' = 7
        · have HH7 := Lib.hid h7
          subst h7
          have hm0 : m = 7 := by omega
          subst hm0
          go_wp2_with fail
          exact ⟨⟨j + 1, 0, _, 0, _, by omega, by have := HM.out; omega, rfl, Nat.le_refl _, fun hj2 => by have := HM.out; omega, hr5, hs5, ho5, hb5⟩, by show 0 < 7; omega⟩
        · go_wp2_with fail
          exact ⟨⟨j + 1, m - 7, _, c' - 7, _, by omega, by have := HM.out; omega, rfl, by omega, fun _ => by rw [show a.off + 2 + 7 * (j + 1) = a.off + 2 + 7 * j + 7 by omega], hr5, hs5, ho5, hb5⟩, by show m - 7 < m; omega⟩
    · have hjk : j = k := by omega
      have hm0 : m = 0 := by omega
      subst hm0
      obtain ⟨A9, n9, c9, rfl, hps⟩ := hown.sl
      have cF : ∀ i v', (#[.int .i64 5, .bool S, .int .i64 0, .int .i64 0, .int .i64 0, .int .i64 0, .slice A9 n9 c9] : Array Value)[i]? = some v' → wr.cell? ⟨r + 1, i, none⟩ = some v' := fun i v h => (cell_of_row wr (r + 1) i _ _ _ hhf).trans h
      have cR : ∀ i v', (#[.int .i64 0, .bool false, .int .i64 0, .int .i64 0, .int .i64 0, .int .i64 0, .slice none 0 0] : Array Value)[i]? = some v' → wr.cell? ⟨r, i, none⟩ = some v' := fun i v h => (cell_of_row wr r i _ _ _ hhr).trans h
      have f0 := cF 0 _ rfl; have f1 := cF 1 _ rfl; have f2 := cF 2 _ rfl; have f3 := cF 3 _ rfl; have f4 := cF 4 _ rfl; have f5 := cF 5 _ rfl; have f6 := cF 6 _ rfl
      have r0 := cR 0 _ rfl; have r1 := cR 1 _ rfl; have r2 := cR 2 _ rfl; have r3 := cR 3 _ rfl; have r4 := cR 4 _ rfl; have r5 := cR 5 _ rfl; have r6 := cR 6 _ rfl
      have zR := fun i => frozen_of_row wr r i _ _ hhr
      have q0 := zR 0; have q1 := zR 1; have q2 := zR 2; have q3 := zR 3; have q4 := zR 4; have q5 := zR 5; have q6 := zR 6
      have HJ := Lib.hid hjk; have HPS := Lib.hid hps; have HOWN := Lib.hid hown
      have hb7 := ((((((hb.setCell (p := ⟨r, 0, none⟩) hrw (.int .i64 5)).setCell (p := ⟨r, 1, none⟩) hrw (.bool S)).setCell (p := ⟨r, 2, none⟩) hrw (.int .i64 0)).setCell (p := ⟨r, 3, none⟩) hrw (.int .i64 0)).setCell (p := ⟨r, 4, none⟩) hrw (.int .i64 0)).setCell (p := ⟨r, 5, none⟩) hrw (.int .i64 0)).setCell (p := ⟨r, 6, none⟩) hrw (.slice A9 n9 c9)
      have HB7 := Lib.hid hb7
      have ho7 := pown_out7 hown (r := r) (by omega) (.int .i64 5) (.bool S) (.int .i64 0) (.int .i64 0) (.int .i64 0) (.int .i64 0) (.slice A9 n9 c9)
      have HO7 := Lib.hid ho7
      clear cF cR zR hhr hhf hjk hps hown hb hb7 ho7 hm hA hc'
      go_wp2_with fail
      refine bodyPost_ret (v := .agg #[.int .i64 5, .bool S, .int .i64 0, .int .i64 0, .int .i64 0, .int .i64 0, .slice A9 n9 c9]) ?_ rfl ⟨A9, n9, c9, rfl, HJ.out ▸ pown_base HO7.out (by omega), HB7.out⟩
      simp [results, Try.results89, go_sem, r0, r1, r2, r3, r4, r5, r6]
end Go.Proofs.Ytigooekimkkhaaa.P5
namespace Go.Proofs.Ytigooekimkkhaaa.P5
open Go.RowKit Go.Proofs.Ytigooekimkkhaaa.Mem Go.Proofs.Ytigooekimkkhaaa.M3p Go.Proofs.Ytigooekimkkhaaa.C4p Go.Proofs.Ytigooekimkkhaaa.C4l Go.Proofs.Ytigooekimkkhaaa.C4v Go.Proofs.Ytigooekimkkhaaa.P4 Go.Proofs.Ytigooekimkkhaaa.D5
set_option maxRecDepth 100000
set_option maxHeartbeats 1000000

theorem u8_take {l : List UInt8} {n i : Nat} (h : i < n) : u8 (l.take n) i = u8 l i := by
  unfold u8
  rw [List.getD_eq_getElem?_getD, List.getD_eq_getElem?_getD, List.getElem?_take, if_pos h]
theorem piece_take {l : List UInt8} {n a m : Nat} (h : a + m ≤ n) : piece (l.take n) a m = piece l a m := by
  unfold piece
  rw [List.drop_take, List.take_take, Nat.min_eq_left (by omega)]
theorem pts_take : ∀ (k : Nat) (l : List UInt8) (n : Nat), 7 * k ≤ n → pts (l.take n) k = pts l k
  | 0, _, _, _ => rfl
  | k + 1, l, n, h => by
    have h1 : (l.take n).getD 0 0 = l.getD 0 0 := by
      rw [List.getD_eq_getElem?_getD, List.getD_eq_getElem?_getD, List.getElem?_take, if_pos (by omega)]
    have h2 : piece (l.take n) 1 6 = piece l 1 6 := piece_take (by omega)
    have h3 : (l.take n).drop 7 = (l.drop 7).take (n - 7) := List.drop_take
    rw [pts, pts, h1, h2, h3, pts_take k (l.drop 7) (n - 7) (by omega)]
/-- What Decode leaves. -/
def Dcd (w : World) (l : List UInt8) (e : Ending) (w' : World) : Prop := ∃ A n c, e = .returned (.tuple #[.agg #[.int .i64 (dec l).1.f, .bool (dec l).1.s, .int .i64 (dec l).1.m, .int .i64 (dec l).1.b, .int .i64 (dec l).1.k1, .int .i64 (dec l).1.k2, .slice A n c], .int .i64 (dec l).2.1, .int .i64 (dec l).2.2]) ∧
  PSl w' A n c (dec l).1.p ∧ Below w.heap.size w w'
/-- What Decode answers, by the size first. -/
theorem dec_bad {l : List UInt8} (h : (esz l).2 ≠ 0) : dec l = (noCv, 0, (esz l).2) := by
  unfold esz at h ⊢
  unfold dec
  split
  · rfl
  · rename_i h0
    rw [if_neg h0] at h
    split
    · rfl
    · rename_i h1
      rw [if_neg h1] at h
      split
      · rename_i h2
        rw [if_pos h2] at h
        split
        · rfl
        · rename_i h3
          rw [if_neg h3] at h
          split
          · rfl
          · rename_i h4
            rw [if_neg h4] at h
            exact absurd rfl h
      · rename_i h2
        rw [if_neg h2] at h
        exact absurd rfl h
/-- What is read, valid or not. -/
def rd (l : List UInt8) : Cv := if u8 l 0 % 128 = 5 then ⟨5, decide (128 ≤ u8 l 0), 0, 0, 0, 0, pts (l.drop 2) (u8 l 1)⟩
  else ⟨(u8 l 0 % 128 : Nat), decide (128 ≤ u8 l 0), sgn (piece l 1 2), sgn (piece l 3 2), sgn (piece l 5 1), sgn (piece l 6 1), []⟩
theorem esz_good {l : List UInt8} (h : (esz l).2 = 0) : l ≠ [] ∧ ((u8 l 0 % 128 = 5 ∧ 2 ≤ u8 l 1 ∧ u8 l 1 ≤ 12 ∧ 2 ≤ l.length ∧ (esz l).1 = ((2 + 7 * u8 l 1 : Nat) : Int)) ∨ (u8 l 0 % 128 ≠ 5 ∧ (esz l).1 = 7)) ∧
    (¬ (u8 l 0 % 128 < 1 ∨ 5 < u8 l 0 % 128)) := by
  unfold esz at h ⊢
  split at h
  · simp at h
  · rename_i h0
    rw [if_neg h0]
    split at h
    · simp at h
    · rename_i h1
      rw [if_neg h1]
      split at h
      · rename_i h2
        rw [if_pos h2]
        split at h
        · simp at h
        · rename_i h3
          rw [if_neg h3]
          split at h
          · simp at h
          · rename_i h4
            rw [if_neg h4]
            exact ⟨h0, .inl ⟨h2, by omega, by omega, by omega, rfl⟩, h1⟩
      · rename_i h2
        rw [if_neg h2]
        exact ⟨h0, .inr ⟨h2, rfl⟩, h1⟩
theorem dec_good {l : List UInt8} (h : (esz l).2 = 0) : dec l = if (l.length : Int) < (esz l).1 then (noCv, 0, 4) else dfin (rd l) (esz l).1 := by
  obtain ⟨h0, h1, h2⟩ := esz_good h
  unfold dec rd
  rw [if_neg h0, if_neg h2]
  rcases h1 with ⟨h3, h4, h5, h6, h7⟩ | ⟨h3, h7⟩
  · rw [if_pos h3, if_pos h3, if_neg (by omega), if_neg (by omega), h7]
    by_cases h8 : l.length < 2 + 7 * u8 l 1
    · rw [if_pos h8, if_pos (by omega)]
    · rw [if_neg h8, if_neg (by omega)]
      congr 1
  · rw [if_neg h3, if_neg h3, h7]
    by_cases h8 : l.length < 7
    · rw [if_pos h8, if_pos (by omega)]
    · rw [if_neg h8, if_neg (by omega)]
theorem read_any (a : Addr) (n c : Nat) (l : List UInt8) (w : World) (hsl : Sl w (some a) n c (l.take n)) (h : (esz l).2 = 0) (hn : (esz l).1 = (n : Int)) :
    Calls Try.prog 89 #[.slice (some a) n c] w fun e w' => ∃ A m q, e = .returned (.agg #[.int .i64 (rd l).f, .bool (rd l).s, .int .i64 (rd l).m, .int .i64 (rd l).b, .int .i64 (rd l).k1, .int .i64 (rd l).k2, .slice A m q]) ∧ POwn w.heap.size w' (.slice A m q) (rd l).p ∧ Below w.heap.size w w' := by
  obtain ⟨h0, h1, h2⟩ := esz_good h
  rcases h1 with ⟨h3, h4, h5, h6, h7⟩ | ⟨h3, h7⟩
  · have hn2 : n = 2 + 7 * u8 l 1 := by omega
    have e0 : u8 (l.take n) 0 = u8 l 0 := u8_take (by omega)
    have e1 : u8 (l.take n) 1 = u8 l 1 := u8_take (by omega)
    refine (read_tab a n c (l.take n) w hsl (by rw [e0]; exact h3) (by rw [e1]; exact h5) (by rw [e1]; exact hn2) (by rw [e1]; exact h4)).mono ?_
    rintro e w' ⟨A, m, q, rfl, hp, hb⟩
    rw [e0]
    rw [e1, List.drop_take, pts_take _ _ _ (by omega)] at hp
    unfold rd
    rw [if_pos h3]
    exact ⟨A, m, q, rfl, hp, hb⟩
  · have hn2 : n = 7 := by omega
    have e0 : u8 (l.take n) 0 = u8 l 0 := u8_take (by omega)
    refine (read_lin a n c (l.take n) w hsl hn2 (by rw [e0]; exact h3)).mono ?_
    rintro e w' ⟨rfl, hb⟩
    rw [e0, piece_take (by omega), piece_take (by omega), piece_take (by omega), piece_take (by omega)]
    unfold rd
    rw [if_neg h3]
    exact ⟨none, 0, 0, rfl, POwn.nil, hb⟩
theorem pown_keep {base B : Nat} {w w' : World} {v : Value} {p : List Pt} (h : POwn base w v p) (hb : Below B w w') (hB : w.heap.size ≤ B) : POwn base w' v p := by
  refine ⟨h.1, ?_⟩
  rcases h.2 with h1 | ⟨g, cap, cur, h1, h2, h3, h4⟩
  · exact .inl h1
  · exact .inr ⟨g, cap, cur, h1, h2, (hb.block g (Nat.lt_of_lt_of_le (lt_of_some h3) hB)).trans h3, h4⟩
theorem dec_p (A : Option Addr) (n c : Nat) (l : List UInt8) (w : World) (hsl : Sl w A n c l) (hn : n ≤ 1000000) :
    Calls Try.prog 84 #[.slice A n c] w (Dcd w l) := by
  have hb0 : Below w.heap.size w (w.alloc (.cells #[.int .i64 0, .bool false, .int .i64 0, .int .i64 0, .int .i64 0, .int .i64 0, .slice none 0 0] 26)) := (Below.refl _ _).alloc (Nat.le_refl _) _
  have hhr : (w.alloc (.cells #[.int .i64 0, .bool false, .int .i64 0, .int .i64 0, .int .i64 0, .int .i64 0, .slice none 0 0] 26)).heap[w.heap.size]? = some (.cells #[.int .i64 0, .bool false, .int .i64 0, .int .i64 0, .int .i64 0, .int .i64 0, .slice none 0 0] 26 (0, 0)) := heap_alloc_new w _
  have hs1 := hsl.step hb0
  have hE := esize_p A n c l _ hs1 hn
  by_cases h0 : (esz l).2 = 0
  · obtain ⟨hl0, -, -⟩ := esz_good h0
    have hg := dec_good h0
    obtain ⟨⟨E1, E2⟩, hE12⟩ : ∃ E, E = esz l := ⟨_, rfl⟩
    have hE12' := hE12
    rw [← hE12] at hE h0 hg
    dsimp only at hE h0 hg
    subst h0
    have HE := Lib.hid hE
    have hbE : 7 ≤ E1 ∧ E1 ≤ 86 := by
      obtain ⟨-, h1, -⟩ := esz_good (l := l) (by rw [← hE12])
      rw [← hE12] at h1
      dsimp only at h1
      omega
    have hln := hsl.len
    by_cases hlt : (l.length : Int) < E1
    · rw [if_pos hlt] at hg
      have HD := Lib.hid hg
      have hlt2 : (n : Int) < E1 := by omega
      clear hE hg hE12 hE12' hsl hs1 hln hlt
      go_enter Try.func84, Try.ntmps84
      go_wp2_with fail
      refine HE.out.mono ?_
      rintro e w' ⟨rfl, rfl⟩
      go_wp2_with fail
      have cR : ∀ i v', (#[.int .i64 0, .bool false, .int .i64 0, .int .i64 0, .int .i64 0, .int .i64 0, .slice none 0 0] : Array Value)[i]? = some v' → (w.alloc (.cells #[.int .i64 0, .bool false, .int .i64 0, .int .i64 0, .int .i64 0, .int .i64 0, .slice none 0 0] 26)).cell? ⟨w.heap.size, i, none⟩ = some v' := fun i v h => (cell_of_row _ w.heap.size i _ _ _ hhr).trans h
      have r0 := cR 0 _ rfl; have r1 := cR 1 _ rfl; have r2 := cR 2 _ rfl; have r3 := cR 3 _ rfl; have r4 := cR 4 _ rfl; have r5 := cR 5 _ rfl; have r6 := cR 6 _ rfl
      unfold Dcd
      rw [HD.out]
      refine bodyPost_ret (v := .tuple #[.agg #[.int .i64 0, .bool false, .int .i64 0, .int .i64 0, .int .i64 0, .int .i64 0, .slice none 0 0], .int .i64 0, .int .i64 4]) ?_ rfl ⟨none, 0, 0, rfl, PSl.none, hb0⟩
      simp [results, Try.results84, go_sem, r0, r1, r2, r3, r4, r5, r6]
    · rw [if_neg hlt] at hg
      obtain ⟨N, rfl⟩ := Int.eq_ofNat_of_zero_le (by omega : 0 ≤ E1)
      have hNn : N ≤ n := by omega
      have hcp := hsl.cap
      obtain ⟨a, rfl⟩ : ∃ a, A = some a := by
        obtain ⟨a, ha, _⟩ := row_at hsl.row (k := 0) (by omega)
        exact ⟨a, ha⟩
      have hsN : Sl (w.alloc (.cells #[.int .i64 0, .bool false, .int .i64 0, .int .i64 0, .int .i64 0, .int .i64 0, .slice none 0 0] 26)) (some a) N c (l.take N) := ⟨by simp; omega, row_take hs1.row N, by omega, hs1.max, fun hh => by cases hh⟩
      have hRD := read_any a N c l _ hsN (by rw [← hE12]) (by rw [← hE12])
      have HR := Lib.hid hRD
      have HD := Lib.hid hg
      have u1 : ¬ ((n : Int) < (N : Int)) := by omega
      have u2 : (0 : Int) ≤ (N : Int) := by omega
      have u3 : (N : Int) ≤ (c : Int) := by omega
      have u4 : (N : Int) ≤ (n : Int) := by omega
      generalize hrd : rd l = C at *
      obtain ⟨f, s, m, b, k1, k2, p⟩ := C
      dsimp only at HR HD
      clear hE hg hE12 hE12' hsl hs1 hln hlt hRD hsN hrd hl0 hbE
      go_enter Try.func84, Try.ntmps84
      go_wp2_with fail
      refine HE.out.mono ?_
      rintro e w' ⟨rfl, rfl⟩
      go_wp2_with fail
      refine HR.out.mono ?_
      rintro e w2 ⟨A2, m2, q2, rfl, ho2, hb2⟩
      have hp2 : PSl w2 A2 m2 q2 p := by
        obtain ⟨A8, n8, c8, hv8, hs8⟩ := ho2.sl
        injection hv8 with e1 e2 e3
        subst e1 e2 e3
        exact hs8
      have ho2' : POwn (w.heap.size + 1) w2 (.slice A2 m2 q2) p := by
        rw [World.size_alloc] at ho2
        exact ho2
      clear ho2
      have hr2 := (hb2.block w.heap.size (by rw [World.size_alloc]; omega)).trans hhr
      have hb02 := hb0.trans (hb2.mono (by rw [World.size_alloc]; omega))
      have hlr2 := lt_of_some hr2
      clear HR HE hb2 hb0 hhr
      have cR : ∀ i v', (#[.int .i64 0, .bool false, .int .i64 0, .int .i64 0, .int .i64 0, .int .i64 0, .slice none 0 0] : Array Value)[i]? = some v' → w2.cell? ⟨w.heap.size, i, none⟩ = some v' := fun i v h => (cell_of_row _ w.heap.size i _ _ _ hr2).trans h
      have r0 := cR 0 _ rfl; have r1 := cR 1 _ rfl; have r2 := cR 2 _ rfl; have r3 := cR 3 _ rfl; have r4 := cR 4 _ rfl; have r5 := cR 5 _ rfl; have r6 := cR 6 _ rfl
      go_wp2_with fail
      have hst : Below w2.heap.size w2 (w2.alloc (.cells #[.int .i64 f, .bool s, .int .i64 m, .int .i64 b, .int .i64 k1, .int .i64 k2, .slice A2 m2 q2] 26)) := (Below.refl _ _).alloc (Nat.le_refl _) _
      have hf3 : (w2.alloc (.cells #[.int .i64 f, .bool s, .int .i64 m, .int .i64 b, .int .i64 k1, .int .i64 k2, .slice A2 m2 q2] 26)).heap[w2.heap.size]? = some (.cells #[.int .i64 f, .bool s, .int .i64 m, .int .i64 b, .int .i64 k1, .int .i64 k2, .slice A2 m2 q2] 26 (0, 0)) := heap_alloc_new w2 _
      have hr3 := (hst.block w.heap.size hlr2).trans hr2
      have hp3 := hp2.step hst
      have hb03 := hb02.trans (hst.mono hb02.size)
      have ho3 := pown_keep ho2' hst (Nat.le_refl _)
      clear ho2'
      have hV := valid_p f m b k1 k2 s A2 m2 q2 p _ hp3
      clear r0 r1 r2 r3 r4 r5 r6 cR hr2 hp2 hb02 hst
      have hlf := lt_of_some hf3
      have hlr3 := lt_of_some hr3
      generalize hw3 : w2.alloc (.cells #[.int .i64 f, .bool s, .int .i64 m, .int .i64 b, .int .i64 k1, .int .i64 k2, .slice A2 m2 q2] 26) = w3 at *
      generalize hF : w2.heap.size = F at *
      have hFr : w.heap.size < F := hlr2
      clear hw3 hF hlr2
      have HV := Lib.hid hV; clear hV
      have hbw := hb03.size
      refine HV.out.mono ?_
      rintro e w4 ⟨rfl, hb4⟩
      have hf4 := (hb4.block F hlf).trans hf3
      have hr4 := (hb4.block w.heap.size hlr3).trans hr3
      have ho4 := pown_keep ho3 hb4 (Nat.le_refl _)
      clear ho3
      have hb04 := hb03.trans (hb4.mono hbw)
      obtain ⟨r, hr⟩ : ∃ r, r = w.heap.size := ⟨_, rfl⟩
      rw [← hr] at hr4 hFr ho4 ⊢
      have hrw : w.heap.size ≤ r := Nat.le_of_eq hr.symm
      clear HV hf3 hr3 hb03 hb4 hlf hlr3 hbw hr
      have cF : ∀ i v', (#[.int .i64 f, .bool s, .int .i64 m, .int .i64 b, .int .i64 k1, .int .i64 k2, .slice A2 m2 q2] : Array Value)[i]? = some v' → w4.cell? ⟨F, i, none⟩ = some v' := fun i v h => (cell_of_row _ F i _ _ _ hf4).trans h
      have cR : ∀ i v', (#[.int .i64 0, .bool false, .int .i64 0, .int .i64 0, .int .i64 0, .int .i64 0, .slice none 0 0] : Array Value)[i]? = some v' → w4.cell? ⟨r, i, none⟩ = some v' := fun i v h => (cell_of_row _ r i _ _ _ hr4).trans h
      have zR := fun i => frozen_of_row w4 r i _ _ hr4
      have f0 := cF 0 _ rfl; have f1 := cF 1 _ rfl; have f2 := cF 2 _ rfl; have f3 := cF 3 _ rfl; have f4 := cF 4 _ rfl; have f5 := cF 5 _ rfl; have f6 := cF 6 _ rfl
      have r0 := cR 0 _ rfl; have r1 := cR 1 _ rfl; have r2 := cR 2 _ rfl; have r3 := cR 3 _ rfl; have r4 := cR 4 _ rfl; have r5 := cR 5 _ rfl; have r6 := cR 6 _ rfl
      have q0 := zR 0; have q1 := zR 1; have q2' := zR 2; have q3 := zR 3; have q4 := zR 4; have q5 := zR 5; have q6 := zR 6
      have HP4 := Lib.hid ho4; have HB4 := Lib.hid hb04; have HR4 := Lib.hid hr4
      clear cF cR zR hf4 ho4 hb04 hr4 hp3
      cases hv : vld ⟨f, s, m, b, k1, k2, p⟩
      · have HVV := Lib.hid hv; clear hv
        have hb7 := ((((((HB4.out.setCell (p := ⟨r, 0, none⟩) hrw (.int .i64 0)).setCell (p := ⟨r, 1, none⟩) hrw (.bool false)).setCell (p := ⟨r, 2, none⟩) hrw (.int .i64 0)).setCell (p := ⟨r, 3, none⟩) hrw (.int .i64 0)).setCell (p := ⟨r, 4, none⟩) hrw (.int .i64 0)).setCell (p := ⟨r, 5, none⟩) hrw (.int .i64 0)).setCell (p := ⟨r, 6, none⟩) hrw (.slice none 0 0)
        have HB7 := Lib.hid hb7; clear hb7
        have e : dec l = (noCv, 0, 1) := by rw [HD.out, dfin, HVV.out]; rfl
        have HE := Lib.hid e; clear e
        go_wp2_with fail
        unfold Dcd
        rw [HE.out]
        refine bodyPost_ret (v := .tuple #[.agg #[.int .i64 0, .bool false, .int .i64 0, .int .i64 0, .int .i64 0, .int .i64 0, .slice none 0 0], .int .i64 0, .int .i64 1]) ?_ rfl ⟨none, 0, 0, rfl, PSl.none, by first | exact HB7.out | exact HB4.out⟩
        simp [results, Try.results84, go_sem, r0, r1, r2, r3, r4, r5, r6]
      · have HVV := Lib.hid hv; clear hv
        have hb7 := ((((((HB4.out.setCell (p := ⟨r, 0, none⟩) hrw (.int .i64 f)).setCell (p := ⟨r, 1, none⟩) hrw (.bool s)).setCell (p := ⟨r, 2, none⟩) hrw (.int .i64 m)).setCell (p := ⟨r, 3, none⟩) hrw (.int .i64 b)).setCell (p := ⟨r, 4, none⟩) hrw (.int .i64 k1)).setCell (p := ⟨r, 5, none⟩) hrw (.int .i64 k2)).setCell (p := ⟨r, 6, none⟩) hrw (.slice A2 m2 q2)
        have HB7 := Lib.hid hb7; clear hb7
        have e : dec l = (⟨f, s, m, b, k1, k2, p⟩, (N : Int), 0) := by rw [HD.out, dfin, HVV.out]; rfl
        have HE := Lib.hid e; clear e
        go_wp2_with fail
        unfold Dcd
        rw [HE.out]
        have ho7 := pown_out7 HP4.out (r := r) (Nat.lt_succ_self _) (.int .i64 f) (.bool s) (.int .i64 m) (.int .i64 b) (.int .i64 k1) (.int .i64 k2) (.slice A2 m2 q2)
        obtain ⟨A8, n8, c8, hv8, hs8⟩ := ho7.sl
        injection hv8 with e1 e2 e3
        subst e1 e2 e3
        refine bodyPost_ret (v := .tuple #[.agg #[.int .i64 f, .bool s, .int .i64 m, .int .i64 b, .int .i64 k1, .int .i64 k2, .slice A2 m2 q2], .int .i64 (N : Int), .int .i64 0]) ?_ rfl ⟨A2, m2, q2, rfl, hs8, HB7.out⟩
        simp [results, Try.results84, go_sem, r0, r1, r2, r3, r4, r5, r6]
  · have hd := dec_bad h0
    obtain ⟨⟨E1, E2⟩, hE12⟩ : ∃ E, E = esz l := ⟨_, rfl⟩
    rw [← hE12] at hE h0 hd
    dsimp only at hE h0 hd
    have HE := Lib.hid hE; have HD := Lib.hid hd
    have hne : (E2 != 0) = true := by rw [bne_iff_ne]; exact h0
    clear hE hd hE12 hsl hs1 h0
    go_enter Try.func84, Try.ntmps84
    go_wp2_with fail
    refine HE.out.mono ?_
    rintro e w' ⟨rfl, rfl⟩
    go_wp2_with fail
    have cR : ∀ i v', (#[.int .i64 0, .bool false, .int .i64 0, .int .i64 0, .int .i64 0, .int .i64 0, .slice none 0 0] : Array Value)[i]? = some v' → (w.alloc (.cells #[.int .i64 0, .bool false, .int .i64 0, .int .i64 0, .int .i64 0, .int .i64 0, .slice none 0 0] 26)).cell? ⟨w.heap.size, i, none⟩ = some v' := fun i v h => (cell_of_row _ w.heap.size i _ _ _ hhr).trans h
    have r0 := cR 0 _ rfl; have r1 := cR 1 _ rfl; have r2 := cR 2 _ rfl; have r3 := cR 3 _ rfl; have r4 := cR 4 _ rfl; have r5 := cR 5 _ rfl; have r6 := cR 6 _ rfl
    unfold Dcd
    rw [HD.out]
    refine bodyPost_ret (v := .tuple #[.agg #[.int .i64 0, .bool false, .int .i64 0, .int .i64 0, .int .i64 0, .int .i64 0, .slice none 0 0], .int .i64 0, .int .i64 E2]) ?_ rfl ⟨none, 0, 0, rfl, PSl.none, hb0⟩
    simp [results, Try.results84, go_sem, r0, r1, r2, r3, r4, r5, r6]
end Go.Proofs.Ytigooekimkkhaaa.P5
