/- Walks: numbers of four bytes, sealing and opening. -/
import Derived.Test.YtafoaonkjcfbaaaK36
namespace Go.Proofs.Ytafoaonkjcfbaaa.Wc
open Go.RowKit Go.Proofs.Ytafoaonkjcfbaaa.Mem Go.Proofs.Ytafoaonkjcfbaaa.Pl Go.Proofs.Ytafoaonkjcfbaaa.Wa Go.Proofs.Ytafoaonkjcfbaaa.Wb
set_option maxRecDepth 100000
set_option maxHeartbeats 400000

/-- The number of little-endian bytes. -/
def num : List UInt8 → Nat
  | [] => 0
  | x :: l => x.toNat + 256 * num l
def lit : Nat → Nat → List UInt8
  | _, 0 => []
  | v, n + 1 => UInt8.ofNat (v % 256) :: lit (v / 256) n
theorem num_lt (l : List UInt8) : num l < 256 ^ l.length := by
  induction l with
  | nil => simp [num]
  | cons x l ih => have := x.toNat_lt; simp only [num, List.length_cons, Nat.pow_succ]; omega
theorem lit_len (v n : Nat) : (lit v n).length = n := by
  induction n generalizing v with
  | zero => rfl
  | succ n ih => simp [lit, ih]
theorem lit_snoc (v n : Nat) : lit v (n + 1) = lit v n ++ [UInt8.ofNat (v / 256 ^ n % 256)] := by
  induction n generalizing v with
  | zero => simp [lit]
  | succ n ih => 
    rw [lit, ih, lit, Nat.div_div_eq_div_mul, List.cons_append, Nat.pow_succ, Nat.mul_comm 256]
theorem num_drop (l : List UInt8) (k : Nat) (h : k < l.length) : num (l.drop k) = 256 * num (l.drop (k + 1)) + l[k].toNat := by
  rw [List.drop_eq_getElem_cons h, num]; omega

theorem number_any (A : Option Addr) (c : Nat) (l : List UInt8) (B : Nat) (w : World) (h : Row B w A l) (hl : l.length ≤ 8) :
    Calls Try.prog 75 #[.slice A l.length c] w fun e w' => e = .returned (.int .u64 (num l)) ∧ w = w' := by
  go_enter Try.func75, Try.ntmps75
  go_wp2
  go_loop [3, 4] (fun v i => ∃ k : Nat, k ≤ l.length ∧ i = .int .i64 ((k : Int) - 1) ∧ v = .int .u64 (num (l.drop k))) (fun _ i => (intOf i + 1).toNat)
  case atStart => exact ⟨l.length, Nat.le_refl _, rfl, by simp [num]⟩
  case round =>
    obtain ⟨k, hk, rfl, rfl⟩ := hrel
    rcases k with _ | k
    · go_wp2
      go_ret
      exact ⟨rfl, rfl⟩
    · obtain ⟨a, rfl, hb, hc⟩ := row_at h (k := k) (by omega)
      have hn := num_drop l k (by omega)
      have hlt := num_lt (l.drop k)
      have hx := l[k].toNat_lt
      have hp : 256 ^ (l.drop k).length ≤ 256 ^ 8 := Nat.pow_le_pow_right (by omega) (by rw [List.length_drop]; omega)
      have hq : 256 * num (l.drop (k + 1)) + l[k].toNat < 18446744073709551616 := by rw [← hn]; exact Nat.lt_of_lt_of_le hlt hp
      have HN := Lib.hid hn; clear hn hlt hp
      go_wp2
      refine ⟨⟨k, by omega, rfl, vi ?_⟩, by simp [intOf]⟩
      rw [HN.out]
      omega

theorem littles_any (v n : Nat) (w : World) (hv : v < 18446744073709551616) (hn : n ≤ 100) :
    Calls Try.prog 67 #[.int .u64 v, .int .i64 n] w fun e w' => ∃ u, e = .returned u ∧ Own w.heap.size w' u (lit v n) ∧ Below w.heap.size w w' := by
  obtain ⟨i0, hi, hz0, hz1, hz2⟩ := info_parts info5
  go_enter Try.func67, Try.ntmps67
  go_wp2
  go_loopw [0, 5, 6] (fun x u i wr => ∃ k : Nat, k ≤ n ∧ i = .int .i64 k ∧ x = .int .u64 ((v / 256 ^ k : Nat) : Int) ∧ Own w.heap.size wr u (lit v k) ∧ Below w.heap.size w wr) (fun _ _ i _ => n - (intOf i).toNat)
  case atStart => exact ⟨0, Nat.zero_le _, rfl, by simp, Own.nil, Below.refl _ _⟩
  case round =>
    obtain ⟨k, hk, rfl, rfl, hown, hbel⟩ := hrel
    have hq : v / 256 ^ k < 18446744073709551616 := Nat.lt_of_le_of_lt (Nat.div_le_self _ _) hv
    by_cases hlt : k < n
    · generalize hy : v / 256 ^ k = y at *
      have HY := Lib.hid hy; clear hy
      go_wp2_with (at_builtin; go_loud (refine wpList_append_rd _ rfl (.tmp 12) (.tmp 16) _ rfl w.heap.size 5 i0 _ 1 Try.underlying60 hi hz0 hz1 hz2 rfl _ (lit v k).length (bvs (lit v k)) rfl (World.ownsRow.alloc hown _) _ _ 1 1 [.int .u8 ((y : Int) % 256)] rfl rfl (Rd.new wr _ _) (fun hh => by cases hh) one_int (by unfold maxLen; rw [lit_len]; omega) (by rw [lit_len]; omega) (by have := hbel.size; simp; omega) ?_); intro v' w1 hown1 hg1)
      have hbel1 : Below w.heap.size w w1 := below_grown (hbel.alloc hbel.size _) (World.ownsRow.alloc hown _) hg1 (by have := hbel.size; simp; omega)
      go_roundw
      case rel => exact ⟨k + 1, by omega, by go_num, vi (by rw [← HY.out, Nat.pow_succ, ← Nat.div_div_eq_div_mul]; omega), own_of hown1 (by simp [lit_len]) (by rw [lit_snoc, HY.out, bvs_app, bv_mod]; rfl), hbel1⟩
      case measure => simp [intOf]; omega
    · obtain rfl : k = n := by omega
      go_wp2
      go_ret
      exact ⟨_, rfl, hown, hbel⟩

theorem own_slice {base n : Nat} {w : World} {v : Value} {l : List UInt8} (h : Own base w v l) (hn : n = l.length) : ∃ A c, v = .slice A n c ∧ n ≤ c ∧ Row w.heap.size w A l ∧ (A = none → c = 0) := by
  subst hn
  obtain ⟨A, c, h1, h2, _, h3, h4⟩ := h.form
  exact ⟨A, c, h1, h2, h3, h4⟩

theorem lit4 (c : Nat) : lit c 4 = [UInt8.ofNat (c % 256), UInt8.ofNat (c / 256 % 256), UInt8.ofNat (c / 65536 % 256), UInt8.ofNat (c / 16777216 % 256)] := by
  simp [lit, Nat.div_div_eq_div_mul]

theorem seal8_any (A : Option Addr) (n c : Nat) (l : List UInt8) (w : World) (hn : n = l.length) (h : Row w.heap.size w A l) (hA : A = none → c = 0) (hb : n ≤ 100000) :
    Calls Try.prog 65 #[.slice A n c] w fun e w' => ∃ v, e = .returned v ∧ Own w.heap.size w' v (l ++ [UInt8.ofNat (sum8 l)]) ∧ Below w.heap.size w w' := by
  subst hn
  go_enter Try.func65, Try.ntmps65
  go_wp2_with fail
  refine (sum8_any A c l _ w h (by unfold maxLen; omega)).mono ?_
  rintro e w' ⟨rfl, rfl⟩
  go_wp2_with fail
  refine (join_any A (some ⟨w.heap.size, 0, none⟩) l.length 1 c 1 l [UInt8.ofNat (sum8 l)] _ rfl rfl ((Rd.alloc h (Nat.le_refl _) _).more (by simp)) (row_new w _ _ _ (by simp only [bvs, List.map_cons, List.map_nil, ← bv_nat (sum8_lt l)]) (by simp)) hA (fun hh => by cases hh) (by omega)).mono ?_
  rintro e w' ⟨v, rfl, ho, hb⟩
  go_wp2_with fail
  go_ret
  exact ⟨v, rfl, ho.base_ (by simp), ((Below.refl _ _).alloc (Nat.le_refl _) _).trans (hb.mono (by simp))⟩
def open8 (l : List UInt8) : Nat × List UInt8 := if l.length = 0 then (4, []) else if sum8 l ≠ 0 then (5, []) else (0, l.take (l.length - 1))
theorem open8_any (A : Option Addr) (n c : Nat) (l : List UInt8) (w : World) (hn : n = l.length) (h : Row w.heap.size w A l) (hc : n ≤ c) (hb : n ≤ 100000) :
    Calls Try.prog 71 #[.slice A n c] w fun e w' => ∃ v, e = .returned (.tuple #[v, .int .i64 ((open8 l).1 : Int)]) ∧ Own w.heap.size w' v (open8 l).2 ∧ Below w.heap.size w w' := by
  subst hn
  by_cases h0 : l.length = 0
  · have hs : open8 l = (4, []) := if_pos h0
    rw [h0, hs]
    go_enter Try.func71, Try.ntmps71
    go_wp2
    go_ret2
    exact ⟨_, rfl, Own.nil, Below.refl _ _⟩
  · obtain ⟨m, hm⟩ : ∃ m, l.length = m + 1 := ⟨l.length - 1, by omega⟩
    have hm2 : m + 1 ≤ 100000 := by omega
    have hc2 : m + 1 ≤ c := by omega
    obtain ⟨a, rfl, -, -⟩ := row_at h (k := 0) (by omega)
    have hcall := sum8_any (some a) c l _ w h (by unfold maxLen; omega)
    have ho : open8 l = if sum8 l ≠ 0 then (5, []) else (0, l.take m) := by unfold open8; rw [if_neg h0, hm, Nat.add_sub_cancel]
    have hlen : m = (l.take m).length := by simp; omega
    have hrt := row_take h m
    rw [hm] at hcall ⊢
    rw [ho]
    by_cases hs0 : sum8 l = 0
    · have hb0 : ((sum8 l : Int) != 0) = false := by rw [hs0]; rfl
      rw [if_neg (by simpa using hs0)]
      have HC := Lib.hid hcall; have HL := Lib.hid hlen; clear hcall hm ho hs0 hlen
      go_enter Try.func71, Try.ntmps71
      go_wp2_with fail
      refine HC.out.mono ?_
      rintro e w' ⟨rfl, rfl⟩
      go_wp2_with fail
      refine (clone_any (some a) m c (l.take m) w HL.out hrt (by omega) (by omega)).mono ?_
      rintro e w' ⟨v, rfl, ho, hb⟩
      go_wp2_with fail
      go_ret2
      exact ⟨v, rfl, ho, hb⟩
    · have hb0 : ((sum8 l : Int) != 0) = true := by simp; omega
      rw [if_pos hs0]
      have HC := Lib.hid hcall; clear hcall hm ho hs0 hlen
      go_enter Try.func71, Try.ntmps71
      go_wp2_with fail
      refine HC.out.mono ?_
      rintro e w' ⟨rfl, rfl⟩
      go_wp2_with fail
      go_ret2
      exact ⟨_, rfl, Own.nil, Below.refl _ _⟩
def opencrc8 (l : List UInt8) : Nat × List UInt8 :=
  if l.length = 0 then (4, []) else if UInt8.ofNat (crc8 (l.take (l.length - 1))) ≠ l.getD (l.length - 1) 0 then (5, []) else (0, l.take (l.length - 1))
def opencrc32 (l : List UInt8) : Nat × List UInt8 :=
  if l.length < 4 then (4, []) else if crc32 (l.take (l.length - 4)) ≠ num (l.drop (l.length - 4)) then (5, []) else (0, l.take (l.length - 4))
theorem four (l : List UInt8) (h : l.length = 4) : ∃ x0 x1 x2 x3, l = [x0, x1, x2, x3] := by
  match l, h with
  | [x0, x1, x2, x3], _ => exact ⟨x0, x1, x2, x3, rfl⟩
end Go.Proofs.Ytafoaonkjcfbaaa.Wc
