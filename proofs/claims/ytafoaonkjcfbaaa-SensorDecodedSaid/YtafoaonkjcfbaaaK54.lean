/- Walks: the reference's little-endian numbers. Walks: the program's sensor records: numbers and sizes that are read. -/
import Derived.Test.YtafoaonkjcfbaaaK06
import Derived.Test.YtafoaonkjcfbaaaK39
import Derived.Deep.RegionHeld3
namespace Go.Proofs.Ytafoaonkjcfbaaa.Ln
open Go.RowKit Go.Proofs.Ytafoaonkjcfbaaa.Mem Go.Proofs.Ytafoaonkjcfbaaa.F2p
set_option maxRecDepth 100000
set_option maxHeartbeats 1000000

theorem num_drop (l : List UInt8) (k : Nat) (h : k < l.length) : F2p.num (l.drop k) = 256 * F2p.num (l.drop (k + 1)) + l[k].toNat := by
  rw [List.drop_eq_getElem_cons h, F2p.num]; omega
theorem number_any (A : Option Addr) (c : Nat) (l : List UInt8) (B : Nat) (w : World) (h : Row B w A l) (hl : l.length ≤ 8) :
    Calls Try.prog 75 #[.slice A l.length c] w fun e w' => e = .returned (.int .u64 (F2p.num l)) ∧ w = w' := by
  go_enter Try.func75, Try.ntmps75
  go_wp2
  go_loop [3, 4] (fun v i => ∃ k : Nat, k ≤ l.length ∧ i = .int .i64 ((k : Int) - 1) ∧ v = .int .u64 (F2p.num (l.drop k))) (fun _ i => (intOf i + 1).toNat)
  case atStart => exact ⟨l.length, Nat.le_refl _, rfl, by simp [F2p.num]⟩
  case round =>
    obtain ⟨k, hk, rfl, rfl⟩ := hrel
    rcases k with _ | k
    · go_wp2
      go_ret
      exact ⟨rfl, rfl⟩
    · obtain ⟨a, rfl, hb, hc⟩ := row_at h (k := k) (by omega)
      have hn := num_drop l k (by omega)
      have hlt := F2p.num_lt (l.drop k)
      have hx := l[k].toNat_lt
      have hp : 256 ^ (l.drop k).length ≤ 256 ^ 8 := Nat.pow_le_pow_right (by omega) (by rw [List.length_drop]; omega)
      have hq : 256 * F2p.num (l.drop (k + 1)) + l[k].toNat < 18446744073709551616 := by rw [← hn]; exact Nat.lt_of_lt_of_le hlt hp
      have HN := Lib.hid hn; clear hn hlt hp
      go_wp2
      refine ⟨⟨k, by omega, rfl, vi ?_⟩, by simp [intOf]⟩
      rw [HN.out]
      omega

theorem littles_any (v n : Nat) (w : World) (hv : v < 18446744073709551616) (hn : n ≤ 100) :
    Calls Try.prog 67 #[.int .u64 v, .int .i64 n] w fun e w' => ∃ u, e = .returned u ∧ Own w.heap.size w' u (F2p.lit v n) ∧ Below w.heap.size w w' := by
  obtain ⟨i0, hi, hz0, hz1, hz2⟩ := info_parts info5
  go_enter Try.func67, Try.ntmps67
  go_wp2
  go_loopw [0, 5, 6] (fun x u i wr => ∃ k : Nat, k ≤ n ∧ i = .int .i64 k ∧ x = .int .u64 ((v / 256 ^ k : Nat) : Int) ∧ Own w.heap.size wr u (F2p.lit v k) ∧ Below w.heap.size w wr) (fun _ _ i _ => n - (intOf i).toNat)
  case atStart => exact ⟨0, Nat.zero_le _, rfl, by simp, Own.nil, Below.refl _ _⟩
  case round =>
    obtain ⟨k, hk, rfl, rfl, hown, hbel⟩ := hrel
    have hq : v / 256 ^ k < 18446744073709551616 := Nat.lt_of_le_of_lt (Nat.div_le_self _ _) hv
    by_cases hlt : k < n
    · generalize hy : v / 256 ^ k = y at *
      have HY := Lib.hid hy; clear hy
      go_wp2_with (at_builtin; go_loud (refine wpList_append_rd _ rfl (.tmp 12) (.tmp 16) _ rfl w.heap.size 5 i0 _ 1 Try.underlying60 hi hz0 hz1 hz2 rfl _ (F2p.lit v k).length (bvs (F2p.lit v k)) rfl (World.ownsRow.alloc hown _) _ _ 1 1 [.int .u8 ((y : Int) % 256)] rfl rfl (Rd.new wr _ _) (fun hh => by cases hh) one_int (by unfold maxLen; rw [F2p.lit_len]; omega) (by rw [F2p.lit_len]; omega) (by have := hbel.size; simp; omega) ?_); intro v' w1 hown1 hg1)
      have hbel1 : Below w.heap.size w w1 := below_grown (hbel.alloc hbel.size _) (World.ownsRow.alloc hown _) hg1 (by have := hbel.size; simp; omega)
      go_roundw
      case rel => exact ⟨k + 1, by omega, by go_num, vi (by rw [← HY.out, Nat.pow_succ, ← Nat.div_div_eq_div_mul]; omega), own_of hown1 (by simp [F2p.lit_len]) (by rw [F2p.lit_snoc, HY.out, bvs_app, bv_mod]; rfl), hbel1⟩
      case measure => simp [intOf]; omega
    · obtain rfl : k = n := by omega
      go_wp2
      go_ret
      exact ⟨_, rfl, hown, hbel⟩
end Go.Proofs.Ytafoaonkjcfbaaa.Ln
namespace Go.Proofs.Ytafoaonkjcfbaaa.Ua
open Go.RowKit Go.Proofs.Ytafoaonkjcfbaaa.Mem Go.Proofs.Ytafoaonkjcfbaaa.F2p Go.Proofs.Ytafoaonkjcfbaaa.C4l Go.Proofs.Ytafoaonkjcfbaaa.Ta Go.Proofs.Ytafoaonkjcfbaaa.Tb
set_option maxRecDepth 100000
set_option maxHeartbeats 1000000

theorem or_two (x y : Nat) (hx : x < 256) (hy : y < 256) : bits .or .u16 (x : Int) ((y : Int) * 256) = ((x + 256 * y : Nat) : Int) := by
  have e : (y : Int) * 256 = ((y * 2 ^ 8 : Nat) : Int) := by push_cast; rfl
  rw [e]
  show IntKind.u16.wrap ((BitVec.ofInt 16 (x : Int) ||| BitVec.ofInt 16 ((y * 2 ^ 8 : Nat) : Int)).toNat : Int) = _
  rw [BitVec.ofInt_natCast, BitVec.ofInt_natCast, BitVec.toNat_or, BitVec.toNat_ofNat, BitVec.toNat_ofNat, Nat.mod_eq_of_lt (show x < 2 ^ 16 by omega), Nat.mod_eq_of_lt (show y * 2 ^ 8 < 2 ^ 16 by omega)]
  have : x ||| y * 2 ^ 8 = x + 256 * y := by
    rw [Nat.or_comm, Nat.mul_comm y, ← Nat.two_pow_add_eq_or_of_lt (show x < 2 ^ 8 by omega)]
    omega
  rw [this]
  exact IntWalk.u16_in _ ⟨by omega, by omega⟩
theorem n2_of (l : List UInt8) (i : Nat) (h : i + 2 ≤ l.length) : n2 l i = (l[i]'(by omega)).toNat + 256 * (l[i + 1]'(by omega)).toNat := by
  unfold n2
  rw [List.drop_eq_getElem_cons (show i < l.length by omega), List.drop_eq_getElem_cons (show i + 1 < l.length by omega)]
  simp only [List.take_succ_cons, List.take_zero, F2p.num]
  omega
theorem n2_lt (l : List UInt8) (i : Nat) : n2 l i < 65536 := by
  unfold n2
  have := F2p.num_lt ((l.drop i).take 2)
  have h2 : ((l.drop i).take 2).length ≤ 2 := by rw [List.length_take]; omega
  have : 256 ^ ((l.drop i).take 2).length ≤ 256 ^ 2 := Nat.pow_le_pow_right (by omega) h2
  omega
/-- The two bytes at the front are the number. -/
theorem number_p (a : Addr) (n c : Nat) (l : List UInt8) (w : World) (hsl : Sl w (some a) n c l) (h2 : 2 ≤ n) :
    Calls Try.prog 138 #[.slice (some a) n c] w fun e w' => e = .returned (.int .u16 ((n2 l 0 : Nat) : Int)) ∧ ∃ k, w' = w.drewN k := by
  have hln := hsl.len
  obtain ⟨a0, e0, -, c0⟩ := row_at hsl.row (k := 0) (by omega)
  obtain ⟨a1, e1, -, c1⟩ := row_at hsl.row (k := 1) (by omega)
  injection e0 with e0
  injection e1 with e1
  subst e0
  rw [← e1] at c1
  have hn : n2 l 0 = (l[0]'(by omega)).toNat + 256 * (l[1]'(by omega)).toNat := n2_of l 0 (by omega)
  obtain ⟨x, hx⟩ : ∃ x, x = l[0]'(by omega) := ⟨_, rfl⟩
  obtain ⟨y, hy⟩ : ∃ y, y = l[1]'(by omega) := ⟨_, rfl⟩
  rw [← hx] at c0
  rw [← hy] at c1
  rw [← hx, ← hy] at hn
  rw [hn]
  have hxl := x.toNat_lt
  have hyl := y.toNat_lt
  have ho := or_two x.toNat y.toNat hxl hyl
  have h1 : 1 < (n : Int) := by omega
  have h0 : 0 < (n : Int) := by omega
  have h1' : 1 < n := by omega
  have h0' : 0 < n := by omega
  have c0' : w.cell? a = some (.int .u8 (x.toNat : Int)) := c0
  have c1' : w.cell? ⟨a.block, a.off + 1, none⟩ = some (.int .u8 (y.toNat : Int)) := c1
  clear hx hy hn e1 hsl hln
  go_enter Try.func138, Try.ntmps138
  go_wp2_with fail
  go_quiet (fail)
  all_goals go_wp2_with fail
  all_goals
    go_ret
    exact ⟨ret_int (by push_cast; rfl), _, rfl⟩
theorem size_p (A : Option Addr) (n c : Nat) (l : List UInt8) (k : Nat) (w : World) (hn : n = l.length) :
    Calls Try.prog 137 #[.slice A n c, .int .i64 (k : Int)] w fun e w' => e = .returned (.int .i64 ((size l k : Nat) : Int)) ∧ w = w' := by
  unfold size
  rw [← hn]
  by_cases h1 : n < k
  · rw [if_pos h1]
    clear hn
    go_enter Try.func137, Try.ntmps137
    go_wp2_with fail
    go_ret
    exact ⟨rfl, rfl⟩
  · rw [if_neg h1]
    by_cases h2 : k < n
    · rw [if_pos h2]
      clear hn
      go_enter Try.func137, Try.ntmps137
      go_wp2_with fail
      go_ret
      exact ⟨rfl, rfl⟩
    · rw [if_neg h2]
      clear hn
      go_enter Try.func137, Try.ntmps137
      go_wp2_with fail
      go_ret
      exact ⟨rfl, rfl⟩
end Go.Proofs.Ytafoaonkjcfbaaa.Ua
