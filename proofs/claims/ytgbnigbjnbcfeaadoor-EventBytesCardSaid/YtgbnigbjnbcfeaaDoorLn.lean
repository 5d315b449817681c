/- Walks: the reference's little-endian numbers. -/
import Derived.Test.YtgbnigbjnbcfeaaDoorF2m
namespace Go.Proofs.YtgbnigbjnbcfeaaDoor.Ln
open Go.RowKit Go.Proofs.YtgbnigbjnbcfeaaDoor.Mem Go.Proofs.YtgbnigbjnbcfeaaDoor.F2p
set_option maxRecDepth 100000
set_option maxHeartbeats 1000000

theorem num_drop (l : List UInt8) (k : Nat) (h : k < l.length) : F2p.num (l.drop k) = 256 * F2p.num (l.drop (k + 1)) + l[k].toNat := by
  rw [List.drop_eq_getElem_cons h, F2p.num]; omega
theorem number_any (A : Option Addr) (c : Nat) (l : List UInt8) (B : Nat) (w : World) (h : Row B w A l) (hl : l.length ≤ 8) :
    Calls Tryd.prog 39 #[.slice A l.length c] w fun e w' => e = .returned (.int .u64 (F2p.num l)) ∧ w = w' := by
  go_enter Tryd.func39, Tryd.ntmps39
  go_wp2
  go_loop [3, 4] (fun v i => ∃ k : Nat, k ≤ l.length ∧ i = .int .i64 ((k : Int) - 1) ∧ v = .int .u64 (F2p.num (l.drop k))) (fun _ i => (intOf i + 1).toNat)
  case atStart => exact ⟨l.length, Nat.le_refl _, rfl, by simp [F2p.num]⟩
  case round =>
    obtain ⟨k, hk, rfl, rfl⟩ := hrel
    rcases k with _ | k
    · go_wp2
      go_ret
      exact ⟨rfl, rfl⟩
    · obtain ⟨a, rfl, hb, hc⟩ := row_at h (k := k) (by omega)
      have hn := num_drop l k (by omega)
      have hlt := F2p.num_lt (l.drop k)
      have hx := l[k].toNat_lt
      have hp : 256 ^ (l.drop k).length ≤ 256 ^ 8 := Nat.pow_le_pow_right (by omega) (by rw [List.length_drop]; omega)
      have hq : 256 * F2p.num (l.drop (k + 1)) + l[k].toNat < 18446744073709551616 := by rw [← hn]; exact Nat.lt_of_lt_of_le hlt hp
      have HN := Lib.hid hn; clear hn hlt hp
      go_wp2
      refine ⟨⟨k, by omega, rfl, vi ?_⟩, by simp [intOf]⟩
      rw [HN.out]
      omega

theorem littles_any (v n : Nat) (w : World) (hv : v < 18446744073709551616) (hn : n ≤ 100) :
    Calls Tryd.prog 38 #[.int .u64 v, .int .i64 n] w fun e w' => ∃ u, e = .returned u ∧ Own w.heap.size w' u (F2p.lit v n) ∧ Below w.heap.size w w' := by
  obtain ⟨i0, hi, hz0, hz1, hz2⟩ := info_parts info5
  go_enter Tryd.func38, Tryd.ntmps38
  go_wp2
  go_loopw [0, 5, 6] (fun x u i wr => ∃ k : Nat, k ≤ n ∧ i = .int .i64 k ∧ x = .int .u64 ((v / 256 ^ k : Nat) : Int) ∧ Own w.heap.size wr u (F2p.lit v k) ∧ Below w.heap.size w wr) (fun _ _ i _ => n - (intOf i).toNat)
  case atStart => exact ⟨0, Nat.zero_le _, rfl, by simp, Own.nil, Below.refl _ _⟩
  case round =>
    obtain ⟨k, hk, rfl, rfl, hown, hbel⟩ := hrel
    have hq : v / 256 ^ k < 18446744073709551616 := Nat.lt_of_le_of_lt (Nat.div_le_self _ _) hv
    by_cases hlt : k < n
    · generalize hy : v / 256 ^ k = y at *
      have HY := Lib.hid hy; clear hy
      go_wp2_with (at_builtin; go_loud (refine wpList_append_rd _ rfl (.tmp 12) (.tmp 16) _ rfl w.heap.size 5 i0 _ 1 Tryd.underlying27 hi hz0 hz1 hz2 rfl _ (F2p.lit v k).length (bvs (F2p.lit v k)) rfl (World.ownsRow.alloc hown _) _ _ 1 1 [.int .u8 ((y : Int) % 256)] rfl rfl (Rd.new wr _ _) (fun hh => by cases hh) one_int (by unfold maxLen; rw [F2p.lit_len]; omega) (by rw [F2p.lit_len]; omega) (by have := hbel.size; simp; omega) ?_); intro v' w1 hown1 hg1)
      have hbel1 : Below w.heap.size w w1 := below_grown (hbel.alloc hbel.size _) (World.ownsRow.alloc hown _) hg1 (by have := hbel.size; simp; omega)
      go_roundw
      case rel => exact ⟨k + 1, by omega, by go_num, vi (by rw [← HY.out, Nat.pow_succ, ← Nat.div_div_eq_div_mul]; omega), own_of hown1 (by simp [F2p.lit_len]) (by rw [F2p.lit_snoc, HY.out, bvs_app, bv_mod]; rfl), hbel1⟩
      case measure => simp [intOf]; omega
    · obtain rfl : k = n := by omega
      go_wp2
      go_ret
      exact ⟨_, rfl, hown, hbel⟩
end Go.Proofs.YtgbnigbjnbcfeaaDoor.Ln
