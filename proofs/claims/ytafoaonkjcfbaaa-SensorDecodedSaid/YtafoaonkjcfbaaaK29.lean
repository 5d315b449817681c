/- Walks: the reference of conversions: the nearest raw reading. Walks: the reference of conversions: the direction of the values. Walks: the reference of conversions: bytes in two's complement. -/
import Derived.Test.YtafoaonkjcfbaaaK11
namespace Go.Proofs.Ytafoaonkjcfbaaa.C4v
open Go.RowKit Go.Proofs.Ytafoaonkjcfbaaa.Mem Go.Proofs.Ytafoaonkjcfbaaa.M3p Go.Proofs.Ytafoaonkjcfbaaa.M3r Go.Proofs.Ytafoaonkjcfbaaa.C4p Go.Proofs.Ytafoaonkjcfbaaa.C4l
set_option maxRecDepth 100000
set_option maxHeartbeats 4000000

theorem least_b (s : Bool) : -128 ≤ least s ∧ least s ≤ 0 := by
  unfold least
  split <;> omega
end Go.Proofs.Ytafoaonkjcfbaaa.C4v
namespace Go.Proofs.Ytafoaonkjcfbaaa.C4v
open Go.RowKit Go.Proofs.Ytafoaonkjcfbaaa.Mem Go.Proofs.Ytafoaonkjcfbaaa.M3p Go.Proofs.Ytafoaonkjcfbaaa.M3r Go.Proofs.Ytafoaonkjcfbaaa.C4p Go.Proofs.Ytafoaonkjcfbaaa.C4l
set_option maxRecDepth 100000
set_option maxHeartbeats 4000000

end Go.Proofs.Ytafoaonkjcfbaaa.C4v
namespace Go.Proofs.Ytafoaonkjcfbaaa.C4v
open Go.RowKit Go.Proofs.Ytafoaonkjcfbaaa.Mem Go.Proofs.Ytafoaonkjcfbaaa.M3p Go.Proofs.Ytafoaonkjcfbaaa.C4p Go.Proofs.Ytafoaonkjcfbaaa.C4l
set_option maxRecDepth 100000
set_option maxHeartbeats 4000000

theorem num_drop (l : List UInt8) (k : Nat) (h : k < l.length) : F2p.num (l.drop k) = 256 * F2p.num (l.drop (k + 1)) + l[k].toNat := by
  rw [List.drop_eq_getElem_cons h, F2p.num]; omega

theorem number_any (A : Option Addr) (c : Nat) (l : List UInt8) (B : Nat) (w : World) (h : Row B w A l) (hl : l.length ≤ 8) :
    Calls Try.prog 75 #[.slice A l.length c] w fun e w' => e = .returned (.int .u64 (F2p.num l)) ∧ w = w' := by
  go_enter Try.func75, Try.ntmps75
  go_wp2
  go_loop [3, 4] (fun v i => ∃ k : Nat, k ≤ l.length ∧ i = .int .i64 ((k : Int) - 1) ∧ v = .int .u64 (F2p.num (l.drop k))) (fun _ i => (intOf i + 1).toNat)
  case atStart => exact ⟨l.length, Nat.le_refl _, rfl, by simp [F2p.num]⟩
  case round =>
    obtain ⟨k, hk, rfl, rfl⟩ := hrel
    rcases k with _ | k
    · go_wp2
      go_ret
      exact ⟨rfl, rfl⟩
    · obtain ⟨a, rfl, hb, hc⟩ := row_at h (k := k) (by omega)
      have hn := num_drop l k (by omega)
      have hlt := F2p.num_lt (l.drop k)
      have hx := l[k].toNat_lt
      have hp : 256 ^ (l.drop k).length ≤ 256 ^ 8 := Nat.pow_le_pow_right (by omega) (by rw [List.length_drop]; omega)
      have hq : 256 * F2p.num (l.drop (k + 1)) + l[k].toNat < 18446744073709551616 := by rw [← hn]; exact Nat.lt_of_lt_of_le hlt hp
      have HN := Lib.hid hn; clear hn hlt hp
      go_wp2
      refine ⟨⟨k, by omega, rfl, vi ?_⟩, by simp [intOf]⟩
      rw [HN.out]
      omega

theorem littles_any (v n : Nat) (w : World) (hv : v < 18446744073709551616) (hn : n ≤ 100) :
    Calls Try.prog 67 #[.int .u64 v, .int .i64 n] w fun e w' => ∃ u, e = .returned u ∧ Own w.heap.size w' u (F2p.lit v n) ∧ Below w.heap.size w w' := by
  obtain ⟨i0, hi, hz0, hz1, hz2⟩ := info_parts info5
  go_enter Try.func67, Try.ntmps67
  go_wp2
  go_loopw [0, 5, 6] (fun x u i wr => ∃ k : Nat, k ≤ n ∧ i = .int .i64 k ∧ x = .int .u64 ((v / 256 ^ k : Nat) : Int) ∧ Own w.heap.size wr u (F2p.lit v k) ∧ Below w.heap.size w wr) (fun _ _ i _ => n - (intOf i).toNat)
  case atStart => exact ⟨0, Nat.zero_le _, rfl, by simp, Own.nil, Below.refl _ _⟩
  case round =>
    obtain ⟨k, hk, rfl, rfl, hown, hbel⟩ := hrel
    have hq : v / 256 ^ k < 18446744073709551616 := Nat.lt_of_le_of_lt (Nat.div_le_self _ _) hv
    by_cases hlt : k < n
    · generalize hy : v / 256 ^ k = y at *
      have HY := Lib.hid hy; clear hy
      go_wp2_with (at_builtin; go_loud (refine wpList_append_rd _ rfl (.tmp 12) (.tmp 16) _ rfl w.heap.size 5 i0 _ 1 Try.underlying60 hi hz0 hz1 hz2 rfl _ (F2p.lit v k).length (bvs (F2p.lit v k)) rfl (World.ownsRow.alloc hown _) _ _ 1 1 [.int .u8 ((y : Int) % 256)] rfl rfl (Rd.new wr _ _) (fun hh => by cases hh) one_int (by unfold maxLen; rw [F2p.lit_len]; omega) (by rw [F2p.lit_len]; omega) (by have := hbel.size; simp; omega) ?_); intro v' w1 hown1 hg1)
      have hbel1 : Below w.heap.size w w1 := below_grown (hbel.alloc hbel.size _) (World.ownsRow.alloc hown _) hg1 (by have := hbel.size; simp; omega)
      go_roundw
      case rel => exact ⟨k + 1, by omega, by go_num, vi (by rw [← HY.out, Nat.pow_succ, ← Nat.div_div_eq_div_mul]; omega), own_of hown1 (by simp [F2p.lit_len]) (by rw [F2p.lit_snoc, HY.out, bvs_app, bv_mod]; rfl), hbel1⟩
      case measure => simp [intOf]; omega
    · obtain rfl : k = n := by omega
      go_wp2
      go_ret
      exact ⟨_, rfl, hown, hbel⟩

theorem little_r (v : Int) (n : Nat) (w : World) (hn : n ≤ 100) :
    Calls Try.prog 108 #[.int .i64 v, .int .i64 (n : Int)] w fun e w' => ∃ u, e = .returned u ∧ Own w.heap.size w' u (le v n) ∧ Below w.heap.size w w' := by
  obtain ⟨x, hx⟩ : ∃ x : Nat, x = (v % 18446744073709551616).toNat := ⟨_, rfl⟩
  have hxI : v % 18446744073709551616 = (x : Int) := by omega
  have hl : le v n = F2p.lit x n := by unfold le; rw [← hx]
  rw [hl]
  have HL := Lib.hid (fun u => littles_any x n u (by omega) hn)
  clear hx hl
  have hxW : IntKind.u64.wrap v = (x : Int) := by rw [IntKind.wrap_u64]; exact hxI
  clear hxI
  go_enter Try.func108, Try.ntmps108
  go_wp2_with fail
  refine (HL.out _).mono ?_
  rintro e w' ⟨u, rfl, ho, hb⟩
  go_wp2_with fail
  go_ret
  exact ⟨u, rfl, ho, hb⟩
theorem top_is {l : List UInt8} {k : Nat} (h : l.length = k + 1) : top l = decide (128 ≤ l[k].toNat) := by
  have e : l.getLast? = some l[k] := by
    rw [List.getLast?_eq_getElem?, show l.length - 1 = k by omega, List.getElem?_eq_getElem (by omega)]
  unfold top
  rw [e]
theorem signed_1 (A : Option Addr) (c : Nat) (l : List UInt8) (B : Nat) (w : World) (h : Row B w A l) (hl : l.length = 1) :
    Calls Try.prog 112 #[.slice A 1 c] w fun e w' => e = .returned (.int .i64 (sgn l)) ∧ w = w' := by
  have hlt := F2p.num_lt l
  rw [hl, show (256 : Nat) ^ 1 = 256 by decide] at hlt
  have HN := Lib.hid (fun u (hu : Row B u A l) => by have := number_any A c l B u hu (by omega); rw [hl] at this; exact this)
  obtain ⟨a, rfl, hab, hc0⟩ := row_at h (k := 0) (by omega)
  have hc : w.cell? a = some (.int .u8 (l[0].toNat : Int)) := hc0
  clear hc0
  have ht := top_is hl
  obtain ⟨x, hx⟩ : ∃ x, x = l[0].toNat := ⟨_, rfl⟩
  rw [← hx] at hc ht
  have hx8 : x < 256 := by rw [hx]; exact l[0].toNat_lt
  have hsg : sgn l = (F2p.num l : Int) - if 128 ≤ x then 256 else 0 := by
    unfold sgn
    rw [ht, hl, show (256 : Int) ^ 1 = 256 by decide]
    simp only [decide_eq_true_eq]
  obtain ⟨R, hR⟩ : ∃ R, R = sgn l := ⟨_, rfl⟩
  rw [← hR] at hsg ⊢
  have HS := Lib.hid hsg
  clear hR hsg ht hx hl
  generalize F2p.num l = N at *
  by_cases h128 : 128 ≤ x
  · have HR := Lib.hid (show R = (N : Int) - 256 by rw [HS.out, if_pos h128])
    go_enter Try.func112, Try.ntmps112
    go_wp2_with fail
    refine (HN.out _ h).mono ?_
    rintro e w' ⟨rfl, rfl⟩
    go_wp2_with fail
    go_ret
    exact ⟨ret_int (by rw [HR.out]), rfl⟩
  · have HR := Lib.hid (show R = (N : Int) by rw [HS.out, if_neg h128]; omega)
    go_enter Try.func112, Try.ntmps112
    go_wp2_with fail
    refine (HN.out _ h).mono ?_
    rintro e w' ⟨rfl, rfl⟩
    go_wp2_with fail
    go_ret
    exact ⟨ret_int (by rw [HR.out]), rfl⟩
theorem signed_2 (A : Option Addr) (c : Nat) (l : List UInt8) (B : Nat) (w : World) (h : Row B w A l) (hl : l.length = 2) :
    Calls Try.prog 112 #[.slice A 2 c] w fun e w' => e = .returned (.int .i64 (sgn l)) ∧ w = w' := by
  have hlt := F2p.num_lt l
  rw [hl, show (256 : Nat) ^ 2 = 65536 by decide] at hlt
  have HN := Lib.hid (fun u (hu : Row B u A l) => by have := number_any A c l B u hu (by omega); rw [hl] at this; exact this)
  obtain ⟨a, rfl, hab, hc0⟩ := row_at h (k := 1) (by omega)
  have hc : w.cell? ⟨a.block, a.off + 1, none⟩ = some (.int .u8 (l[1].toNat : Int)) := hc0
  clear hc0
  have ht := top_is hl
  obtain ⟨x, hx⟩ : ∃ x, x = l[1].toNat := ⟨_, rfl⟩
  rw [← hx] at hc ht
  have hx8 : x < 256 := by rw [hx]; exact l[1].toNat_lt
  have hsg : sgn l = (F2p.num l : Int) - if 128 ≤ x then 65536 else 0 := by
    unfold sgn
    rw [ht, hl, show (256 : Int) ^ 2 = 65536 by decide]
    simp only [decide_eq_true_eq]
  obtain ⟨R, hR⟩ : ∃ R, R = sgn l := ⟨_, rfl⟩
  rw [← hR] at hsg ⊢
  have HS := Lib.hid hsg
  clear hR hsg ht hx hl
  generalize F2p.num l = N at *
  by_cases h128 : 128 ≤ x
  · have HR := Lib.hid (show R = (N : Int) - 65536 by rw [HS.out, if_pos h128])
    go_enter Try.func112, Try.ntmps112
    go_wp2_with fail
    refine (HN.out _ h).mono ?_
    rintro e w' ⟨rfl, rfl⟩
    go_wp2_with fail
    go_ret
    exact ⟨ret_int (by rw [HR.out]), rfl⟩
  · have HR := Lib.hid (show R = (N : Int) by rw [HS.out, if_neg h128]; omega)
    go_enter Try.func112, Try.ntmps112
    go_wp2_with fail
    refine (HN.out _ h).mono ?_
    rintro e w' ⟨rfl, rfl⟩
    go_wp2_with fail
    go_ret
    exact ⟨ret_int (by rw [HR.out]), rfl⟩
theorem signed_6 (A : Option Addr) (c : Nat) (l : List UInt8) (B : Nat) (w : World) (h : Row B w A l) (hl : l.length = 6) :
    Calls Try.prog 112 #[.slice A 6 c] w fun e w' => e = .returned (.int .i64 (sgn l)) ∧ w = w' := by
  have hlt := F2p.num_lt l
  rw [hl, show (256 : Nat) ^ 6 = 281474976710656 by decide] at hlt
  have HN := Lib.hid (fun u (hu : Row B u A l) => by have := number_any A c l B u hu (by omega); rw [hl] at this; exact this)
  obtain ⟨a, rfl, hab, hc0⟩ := row_at h (k := 5) (by omega)
  have hc : w.cell? ⟨a.block, a.off + 5, none⟩ = some (.int .u8 (l[5].toNat : Int)) := hc0
  clear hc0
  have ht := top_is hl
  obtain ⟨x, hx⟩ : ∃ x, x = l[5].toNat := ⟨_, rfl⟩
  rw [← hx] at hc ht
  have hx8 : x < 256 := by rw [hx]; exact l[5].toNat_lt
  have hsg : sgn l = (F2p.num l : Int) - if 128 ≤ x then 281474976710656 else 0 := by
    unfold sgn
    rw [ht, hl, show (256 : Int) ^ 6 = 281474976710656 by decide]
    simp only [decide_eq_true_eq]
  obtain ⟨R, hR⟩ : ∃ R, R = sgn l := ⟨_, rfl⟩
  rw [← hR] at hsg ⊢
  have HS := Lib.hid hsg
  clear hR hsg ht hx hl
  generalize F2p.num l = N at *
  by_cases h128 : 128 ≤ x
  · have HR := Lib.hid (show R = (N : Int) - 281474976710656 by rw [HS.out, if_pos h128])
    go_enter Try.func112, Try.ntmps112
    go_wp2_with fail
    refine (HN.out _ h).mono ?_
    rintro e w' ⟨rfl, rfl⟩
    go_wp2_with fail
    go_ret
    exact ⟨ret_int (by rw [HR.out]), rfl⟩
  · have HR := Lib.hid (show R = (N : Int) by rw [HS.out, if_neg h128]; omega)
    go_enter Try.func112, Try.ntmps112
    go_wp2_with fail
    refine (HN.out _ h).mono ?_
    rintro e w' ⟨rfl, rfl⟩
    go_wp2_with fail
    go_ret
    exact ⟨ret_int (by rw [HR.out]), rfl⟩
end Go.Proofs.Ytafoaonkjcfbaaa.C4v
