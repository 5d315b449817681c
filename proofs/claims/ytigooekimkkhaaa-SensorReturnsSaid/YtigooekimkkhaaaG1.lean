/- Walks: the reference's little-endian numbers. Plain mathematics of conversions: what the laws on linear values and on the other forms ask. Walks: modulo and the dice of the made inputs. Walks: the dice's texts, bytes and fields. Walks: the dice's fixed-point numbers. Walks: the dice's conversions without a table. -/
import Derived.Test.YtigooekimkkhaaaF2m
import Derived.Test.YtigooekimkkhaaaC4r
import Derived.Test.YtigooekimkkhaaaOwn
import Derived.Test.YtigooekimkkhaaaF2p
import Derived.Test.YtigooekimkkhaaaM3p
import Derived.Test.YtigooekimkkhaaaC4z
import Derived.Deep.RegionHeld3
import Derived.Deep.RegionLaw
namespace Go.Proofs.Ytigooekimkkhaaa.Ln
open Go.RowKit Go.Proofs.Ytigooekimkkhaaa.Mem Go.Proofs.Ytigooekimkkhaaa.F2p
set_option maxRecDepth 100000
set_option maxHeartbeats 1000000

theorem num_drop (l : List UInt8) (k : Nat) (h : k < l.length) : F2p.num (l.drop k) = 256 * F2p.num (l.drop (k + 1)) + l[k].toNat := by
  rw [List.drop_eq_getElem_cons h, F2p.num]; omega
theorem number_any (A : Option Addr) (c : Nat) (l : List UInt8) (B : Nat) (w : World) (h : Row B w A l) (hl : l.length ≤ 8) :
    Calls Try.prog 55 #[.slice A l.length c] w fun e w' => e = .returned (.int .u64 (F2p.num l)) ∧ w = w' := by
  go_enter Try.func55, Try.ntmps55
  go_wp2
  go_loop [3, 4] (fun v i => ∃ k : Nat, k ≤ l.length ∧ i = .int .i64 ((k : Int) - 1) ∧ v = .int .u64 (F2p.num (l.drop k))) (fun _ i => (intOf i + 1).toNat)
  case atStart => exact ⟨l.length, Nat.le_refl _, rfl, by simp [F2p.num]⟩
  case round =>
    obtain ⟨k, hk, rfl, rfl⟩ := hrel
    rcases k with _ | k
    · go_wp2
      go_ret
      exact ⟨rfl, rfl⟩
    · obtain ⟨a, rfl, hb, hc⟩ := row_at h (k := k) (by omega)
      have hn := num_drop l k (by omega)
      have hlt := F2p.num_lt (l.drop k)
      have hx := l[k].toNat_lt
      have hp : 256 ^ (l.drop k).length ≤ 256 ^ 8 := Nat.pow_le_pow_right (by omega) (by rw [List.length_drop]; omega)
      have hq : 256 * F2p.num (l.drop (k + 1)) + l[k].toNat < 18446744073709551616 := by rw [← hn]; exact Nat.lt_of_lt_of_le hlt hp
      have HN := Lib.hid hn; clear hn hlt hp
      go_wp2
      refine ⟨⟨k, by omega, rfl, vi ?_⟩, by simp [intOf]⟩
      rw [HN.out]
      omega

theorem littles_any (v n : Nat) (w : World) (hv : v < 18446744073709551616) (hn : n ≤ 100) :
    Calls Try.prog 47 #[.int .u64 v, .int .i64 n] w fun e w' => ∃ u, e = .returned u ∧ Own w.heap.size w' u (F2p.lit v n) ∧ Below w.heap.size w w' := by
  obtain ⟨i0, hi, hz0, hz1, hz2⟩ := info_parts info5
  go_enter Try.func47, Try.ntmps47
  go_wp2
  go_loopw [0, 5, 6] (fun x u i wr => ∃ k : Nat, k ≤ n ∧ i = .int .i64 k ∧ x = .int .u64 ((v / 256 ^ k : Nat) : Int) ∧ Own w.heap.size wr u (F2p.lit v k) ∧ Below w.heap.size w wr) (fun _ _ i _ => n - (intOf i).toNat)
  case atStart => exact ⟨0, Nat.zero_le _, rfl, by simp, Own.nil, Below.refl _ _⟩
  case round =>
    obtain ⟨k, hk, rfl, rfl, hown, hbel⟩ := hrel
    have hq : v / 256 ^ k < 18446744073709551616 := Nat.lt_of_le_of_lt (Nat.div_le_self _ _) hv
    by_cases hlt : k < n
    · generalize hy : v / 256 ^ k = y at *
      have HY := Lib.hid hy; clear hy
      go_wp2_with (at_builtin; go_loud (refine wpList_append_rd _ rfl (.tmp 12) (.tmp 16) _ rfl w.heap.size 5 i0 _ 1 Try.underlying43 hi hz0 hz1 hz2 rfl _ (F2p.lit v k).length (bvs (F2p.lit v k)) rfl (World.ownsRow.alloc hown _) _ _ 1 1 [.int .u8 ((y : Int) % 256)] rfl rfl (Rd.new wr _ _) (fun hh => by cases hh) one_int (by unfold maxLen; rw [F2p.lit_len]; omega) (by rw [F2p.lit_len]; omega) (by have := hbel.size; simp; omega) ?_); intro v' w1 hown1 hg1)
      have hbel1 : Below w.heap.size w w1 := below_grown (hbel.alloc hbel.size _) (World.ownsRow.alloc hown _) hg1 (by have := hbel.size; simp; omega)
      go_roundw
      case rel => exact ⟨k + 1, by omega, by go_num, vi (by rw [← HY.out, Nat.pow_succ, ← Nat.div_div_eq_div_mul]; omega), own_of hown1 (by simp [F2p.lit_len]) (by rw [F2p.lit_snoc, HY.out, bvs_app, bv_mod]; rfl), hbel1⟩
      case measure => simp [intOf]; omega
    · obtain rfl : k = n := by omega
      go_wp2
      go_ret
      exact ⟨_, rfl, hown, hbel⟩
end Go.Proofs.Ytigooekimkkhaaa.Ln
namespace Go.Proofs.Ytigooekimkkhaaa.C4p
open Go.Proofs.Ytigooekimkkhaaa.M3p
set_option maxRecDepth 100000

theorem clp_strict {z : Int} (h1 : -lim < clp z) (h2 : clp z < lim) : clp z = z := by
  unfold clp lim at *
  split at h1 <;> (try split at h1) <;> (try split) <;> (try split) <;> omega
theorem lin_zero (c : Cv) : lin c 0 = clp (c.b * ten (6 + c.k1 + c.k2)) := by
  unfold lin
  rw [Int.mul_zero, Int.zero_mul, Int.zero_add]
/-- From one number to the next a linear value grows by M * 10^K2, unless it is clamped. -/
theorem lin_step {c : Cv} {x : Int} (h1 : -lim < lin c x) (h2 : lin c x < lim) (h3 : -lim < lin c (x + 1)) (h4 : lin c (x + 1) < lim) : lin c (x + 1) - lin c x = c.m * ten (6 + c.k2) := by
  have e1 : lin c x = c.m * x * ten (6 + c.k2) + c.b * ten (6 + c.k1 + c.k2) := clp_strict h1 h2
  have e2 : lin c (x + 1) = c.m * (x + 1) * ten (6 + c.k2) + c.b * ten (6 + c.k1 + c.k2) := clp_strict h3 h4
  rw [e1, e2, Int.mul_add, Int.mul_one, Int.add_mul]
  omega
/-- The values of the four forms without a table. -/
theorem forms (c : Cv) (x : Int) :
    (c.f = 1 → valv c x = (lin c x, 0)) ∧ (c.f = 2 → (valv c x).2 = if lin c x = 0 then 12 else 0) ∧ (c.f = 3 → valv c x = (mulS (lin c x) (lin c x), 0)) ∧
    (c.f = 4 → valv c x = if lin c x < 0 then (0, 2) else ((rt (lin c x * 1000000).toNat : Int), 0)) := by
  refine ⟨fun h => ?_, fun h => ?_, fun h => ?_, fun h => ?_⟩
  · unfold valv; rw [if_neg (by omega), if_neg (by omega), if_neg (by omega), if_neg (by omega)]
  · unfold valv
    rw [if_neg (by omega), if_pos h]
    split <;> rfl
  · unfold valv; rw [if_neg (by omega), if_neg (by omega), if_pos h]
  · unfold valv; rw [if_neg (by omega), if_neg (by omega), if_neg (by omega), if_pos h]
theorem lin_form (c : Cv) (f : Int) (x : Int) : lin { c with f := f } x = lin c x := rfl
theorem square_nn (y : Int) : 0 ≤ mulS y y := by
  have h : 0 ≤ clp y * clp y / one := Int.ediv_nonneg (by
    rcases Int.le_total 0 (clp y) with g | g
    · exact Int.mul_nonneg g g
    · have := Int.mul_nonneg (show 0 ≤ -clp y by omega) (show 0 ≤ -clp y by omega)
      rwa [Int.neg_mul_neg] at this) (by decide)
  unfold mulS
  generalize clp y * clp y / one = z at *
  unfold clp lim
  split <;> (try split) <;> omega
/-- A root, rounded down, in whole numbers. -/
theorem rt_int {y : Int} (h1 : 0 ≤ y) : ((rt (y * 1000000).toNat : Nat) : Int) * ((rt (y * 1000000).toNat : Nat) : Int) ≤ y * 1000000 ∧ y * 1000000 < (((rt (y * 1000000).toNat : Nat) : Int) + 1) * (((rt (y * 1000000).toNat : Nat) : Int) + 1) := by
  obtain ⟨g1, g2⟩ := rt_is (y * 1000000).toNat
  generalize rt (y * 1000000).toNat = r at *
  have e1 : (r : Int) * (r : Int) = ((r * r : Nat) : Int) := by push_cast; rfl
  have e2 : ((r : Int) + 1) * ((r : Int) + 1) = (((r + 1) * (r + 1) : Nat) : Int) := by push_cast; rfl
  rw [e1, e2]
  generalize r * r = p at *
  generalize (r + 1) * (r + 1) = q at *
  omega
/-- A conversion stays valid when its form is turned into another one without a table. -/
theorem vld_form {c : Cv} {f : Int} (h : vld c = true) (h5 : c.f ≠ 5) (h1 : 1 ≤ f) (h4 : f ≤ 4) : vld { c with f := f } = true := by
  obtain ⟨-, hm, hp⟩ := vld_lin h h5
  unfold vld
  rw [if_pos ⟨h1, h4⟩]
  show (decide (-512 ≤ c.m ∧ c.m ≤ 511 ∧ -512 ≤ c.b ∧ c.b ≤ 511 ∧ -3 ≤ c.k1 ∧ c.k1 ≤ 3 ∧ -3 ≤ c.k2 ∧ c.k2 ≤ 3) && decide (c.p = [])) = true
  rw [decide_eq_true hm, decide_eq_true hp]
  rfl
/-- Between two points that follow one another, and at the points themselves. -/
theorem value_between {c : Cv} (h : vld c = true) (h5 : c.f = 5) {k : Nat} (hk : k + 1 < c.p.length) (r : UInt8) (h1 : num c.s c.p[k].1 ≤ num c.s r) (h2 : num c.s r ≤ num c.s c.p[k + 1].1) :
    (value c r).2 = 0 ∧ min c.p[k].2 c.p[k + 1].2 ≤ (value c r).1 ∧ (value c r).1 ≤ max c.p[k].2 c.p[k + 1].2 := by
  have hok := (vld_tab h h5).2.2
  have e : value c r = (tab c.s (num c.s r) none c.p, 0) := by
    unfold value valv
    rw [if_pos h, if_pos h5]
  rw [e]
  exact ⟨rfl, tab_at hk (fun n u e => by cases e) (fun _ => hok) h1 h2⟩
theorem value_point {c : Cv} (h : vld c = true) (h5 : c.f = 5) {k : Nat} (hk : k < c.p.length) : value c c.p[k].1 = (c.p[k].2, 0) := by
  have hok := (vld_tab h h5).2.2
  unfold value valv
  rw [if_pos h, if_pos h5, tab_point hk (fun n u e => by cases e) (fun _ => hok)]
/-- Nearest of the value of a raw reading has the same value. -/
theorem near_own {c : Cv} (h : vld c = true) {r : UInt8} (hr : (value c r).2 = 0) : ∃ q, near c (value c r).1 = (q, 0) ∧ value c q = value c r := by
  obtain ⟨v1, v2⟩ := value_in c r
  rcases near_is h (value c r).1 with ⟨-, hno⟩ | ⟨q, hq, hq0, hall⟩
  · exact absurd hr (hno r)
  · refine ⟨q, hq, ?_⟩
    have hd := hall r hr
    rw [clp_in v1 v2] at hd
    have e : (value c q).1 = (value c r).1 := by unfold dist at hd; omega
    exact Prod.ext e (hq0.trans hr.symm)
end Go.Proofs.Ytigooekimkkhaaa.C4p
namespace Go.Proofs.Ytigooekimkkhaaa.Made
open Go.RowKit Go.Proofs.Ytigooekimkkhaaa.Mem
set_option maxRecDepth 100000
set_option maxHeartbeats 400000

theorem mod_any (n : Int) (m : Nat) (w : World) (h1 : -9223372036854775808 ≤ n) (h2 : n ≤ 9223372036854775807) (hm : 1 ≤ m) (hm2 : m ≤ 4611686018427387904) :
    Calls Try.prog 28 #[.int .i64 n, .int .i64 (m : Int)] w fun e w' => (∃ k : Nat, k < m ∧ e = .returned (.int .i64 (k : Int)) ∧ (k : Int) = n % (m : Int)) ∧ w = w' := by
  by_cases h0 : 0 ≤ n
  · have hk : 0 ≤ n % (m : Int) := Int.emod_nonneg _ (by omega)
    have hk2 : n % (m : Int) < m := Int.emod_lt_of_pos _ (by omega)
    have hm0 : ((m : Int) == 0) = false := by rw [beq_eq_false_iff_ne]; omega
    obtain ⟨k, hkk⟩ := Int.eq_ofNat_of_zero_le hk
    have hkm : k < m := by omega
    have HK := Lib.hid hkk
    have hr : IntKind.i64.wrap (n.tmod (m : Int)) = n % (m : Int) := by rw [Int.tmod_eq_emod_of_nonneg h0]; exact IntWalk.i64_in _ ⟨by omega, by omega⟩
    clear hkk
    go_enter Try.func28, Try.ntmps28
    go_wp2
    go_ret
    exact ⟨⟨k, hkm, ret_int HK.out, HK.out.symm⟩, rfl⟩
  · obtain ⟨q, hq⟩ : ∃ q : Int, n = -q := ⟨-n, by omega⟩
    subst hq
    have hm0 : ((m : Int) == 0) = false := by rw [beq_eq_false_iff_ne]; omega
    have ht : q.tmod (m : Int) = q % (m : Int) := Int.tmod_eq_emod_of_nonneg (by omega)
    have hk : 0 ≤ q % (m : Int) := Int.emod_nonneg _ (by omega)
    have hk2 : q % (m : Int) < m := Int.emod_lt_of_pos _ (by omega)
    have hd := Int.emod_add_mul_ediv q (m : Int)
    have hself : ∀ x : Int, 0 ≤ x → x < (m : Int) → (∃ z : Int, -q = x + (m : Int) * z) → x = -q % (m : Int) := by
      rintro x hx0 hx1 ⟨z, hz⟩
      rw [hz, Int.add_mul_emod_self_left, Int.emod_eq_of_lt hx0 hx1]
    have HF := Lib.hid hself
    have HD := Lib.hid hd
    clear hself hd h0
    generalize q % (m : Int) = r at *
    obtain ⟨s, rfl⟩ := Int.eq_ofNat_of_zero_le hk
    have hsm : s < m := by omega
    by_cases hs : s = 0
    · subst hs
      go_enter Try.func28, Try.ntmps28
      go_wp2
      go_ret
      refine ⟨⟨0, by omega, ret_int (by omega), HF.out 0 (by omega) (by omega) ⟨-(q / (m : Int)), ?_⟩⟩, rfl⟩
      have := HD.out
      rw [Int.mul_neg]; omega
    · have hneg : -(s : Int) < 0 := by omega
      go_enter Try.func28, Try.ntmps28
      go_wp2
      go_ret
      refine ⟨⟨m - s, by omega, ret_int (by omega), HF.out _ (by omega) (by omega) ⟨-(q / (m : Int)) - 1, ?_⟩⟩, rfl⟩
      have := HD.out
      rw [Int.mul_sub, Int.mul_neg]; omega
theorem mod_at (n v : Int) (m : Nat) (w : World) (hv : v = (m : Int)) (h1 : -9223372036854775808 ≤ n) (h2 : n ≤ 9223372036854775807) (hm : 1 ≤ m) (hm2 : m ≤ 4611686018427387904) :
    Calls Try.prog 28 #[.int .i64 n, .int .i64 v] w fun e w' => ∃ k : Nat, k < m ∧ e = .returned (.int .i64 (k : Int)) ∧ w = w' := by
  subst hv
  exact (mod_any n m w h1 h2 hm hm2).mono fun _ _ ⟨⟨k, h1, h2, _⟩, h3⟩ => ⟨k, h1, h2, h3⟩
/-- Block g is a pair of dice over the list at A. -/
def Dc (w : World) (g : Nat) (A : Option Addr) (n c at_ : Nat) : Prop := w.heap[g]? = some (.cells #[.slice A n c, .int .i64 (at_ : Int)] 66 (0, 0))
section
variable {w w' : World} {g n c a : Nat} {A : Option Addr}
theorem Dc.lt (h : Dc w g A n c a) : g < w.heap.size := by
  rcases Nat.lt_or_ge g w.heap.size with hlt | hge
  · exact hlt
  · unfold Dc at h; rw [Array.getElem?_eq_none hge] at h; cases h
theorem Dc.c0 (h : Dc w g A n c a) : w.cell? ⟨g, 0, none⟩ = some (.slice A n c) := by rw [cell_of_row w g 0 _ _ _ h]; rfl
theorem Dc.c1 (h : Dc w g A n c a) : w.cell? ⟨g, 1, none⟩ = some (.int .i64 (a : Int)) := by rw [cell_of_row w g 1 _ _ _ h]; rfl
theorem Dc.fz (h : Dc w g A n c a) (i : Nat) : w.frozen? ⟨g, i, none⟩ = false := frozen_of_row w g i _ _ h
theorem Dc.set (h : Dc w g A n c a) (b : Nat) : Dc (w.setCell ⟨g, 1, none⟩ (.int .i64 (b : Int))) g A n c b := by
  have := heap_setCell_same w g 1 _ _ (.int .i64 (b : Int)) h
  exact this
theorem Dc.keep (h : Dc w g A n c a) {r : Option Nat} (hg : w.grownBy w' r) (hne : some g ≠ r) : Dc w' g A n c a := (hg.block g h.lt hne).trans h
theorem Dc.below (h : Dc w g A n c a) {B : Nat} (hb : Below B w w') (hg : g < B) : Dc w' g A n c a := (hb.block g hg).trans h
theorem grown_below {B g : Nat} (h : Below B w w') (hB : B = w.heap.size) : w.grownBy w' (some g) := ⟨h.os, h.tape, h.output, h.size, fun i hi _ => h.block i (by omega)⟩
end

theorem mod_det (n : Int) (m : Nat) (w : World) (h1 : -9223372036854775808 ≤ n) (h2 : n ≤ 9223372036854775807) (hm : 1 ≤ m) (hm2 : m ≤ 4611686018427387904) :
    Calls Try.prog 28 #[.int .i64 n, .int .i64 (m : Int)] w fun e w' => e = .returned (.int .i64 (n % (m : Int))) ∧ w = w' :=
  (mod_any n m w h1 h2 hm hm2).mono fun _ _ ⟨⟨_, _, h2, h3⟩, h4⟩ => ⟨h2.trans (by rw [h3]), h4⟩

/-- What a draw leaves: a number below k; the dice, further on. -/
def Nx (w : World) (g : Nat) (A : Option Addr) (n c k : Nat) (e : Ending) (w' : World) : Prop := ∃ r a : Nat, r < k ∧ e = .returned (.int .i64 (r : Int)) ∧ a ≤ n ∧ Dc w' g A n c a ∧ w.grownBy w' (some g)

theorem next_any (g n c a k : Nat) (A : Option Addr) (l : List Int) (w : World) (hd : Dc w g A n c a) (hr : IRow g w A l) (hn : n = l.length) (hl : ∀ x ∈ l, -9223372036854775808 ≤ x ∧ x ≤ 9223372036854775807)
    (ha : a ≤ n) (hb : n ≤ 1000000) (hk : 1 ≤ k) (hk2 : k ≤ 1000000000) :
    Calls Try.prog 21 #[.pointer (some ⟨g, 0, none⟩), .int .i64 (k : Int)] w (Nx w g A n c k) := by
  have h0 := hd.c0
  have h1 := hd.c1
  have hf := hd.fz 1
  by_cases hge : n ≤ a
  · have hg1 : ((n : Int) ≤ (a : Int)) := by omega
    clear hn
    go_enter Try.func21, Try.ntmps21
    go_wp2_with fail
    go_quiet (fail)
    go_wp2_with fail
    go_ret
    exact ⟨0, a, by omega, rfl, ha, hd, grown_drewN (World.grownBy.refl _ _) _⟩
  · have hg1 : ¬ ((n : Int) ≤ (a : Int)) := by omega
    obtain ⟨q, rfl, hq, hcell⟩ := irow_at hr (k := a) (by omega)
    obtain ⟨hx1, hx2⟩ := hl _ (List.getElem_mem (by omega : a < l.length))
    have hcell2 : (w.setCell ⟨g, 1, none⟩ (.int .i64 ((a : Int) + 1))).cell? (q.add a) = some (.int .i64 l[a]) :=
      (World.cell?_setCell_other w _ (q.add a) _ (fun e => by have := congrArg Addr.block e; rw [add_block] at this; simp at this; omega)).trans hcell
    have hd2 : Dc (w.setCell ⟨g, 1, none⟩ (.int .i64 ((a : Int) + 1))) g (some q) n c (a + 1) := hd.set (a + 1)
    have hgr := set_grown w g 1 (.int .i64 ((a : Int) + 1))
    generalize l[a] = z at *
    have k0 := hd2.c0
    have k1 : (w.setCell ⟨g, 1, none⟩ (.int .i64 ((a : Int) + 1))).cell? ⟨g, 1, none⟩ = some (.int .i64 ((a : Int) + 1)) := hd2.c1
    clear hn hcell
    go_enter Try.func21, Try.ntmps21
    go_wp2_with fail
    go_quiet (fail)
    go_wp2_with fail
    rw [show ((w.drewN nq).setCell ⟨g, 1, none⟩ (.int .i64 ((a : Int) + 1))) = (w.setCell ⟨g, 1, none⟩ (.int .i64 ((a : Int) + 1))).drewN nq from rfl]
    generalize w.setCell ⟨g, 1, none⟩ (.int .i64 ((a : Int) + 1)) = w2 at *
    have hm := fun u => mod_det z k (w2.drewN u) hx1 hx2 hk (by omega)
    have HM := Lib.hid hm; clear hm
    have b1 : (0 : Int) ≤ (a : Int) := by omega
    have b2 : (a : Int) < (n : Int) := by omega
    have w1 := IntWalk.i64_in (a : Int) ⟨by omega, by omega⟩
    go_quiet ((go_at_call 28; exact quiet_more (HM.out _)))
    go_wp2_with fail
    go_ret
    have e0 : 0 ≤ z % (k : Int) := Int.emod_nonneg _ (by omega)
    have e1 : z % (k : Int) < (k : Int) := Int.emod_lt_of_pos _ (by omega)
    exact ⟨(z % (k : Int)).toNat, a + 1, by omega, ret_int (by omega), by omega, hd2, grown_drewN (grown_drewN hgr _) _⟩
theorem bool_any (g n c a k : Nat) (A : Option Addr) (l : List Int) (w : World) (hd : Dc w g A n c a) (hr : IRow g w A l) (hn : n = l.length) (hl : ∀ x ∈ l, -9223372036854775808 ≤ x ∧ x ≤ 9223372036854775807)
    (ha : a ≤ n) (hb : n ≤ 1000000) (hk : 1 ≤ k) (hk2 : k ≤ 1000000000) :
    Calls Try.prog 22 #[.pointer (some ⟨g, 0, none⟩), .int .i64 (k : Int)] w fun e w' => ∃ (b : Bool) (a' : Nat), e = .returned (.bool b) ∧ a' ≤ n ∧ Dc w' g A n c a' ∧ w.grownBy w' (some g) := by
  have hc := next_any g n c a k A l w hd hr hn hl ha hb hk hk2
  have HC := Lib.hid hc; clear hc hn hl
  go_enter Try.func22, Try.ntmps22
  go_wp2_with fail
  refine HC.out.mono ?_
  rintro e w' ⟨r, a', hr', rfl, ha', hd', hg'⟩
  go_wp2_with fail
  go_ret
  exact ⟨_, a', rfl, ha', hd', hg'⟩
theorem irow_grown {g : Nat} {w w' : World} {A : Option Addr} {l : List Int} (h : IRow g w A l) (hg : w.grownBy w' (some g)) (hlt : g < w.heap.size) : IRow g w' A l :=
  Rd.keep h fun p hp => World.cell?_of_block (hg.block p.block (by omega) (fun e => by injection e; omega))
def lims : Array Value := #[.int .u8 0, .int .u8 1, .int .u8 127, .int .u8 128, .int .u8 254, .int .u8 255, .int .u8 15, .int .u8 240]
theorem lims_at (r : Nat) (h : r < 8) : ∃ x : UInt8, lims[r]? = some (.int .u8 (x.toNat : Int)) := by
  match r, h with
  | 0, _ => exact ⟨0, rfl⟩
  | 1, _ => exact ⟨1, rfl⟩
  | 2, _ => exact ⟨127, rfl⟩
  | 3, _ => exact ⟨128, rfl⟩
  | 4, _ => exact ⟨254, rfl⟩
  | 5, _ => exact ⟨255, rfl⟩
  | 6, _ => exact ⟨15, rfl⟩
  | 7, _ => exact ⟨240, rfl⟩
theorem byte_any (g n c a : Nat) (A : Option Addr) (l : List Int) (w : World) (hd : Dc w g A n c a) (hr : IRow g w A l) (hn : n = l.length) (hl : ∀ x ∈ l, -9223372036854775808 ≤ x ∧ x ≤ 9223372036854775807)
    (ha : a ≤ n) (hb : n ≤ 1000000) :
    Calls Try.prog 17 #[.pointer (some ⟨g, 0, none⟩)] w fun e w' => ∃ (x : UInt8) (a' : Nat), e = .returned (.int .u8 (x.toNat : Int)) ∧ a' ≤ n ∧ Dc w' g A n c a' ∧ w.grownBy w' (some g) := by
  have HN := Lib.hid hn; have HL := Lib.hid hl; clear hn hl
  go_enter Try.func17, Try.ntmps17
  go_wp2_with fail
  have hlt := hd.lt
  have hal := World.grownBy_alloc w (.cells lims 73) (some g)
  have hd0 := hd.keep (World.grownBy_alloc w (.cells lims 73) none) (by simp)
  have hr0 := irow_grown hr hal hlt
  have hnew : (w.alloc (.cells lims 73)).heap[w.heap.size]? = some (.cells lims 73 (0, 0)) := heap_alloc_new w _
  have hsz : w.heap.size < (w.alloc (.cells lims 73)).heap.size := by simp
  have hc := bool_any g n c a 3 A l _ hd0 hr0 HN.out HL.out ha hb (by omega) (by omega)
  have HC := Lib.hid hc; clear hc
  refine HC.out.mono ?_
  rintro e w1 ⟨b, a1, rfl, ha1, hd1, hg1⟩
  have hr1 := irow_grown hr0 hg1 hd0.lt
  have hb1 : w1.heap[w.heap.size]? = some (.cells lims 73 (0, 0)) := (hg1.block _ hsz (fun e => by injection e; omega)).trans hnew
  have hga := grown_trans hal hg1
  have hsz1 : w.heap.size < w1.heap.size := Nat.lt_of_lt_of_le hsz hg1.size
  clear hd hr hal hd0 hr0 hnew hsz HC hg1
  rcases b with _ | _
  · go_wp2_with fail
    have hc := next_any g n c a1 256 A l w1 hd1 hr1 HN.out HL.out ha1 hb (by omega) (by omega)
    refine hc.mono ?_
    clear hc
    rintro e w2 ⟨r, a2, hr2, rfl, ha2, hd2, hg2⟩
    go_wp2_with fail
    go_ret
    refine ⟨UInt8.ofNat r, a2, ret_int ?_, ha2, hd2, grown_trans hga hg2⟩
    rw [UInt8.toNat_ofNat']; omega
  · go_wp2_with fail
    have hc := next_any g n c a1 8 A l w1 hd1 hr1 HN.out HL.out ha1 hb (by omega) (by omega)
    refine hc.mono ?_
    clear hc
    rintro e w2 ⟨r, a2, hr2, rfl, ha2, hd2, hg2⟩
    have hb2 : w2.heap[w.heap.size]? = some (.cells lims 73 (0, 0)) := (hg2.block _ hsz1 (fun e => by injection e; omega)).trans hb1
    obtain ⟨x, hx⟩ := lims_at r hr2
    have hcell : w2.cell? ⟨w.heap.size, r, none⟩ = some (.int .u8 (x.toNat : Int)) := (cell_of_row w2 w.heap.size r _ _ _ hb2).trans hx
    have b1 : (0 : Int) ≤ (r : Int) := by omega
    have b2 : (r : Int) < 8 := by omega
    clear hx hb2 hb1
    go_wp2_with fail
    go_ret
    exact ⟨x, a2, rfl, ha2, hd2, grown_trans hga hg2⟩
theorem roll_any (A : Option Addr) (n c : Nat) (w : World) :
    Calls Try.prog 12 #[.slice A n c] w fun e w' => e = .returned (.pointer (some ⟨w.heap.size, 0, none⟩)) ∧ w' = w.alloc (.cells #[.slice A n c, .int .i64 0] 66) := by
  go_enter Try.func12, Try.ntmps12
  go_wp2
  go_ret
  exact ⟨rfl, rfl⟩
theorem lightmade_any (A : Option Addr) (n c : Nat) (w : World) (hn : n ≤ maxLen) :
    Calls Try.prog 10 #[.slice A n c] w fun e w' => e = .returned (.bool (decide (n ≤ 600))) ∧ w = w' := by
  unfold maxLen at hn
  go_enter Try.func10, Try.ntmps10
  go_wp2
  go_ret
  exact ⟨ret_bool (by simp; omega), rfl⟩
end Go.Proofs.Ytigooekimkkhaaa.Made
namespace Go.Proofs.Ytigooekimkkhaaa.Made
open Go.RowKit Go.Proofs.Ytigooekimkkhaaa.Mem Go.Proofs.Ytigooekimkkhaaa.F2p
set_option maxRecDepth 100000
set_option maxHeartbeats 1000000

/-- The dice at block g over the list at A, whatever has been drawn: what a walk keeps of them. -/
structure Dz (w : World) (g : Nat) (A : Option Addr) (n c : Nat) (l : List Int) : Prop where
  len : n = l.length
  bnd : ∀ x ∈ l, -9223372036854775808 ≤ x ∧ x ≤ 9223372036854775807
  few : n ≤ 1000000
  row : IRow g w A l
  at_ : ∃ a, a ≤ n ∧ Dc w g A n c a
section
variable {w w' : World} {g n c : Nat} {A : Option Addr} {l : List Int}
theorem Dz.lt (h : Dz w g A n c l) : g < w.heap.size := by
  obtain ⟨a, _, hd⟩ := h.at_
  exact hd.lt
theorem Dz.next (h : Dz w g A n c l) (k : Nat) (hk : 1 ≤ k) (hk2 : k ≤ 1000000000) :
    Calls Try.prog 21 #[.pointer (some ⟨g, 0, none⟩), .int .i64 (k : Int)] w fun e w' => ∃ r : Nat, r < k ∧ e = .returned (.int .i64 (r : Int)) ∧ Dz w' g A n c l ∧ w.grownBy w' (some g) := by
  obtain ⟨a, ha, hd⟩ := h.at_
  refine (next_any g n c a k A l w hd h.row h.len h.bnd ha h.few hk hk2).mono ?_
  rintro e w' ⟨r, a', hr, rfl, ha', hd', hg⟩
  exact ⟨r, hr, rfl, ⟨h.len, h.bnd, h.few, irow_grown h.row hg hd.lt, a', ha', hd'⟩, hg⟩
theorem Dz.bool (h : Dz w g A n c l) (k : Nat) (hk : 1 ≤ k) (hk2 : k ≤ 1000000000) :
    Calls Try.prog 22 #[.pointer (some ⟨g, 0, none⟩), .int .i64 (k : Int)] w fun e w' => ∃ b : Bool, e = .returned (.bool b) ∧ Dz w' g A n c l ∧ w.grownBy w' (some g) := by
  obtain ⟨a, ha, hd⟩ := h.at_
  refine (bool_any g n c a k A l w hd h.row h.len h.bnd ha h.few hk hk2).mono ?_
  rintro e w' ⟨r, a', rfl, ha', hd', hg⟩
  exact ⟨r, rfl, ⟨h.len, h.bnd, h.few, irow_grown h.row hg hd.lt, a', ha', hd'⟩, hg⟩
theorem Dz.byte (h : Dz w g A n c l) :
    Calls Try.prog 17 #[.pointer (some ⟨g, 0, none⟩)] w fun e w' => ∃ x : UInt8, e = .returned (.int .u8 (x.toNat : Int)) ∧ Dz w' g A n c l ∧ w.grownBy w' (some g) := by
  obtain ⟨a, ha, hd⟩ := h.at_
  refine (byte_any g n c a A l w hd h.row h.len h.bnd ha h.few).mono ?_
  rintro e w' ⟨r, a', rfl, ha', hd', hg⟩
  exact ⟨r, rfl, ⟨h.len, h.bnd, h.few, irow_grown h.row hg hd.lt, a', ha', hd'⟩, hg⟩
/-- What is laid above the dice, or turned there, leaves them alone. -/
theorem Dz.grown (h : Dz w g A n c l) {r : Option Nat} (hg : w.grownBy w' r) (hne : r ≠ some g) (hlo : ∀ k, r = some k → g < k) : Dz w' g A n c l := by
  obtain ⟨a, ha, hd⟩ := h.at_
  refine ⟨h.len, h.bnd, h.few, Rd.keep h.row fun p hp => World.cell?_of_block (hg.block p.block (by have := hd.lt; omega) (fun e => ?_)), a, ha, hd.keep hg (Ne.symm hne)⟩
  have := hlo _ e.symm
  omega
theorem Dz.below (h : Dz w g A n c l) {B : Nat} (hb : Below B w w') (hB : g < B) : Dz w' g A n c l := by
  obtain ⟨a, ha, hd⟩ := h.at_
  exact ⟨h.len, h.bnd, h.few, Rd.keep h.row fun p hp => hb.cell (by omega), a, ha, hd.below hb hB⟩
/-- Below the dice's own block nothing turns. -/
theorem grown_lo {B : Nat} (h : w.grownBy w' (some g)) (hB : B ≤ g) (hlt : g < w.heap.size) : Below B w w' := ⟨h.os, h.tape, h.output, h.size, fun i hi => h.block i (by omega) (fun e => by injection e; omega)⟩
theorem Dz.start (A : Option Addr) (n c : Nat) (l : List Int) (w : World) (hr : IRow w.heap.size w A l) (hn : n = l.length) (hl : ∀ x ∈ l, -9223372036854775808 ≤ x ∧ x ≤ 9223372036854775807) (hm : n ≤ 1000000) :
    Dz (w.alloc (.cells #[.slice A n c, .int .i64 0] 66)) w.heap.size A n c l :=
  ⟨hn, hl, hm, Rd.alloc hr (Nat.le_refl _) _, 0, Nat.zero_le _, heap_alloc_new w _⟩
end

theorem bl_app (a b : ByteArray) : bl (a ++ b) = bl a ++ bl b := by
  unfold bl
  rw [ByteArray.data_append, Array.toList_append]
theorem mem_extract {s : ByteArray} {i j : Nat} {x : UInt8} (h : x ∈ bl (s.extract i j)) : x ∈ bl s := by
  unfold bl at *
  rw [ByteArray.data_extract, Array.toList_extract] at h
  exact List.mem_of_mem_drop (List.mem_of_mem_take h)
theorem Dz.text {w : World} {g n c : Nat} {A : Option Addr} {l : List Int} (h : Dz w g A n c l) (s : ByteArray) (m : Nat) (hs : 1 ≤ s.size) (hs2 : s.size ≤ 1000) (hm : m ≤ 10000) :
    Calls Try.prog 31 #[.pointer (some ⟨g, 0, none⟩), .string s, .int .i64 (m : Int)] w fun e w' => ∃ t : ByteArray, e = .returned (.string t) ∧ t.size = m ∧ (∀ x ∈ bl t, x ∈ bl s) ∧ Dz w' g A n c l ∧ w.grownBy w' (some g) := by
  go_enter Try.func31, Try.ntmps31
  go_wp2_with fail
  go_loopw [7, 8] (fun v i wr => ∃ (j : Nat) (t : ByteArray), j ≤ m ∧ i = .int .i64 j ∧ v = .string t ∧ t.size = j ∧ (∀ x ∈ bl t, x ∈ bl s) ∧ Dz wr g A n c l ∧ w.grownBy wr (some g)) (fun _ i _ => m - (intOf i).toNat)
  case atStart => exact ⟨0, ⟨#[]⟩, Nat.zero_le _, rfl, rfl, rfl, fun x hx => by simp [bl] at hx, h, World.grownBy.refl _ _⟩
  case round =>
    obtain ⟨j, t, hj, rfl, rfl, ht, hall, hd, hg⟩ := hrel
    have HT := Lib.hid ht
    have HALL := Lib.hid hall
    clear ht hall
    by_cases hlt : j < m
    · go_wp2_with fail
      refine (hd.next s.size hs (by omega)).mono ?_
      rintro e w2 ⟨r, hr, rfl, hd2, hg2⟩
      have b1 : (r : Int) + 1 ≤ (s.size : Int) := by omega
      have b2 : (s.extract r (r + 1)).size = 1 := by rw [ByteArray.size_extract]; omega
      have b3 : t.size ≤ 10000 := by have := HT.out; omega
      go_wp2_with fail
      refine ⟨⟨j + 1, t ++ s.extract r (r + 1), by omega, by go_num, rfl, ?_, ?_, hd2, grown_trans hg hg2⟩, by simp [intOf]; omega⟩
      · have := HT.out
        rw [ByteArray.size_append, ByteArray.size_extract]; omega
      · intro x hx
        rw [bl_app] at hx
        rcases List.mem_append.1 hx with hx | hx
        · exact HALL.out x hx
        · exact mem_extract hx
    · go_wp2_with fail
      go_ret
      exact ⟨t, rfl, by rw [HT.out]; omega, HALL.out, hd, hg⟩
theorem grown_new {w w2 w3 : World} {g : Nat} {r : Option Nat} (h : w.grownBy w2 (some g)) (k : w2.grownBy w3 r) (hr : ∀ b, r = some b → w.heap.size ≤ b) : w.grownBy w3 (some g) :=
  ⟨k.os.trans h.os, k.tape.trans h.tape, k.output.trans h.output, Nat.le_trans h.size k.size, fun i hi hne => (k.block i (Nat.lt_of_lt_of_le hi h.size) (fun e => by have := hr i e.symm; omega)).trans (h.block i hi hne)⟩
theorem own_kept {base g : Nat} {w w' : World} {v : Value} {l : List UInt8} (h : Own base w v l) (hg : w.grownBy w' (some g)) (hlo : g < base) : Own base w' v l :=
  World.ownsRow.kept h hg (.inr (fun e => by have := (World.ownsRow.lt h _ e).1; omega))
theorem Dz.bytes {w : World} {g n c : Nat} {A : Option Addr} {l : List Int} (h : Dz w g A n c l) (m : Nat) (hm : m ≤ 1000) :
    Calls Try.prog 23 #[.pointer (some ⟨g, 0, none⟩), .int .i64 (m : Int)] w fun e w' => ∃ (v : Value) (x : List UInt8), e = .returned v ∧ Own w.heap.size w' v x ∧ x.length ≤ m ∧ Dz w' g A n c l ∧ w.grownBy w' (some g) := by
  obtain ⟨i0, hi, hz0, hz1, hzq⟩ := info_parts info5
  have hn := Lib.hid (fun u (hu : Dz u g A n c l) => hu.next (m + 1) (by omega) (by omega))
  go_enter Try.func23, Try.ntmps23
  go_wp2_with fail
  refine (hn.out _ h).mono ?_
  rintro e w1 ⟨r, hr, rfl, hd1, hg1⟩
  go_wp2_with fail
  have hlt := h.lt
  go_loopw [5, 6] (fun v i wr => ∃ (q : Nat) (x : List UInt8), q ≤ r ∧ i = .int .i64 q ∧ x.length + q = r ∧ Own w.heap.size wr v x ∧ Dz wr g A n c l ∧ w.grownBy wr (some g)) (fun _ i _ => (intOf i).toNat)
  case atStart => exact ⟨r, [], Nat.le_refl _, rfl, by simp, Own.nil, hd1, hg1⟩
  case round =>
    clear hd1 hg1 h
    obtain ⟨q, x, hq, rfl, hx, hown, hd, hg⟩ := hrel
    have HX := Lib.hid hx
    clear hx
    by_cases h0 : 0 < q
    · go_wp2_with fail
      refine hd.byte.mono ?_
      rintro e w2 ⟨y, rfl, hd2, hg2⟩
      have hown2 := own_kept hown hg2 hlt
      have hzz := (grown_trans hg hg2).size
      have hy := y.toNat_lt
      go_wp2_with (at_builtin; go_loud (refine wpList_append_rd _ rfl _ _ _ rfl w.heap.size 5 i0 _ 1 Try.underlying43 hi hz0 hz1 hzq rfl _ _ _ rfl (World.ownsRow.alloc hown2 _) _ _ 1 1 (bvs [y]) rfl rfl (Rd.new w2 _ _) (fun hh => by cases hh) (bvs_one _) (by have := HX.out; unfold maxLen; omega) (by have := HX.out; omega) (by simp; omega) ?_); intro v1 w3 hown3 hg3)
      have hob : ∀ b, Value.ownBlock u5 = some b → w.heap.size ≤ b := fun b hb => (World.ownsRow.lt hown2 b hb).1
      have hal := World.grownBy_alloc w2 (.cells #[.int .u8 (y.toNat : Int)] 5) (none : Option Nat)
      have hdA := hd2.grown hal (by simp) (fun k hk => by cases hk)
      have hd3 := hdA.grown hg3 (fun e => by have := hob _ e; omega) (fun k hk => by have := hob k hk; omega)
      have hgA := grown_new (grown_trans hg hg2) hal (fun b hb => by cases hb)
      have hg4 := grown_new hgA hg3 hob
      exact ⟨⟨q - 1, x ++ [y], by omega, vi (by omega), by have := HX.out; simp; omega, own_app hown3, hd3, hg4⟩, by simp [intOf]; omega⟩
    · go_wp2_with fail
      go_ret
      exact ⟨_, x, rfl, hown, by have := HX.out; omega, hd, hg⟩
end Go.Proofs.Ytigooekimkkhaaa.Made
namespace Go.Proofs.Ytigooekimkkhaaa.Made
open Go.RowKit Go.Proofs.Ytigooekimkkhaaa.Mem Go.Proofs.Ytigooekimkkhaaa.F2p
set_option maxRecDepth 100000
set_option maxHeartbeats 1000000

def mlims : Array Value := #[.int .i64 0, .int .i64 1, .int .i64 (-1), .int .i64 1000000, .int .i64 (-1000000), .int .i64 1000000000000, .int .i64 (-1000000000000), .int .i64 500000]
theorem mlims_at (r : Nat) (h : r < 8) : ∃ x : Int, mlims[r]? = some (.int .i64 x) ∧ -1000000000000 ≤ x ∧ x ≤ 1000000000000 := by
  match r, h with
  | 0, _ => exact ⟨0, rfl, by omega, by omega⟩
  | 1, _ => exact ⟨1, rfl, by omega, by omega⟩
  | 2, _ => exact ⟨-1, rfl, by omega, by omega⟩
  | 3, _ => exact ⟨1000000, rfl, by omega, by omega⟩
  | 4, _ => exact ⟨-1000000, rfl, by omega, by omega⟩
  | 5, _ => exact ⟨1000000000000, rfl, by omega, by omega⟩
  | 6, _ => exact ⟨-1000000000000, rfl, by omega, by omega⟩
  | 7, _ => exact ⟨500000, rfl, by omega, by omega⟩
theorem Dz.micro {w : World} {g n c : Nat} {A : Option Addr} {l : List Int} (h : Dz w g A n c l) :
    Calls Try.prog 59 #[.pointer (some ⟨g, 0, none⟩)] w fun e w' => ∃ x : Int, e = .returned (.int .i64 x) ∧ (-1000000000000 ≤ x ∧ x ≤ 1000000000000) ∧ Dz w' g A n c l ∧ w.grownBy w' (some g) := by
  have hlt := h.lt
  have hal0 := World.grownBy_alloc w (.cells mlims 100) (some g)
  have hd0 := h.grown (World.grownBy_alloc w (.cells mlims 100) none) (by simp) (fun k hk => by cases hk)
  have hst0 : (w.alloc (.cells mlims 100)).heap[w.heap.size]? = some (.cells mlims 100 (0, 0)) := heap_alloc_new w _
  have hsz0 : w.heap.size < (w.alloc (.cells mlims 100)).heap.size := by simp
  clear h
  go_enter Try.func59, Try.ntmps59
  go_wp2_with fail
  refine (hd0.next 3 (by omega) (by omega)).mono ?_
  rintro e w2 ⟨r, hr, rfl, hd2, hg2⟩
  have hst2 := (hg2.block w.heap.size hsz0 (fun e => by injection e; omega)).trans hst0
  have hgw2 := grown_trans hal0 hg2
  have hsz2 : w.heap.size < w2.heap.size := Nat.lt_of_lt_of_le hsz0 hg2.size
  clear hd0 hst0 hal0 hg2 hsz0
  by_cases r0 : r = 0
  · subst r0
    go_wp2_with fail
    refine (hd2.next 8 (by omega) (by omega)).mono ?_
    rintro e w3 ⟨q, hq, rfl, hd3, hg3⟩
    have hst3 := (hg3.block w.heap.size hsz2 (fun e => by injection e; omega)).trans hst2
    obtain ⟨x, hx, x1, x2⟩ := mlims_at q hq
    have hcell : w3.cell? ⟨w.heap.size, q, none⟩ = some (.int .i64 x) := (cell_of_row w3 w.heap.size q _ _ _ hst3).trans hx
    have b1 : (0 : Int) ≤ (q : Int) := by omega
    have b2 : (q : Int) < 8 := by omega
    clear hx hst3 hst2
    go_wp2_with fail
    go_ret
    exact ⟨x, rfl, ⟨x1, x2⟩, hd3, grown_trans hgw2 hg3⟩
  by_cases r1 : r = 1
  · subst r1
    go_wp2_with fail
    refine (hd2.next 2000001 (by omega) (by omega)).mono ?_
    rintro e w3 ⟨q, hq, rfl, hd3, hg3⟩
    go_wp2_with fail
    go_ret
    exact ⟨_, rfl, ⟨by omega, by omega⟩, hd3, grown_trans hgw2 hg3⟩
  have t0 : ((r : Int) == 0) = false := by rw [beq_eq_false_iff_ne]; omega
  have t1 : ((r : Int) == 1) = false := by rw [beq_eq_false_iff_ne]; omega
  clear hst2
  go_wp2_with fail
  refine (hd2.next 2000001 (by omega) (by omega)).mono ?_
  rintro e w3 ⟨q, hq, rfl, hd3, hg3⟩
  go_wp2_with fail
  refine (hd3.next 1000 (by omega) (by omega)).mono ?_
  rintro e w4 ⟨p, hp, rfl, hd4, hg4⟩
  obtain ⟨m1, m2⟩ := M3p.mul_le (a := ((q : Int) - 1000000) * 1000) (b := 1 + (p : Int)) (c := 1000000000) (d := 1000) (by omega) (by omega) (by omega) (by omega)
  go_wp2_with fail
  go_ret
  exact ⟨_, rfl, ⟨by omega, by omega⟩, hd4, grown_trans hgw2 (grown_trans hg3 hg4)⟩
end Go.Proofs.Ytigooekimkkhaaa.Made
namespace Go.Proofs.Ytigooekimkkhaaa.D5
open Go.RowKit Go.Proofs.Ytigooekimkkhaaa.Mem Go.Proofs.Ytigooekimkkhaaa.F2p Go.Proofs.Ytigooekimkkhaaa.Made Go.Proofs.Ytigooekimkkhaaa.M3p Go.Proofs.Ytigooekimkkhaaa.C4p Go.Proofs.Ytigooekimkkhaaa.C4l Go.Proofs.Ytigooekimkkhaaa.C4v
set_option maxRecDepth 100000
set_option maxHeartbeats 1000000

theorem lt_of_some {w : World} {b : Nat} {o : Obj} (h : w.heap[b]? = some o) : b < w.heap.size := by
  rcases Nat.lt_or_ge b w.heap.size with h1 | h1
  · exact h1
  · rw [Array.getElem?_eq_none h1] at h; cases h
theorem dz_drew {w : World} {g n c : Nat} {A : Option Addr} {l : List Int} (h : Dz w g A n c l) : Dz w.drew g A n c l := by
  obtain ⟨a, ha, hd⟩ := h.at_
  exact ⟨h.len, h.bnd, h.few, Rd.drew h.row, a, ha, hd⟩
/-- A conversion in a block of its own, among dice: where a walk of the dice's Conversion stands. r: the block of the result. -/
structure St (w0 w : World) (g n c : Nat) (A : Option Addr) (l : List Int) (r F : Nat) (rs cs : Array Value) : Prop where
  dz : Dz w g A n c l
  res : w.heap[r]? = some (.cells rs 26 (0, 0))
  cv : w.heap[F]? = some (.cells cs 26 (0, 0))
  gr : w0.grownBy w (some g)
  lo : w0.heap.size ≤ r ∧ r < F ∧ g < w0.heap.size
section
variable {w0 w w' : World} {g n c r F : Nat} {A : Option Addr} {l : List Int} {rs cs : Array Value}
theorem St.step (h : St w0 w g n c A l r F rs cs) (hd : Dz w' g A n c l) (hg : w.grownBy w' (some g)) : St w0 w' g n c A l r F rs cs :=
  ⟨hd, (hg.block r (lt_of_some h.res) (fun e => by injection e; have := h.lo; omega)).trans h.res, (hg.block F (lt_of_some h.cv) (fun e => by injection e; have := h.lo; omega)).trans h.cv, grown_trans h.gr hg, h.lo⟩
theorem St.next (h : St w0 w g n c A l r F rs cs) (k : Nat) (hk : 1 ≤ k) (hk2 : k ≤ 1000000000) :
    Calls Try.prog 21 #[.pointer (some ⟨g, 0, none⟩), .int .i64 (k : Int)] w fun e w' => ∃ q : Nat, q < k ∧ e = .returned (.int .i64 (q : Int)) ∧ St w0 w' g n c A l r F rs cs ∧ w.grownBy w' (some g) :=
  (h.dz.next k hk hk2).mono fun _ _ ⟨q, hq, he, hd, hg⟩ => ⟨q, hq, he, h.step hd hg, hg⟩
theorem St.bool (h : St w0 w g n c A l r F rs cs) (k : Nat) (hk : 1 ≤ k) (hk2 : k ≤ 1000000000) :
    Calls Try.prog 22 #[.pointer (some ⟨g, 0, none⟩), .int .i64 (k : Int)] w fun e w' => ∃ b : Bool, e = .returned (.bool b) ∧ St w0 w' g n c A l r F rs cs ∧ w.grownBy w' (some g) :=
  (h.dz.bool k hk hk2).mono fun _ _ ⟨b, he, hd, hg⟩ => ⟨b, he, h.step hd hg, hg⟩
theorem St.cell (h : St w0 w g n c A l r F rs cs) (i : Nat) : w.cell? ⟨F, i, none⟩ = cs[i]? := cell_of_row w F i _ _ _ h.cv
theorem St.fz (h : St w0 w g n c A l r F rs cs) (i : Nat) : w.frozen? ⟨F, i, none⟩ = false := frozen_of_row w F i _ _ h.cv
theorem St.rfz (h : St w0 w g n c A l r F rs cs) (i : Nat) : w.frozen? ⟨r, i, none⟩ = false := frozen_of_row w r i _ _ h.res
theorem St.rcell (h : St w0 w g n c A l r F rs cs) (i : Nat) : w.cell? ⟨r, i, none⟩ = rs[i]? := cell_of_row w r i _ _ _ h.res
theorem St.set (h : St w0 w g n c A l r F rs cs) (i : Nat) (v : Value) : St w0 (w.setCell ⟨F, i, none⟩ v) g n c A l r F rs (cs.setIfInBounds i v) :=
  ⟨h.dz.grown (set_grown w F i v) (fun e => by injection e; have := h.lo; omega) (fun k hk => by injection hk; have := h.lo; omega),
    (heap_setCell_other w ⟨F, i, none⟩ r v (fun e => by have := h.lo; simp at e; omega)).trans h.res, heap_setCell_same w F i _ _ v h.cv,
    grown_new h.gr (set_grown w F i v) (fun b hb => by injection hb; have := h.lo; omega), h.lo⟩
theorem St.rset (h : St w0 w g n c A l r F rs cs) (i : Nat) (v : Value) : St w0 (w.setCell ⟨r, i, none⟩ v) g n c A l r F (rs.setIfInBounds i v) cs :=
  ⟨h.dz.grown (set_grown w r i v) (fun e => by injection e; have := h.lo; omega) (fun k hk => by injection hk; have := h.lo; omega),
    heap_setCell_same w r i _ _ v h.res, (heap_setCell_other w ⟨r, i, none⟩ F v (fun e => by have := h.lo; simp at e; omega)).trans h.cv,
    grown_new h.gr (set_grown w r i v) (fun b hb => by injection hb; have := h.lo; omega), h.lo⟩
end
/-- A point more behind an ascending list. -/
theorem okp_snoc_some {s : Bool} {k : Int} {p : List Pt} {r : UInt8} {v : Int} (h : okp s (some k) p = true) (hk : k < num s r) (hl : ∀ q ∈ p, num s q.1 < num s r) (hv : -lim ≤ v ∧ v ≤ lim) : okp s (some k) (p ++ [(r, v)]) = true := by
  induction p generalizing k with
  | nil =>
    rw [List.nil_append, okp, Bool.and_eq_true, Bool.and_eq_true, decide_eq_true_eq, decide_eq_true_eq]
    exact ⟨⟨hv, hk⟩, rfl⟩
  | cons a p ih =>
    obtain ⟨r0, v0⟩ := a
    rw [okp, Bool.and_eq_true] at h
    rw [List.cons_append, okp, Bool.and_eq_true]
    exact ⟨h.1, ih h.2 (hl (r0, v0) (by simp)) (fun q hq => hl q (by simp [hq]))⟩
theorem okp_snoc {s : Bool} {p : List Pt} {r : UInt8} {v : Int} (h : okp s none p = true) (hl : ∀ q ∈ p, num s q.1 < num s r) (hv : -lim ≤ v ∧ v ≤ lim) : okp s none (p ++ [(r, v)]) = true := by
  rcases p with _ | ⟨⟨r0, v0⟩, p⟩
  · rw [List.nil_append, okp, Bool.and_eq_true, decide_eq_true_eq]
    exact ⟨hv, rfl⟩
  · rw [okp, Bool.and_eq_true] at h
    rw [List.cons_append, okp, Bool.and_eq_true]
    exact ⟨h.1, okp_snoc_some h.2 (hl (r0, v0) (by simp)) (fun q hq => hl q (by simp [hq])) hv⟩
theorem pown_kept {base g : Nat} {w w' : World} {v : Value} {p : List Pt} (h : POwn base w v p) (hg : w.grownBy w' (some g)) (hlo : g < base) : POwn base w' v p :=
  World.ownsRow.kept h hg (.inr (fun e => by have := (World.ownsRow.lt h _ e).1; omega))
theorem pown_base {base base' : Nat} {w : World} {v : Value} {p : List Pt} (h : POwn base w v p) (hb : base' ≤ base) : POwn base' w v p := by
  refine ⟨h.1, ?_⟩
  rcases h.2 with h1 | ⟨g, cap, cur, h1, h2, h3⟩
  · exact .inl h1
  · exact .inr ⟨g, cap, cur, h1, Nat.le_trans hb h2, h3⟩
theorem pown_out {base : Nat} {w : World} {v : Value} {p : List Pt} (h : POwn (base + 1) w v p) : POwn base w v p := pown_base h (Nat.le_succ _)
theorem pown_out7 {base r : Nat} {w : World} {v : Value} {p : List Pt} (h : POwn base w v p) (hr : r < base) (v0 v1 v2 v3 v4 v5 v6 : Value) :
    POwn base (((((((w.setCell ⟨r, 0, none⟩ v0).setCell ⟨r, 1, none⟩ v1).setCell ⟨r, 2, none⟩ v2).setCell ⟨r, 3, none⟩ v3).setCell ⟨r, 4, none⟩ v4).setCell ⟨r, 5, none⟩ v5).setCell ⟨r, 6, none⟩ v6) v p :=
  pown_kept (pown_kept (pown_kept (pown_kept (pown_kept (pown_kept (pown_kept h (set_grown _ r 0 _) hr) (set_grown _ r 1 _) hr) (set_grown _ r 2 _) hr) (set_grown _ r 3 _) hr) (set_grown _ r 4 _) hr) (set_grown _ r 5 _) hr) (set_grown _ r 6 _) hr
/-- The append of a point, as one step of a region that draws. -/
theorem step_append_p {ops : Array Oper} {o : Oper} {a : Act} {K : Act → World → Prop} {Q : Exit → Act → World → Prop} {E : Prop} (w : World) (hgd : o.guard = none) (s x : Operand)
    (ho : o.op = .call { callee := .builtin .append, args := #[s, x], argTypes := #[24, 24] })
    (base : Nat) (v : Value) (l : List Pt) (hs : a.eval s = v) (hown : POwn base w v l) (k : UInt8) (t : Int) (p : Addr) (c : Nat) (hx : a.eval x = .slice (some p) 1 c)
    (h0 : w.cell? p = some (.int .u8 (k.toNat : Int))) (h1 : w.cell? (p.add 1) = some (.int .i64 t)) (hl : l.length ≤ 1000) (hbase : base ≤ w.heap.size)
    (h : ∀ v' w', POwn base w' v' (l ++ [(k, t)]) → w.grownBy w' v.ownBlock → K (a.put o.dst v') w') : if Region.wanted o (yielded ops a.tmps) = true then Oper.wp Try.prog o a w K Q else E := by
  have hw : Region.wanted o (yielded ops a.tmps) = true := by simp [Region.wanted, hgd]
  rw [if_pos hw]
  obtain ⟨v', w', hrun, h2, h3⟩ := run_append_p w base o.type v l hown k t p c h0 h1 hl hbase
  unfold Oper.wp execOp
  simp only [ho, resolve, invoke, builtin, Sem.run_bind, Sem.run_pure, Result.andThen_ok, List.map_toArray, List.map_cons, List.map_nil, hs, hx, hrun]
  exact h v' w' h2 h3
theorem St.far {w0 w w' : World} {g n c r F : Nat} {A : Option Addr} {l : List Int} {rs cs : Array Value} {b : Option Nat} (h : St w0 w g n c A l r F rs cs) (hg : w.grownBy w' b) (hb : ∀ k, b = some k → F < k) : St w0 w' g n c A l r F rs cs :=
  ⟨h.dz.grown hg (fun e => by have := hb _ e; have := h.lo; omega) (fun k hk => by have := hb _ hk; have := h.lo; omega), (hg.block r (lt_of_some h.res) (fun e => by have := hb _ e.symm; have := h.lo; omega)).trans h.res,
    (hg.block F (lt_of_some h.cv) (fun e => by have := hb _ e.symm; omega)).trans h.cv, grown_new h.gr hg (fun k hk => by have := hb _ hk; have := h.lo; omega), h.lo⟩
theorem St.drew {w0 w : World} {g n c r F : Nat} {A : Option Addr} {l : List Int} {rs cs : Array Value} (h : St w0 w g n c A l r F rs cs) : St w0 w.drew g n c A l r F rs cs := ⟨dz_drew h.dz, h.res, h.cv, grown_drew h.gr, h.lo⟩
abbrev zs : Array Value := #[.int .i64 0, .bool false, .int .i64 0, .int .i64 0, .int .i64 0, .int .i64 0, .slice none 0 0]
theorem seven (v0 v1 v2 v3 v4 v5 v6 : Value) : ((((((zs.setIfInBounds 0 v0).setIfInBounds 1 v1).setIfInBounds 2 v2).setIfInBounds 3 v3).setIfInBounds 4 v4).setIfInBounds 5 v5).setIfInBounds 6 v6 = #[v0, v1, v2, v3, v4, v5, v6] := rfl
theorem St.out7 {w0 w : World} {g n c r F : Nat} {A : Option Addr} {l : List Int} {cs : Array Value} (h : St w0 w g n c A l r F zs cs) (v0 v1 v2 v3 v4 v5 v6 : Value) :
    St w0 (((((((w.setCell ⟨r, 0, none⟩ v0).setCell ⟨r, 1, none⟩ v1).setCell ⟨r, 2, none⟩ v2).setCell ⟨r, 3, none⟩ v3).setCell ⟨r, 4, none⟩ v4).setCell ⟨r, 5, none⟩ v5).setCell ⟨r, 6, none⟩ v6) g n c A l r F #[v0, v1, v2, v3, v4, v5, v6] cs := by
  have := ((((((h.rset 0 v0).rset 1 v1).rset 2 v2).rset 3 v3).rset 4 v4).rset 5 v5).rset 6 v6
  rw [seven] at this
  exact this
/-- What the dice's Conversion leaves. -/
def Cd (w : World) (g n c : Nat) (A : Option Addr) (l : List Int) (e : Ending) (w' : World) : Prop :=
  ∃ (f m b k1 k2 : Int) (s : Bool) (v : Value) (p : List Pt), e = .returned (.agg #[.int .i64 f, .bool s, .int .i64 m, .int .i64 b, .int .i64 k1, .int .i64 k2, v]) ∧ vld ⟨f, s, m, b, k1, k2, p⟩ = true ∧ POwn w.heap.size w' v p ∧ Dz w' g A n c l ∧ w.grownBy w' (some g)
theorem vld_l4 {f m b k1 k2 : Int} (s : Bool) (f1 : 1 ≤ f) (f4 : f ≤ 4) (m1 : -512 ≤ m) (m2 : m ≤ 511) (b1 : -512 ≤ b) (b2 : b ≤ 511) (g1 : -3 ≤ k1) (g2 : k1 ≤ 3) (g3 : -3 ≤ k2) (g4 : k2 ≤ 3) : C4p.vld ⟨f, s, m, b, k1, k2, []⟩ = true := by
  unfold C4p.vld
  rw [if_pos ⟨f1, f4⟩, decide_eq_true ⟨m1, m2, b1, b2, g1, g2, g3, g4⟩]
  rfl
theorem set0 (a b c d e f g v : Value) : #[a, b, c, d, e, f, g].setIfInBounds 0 v = #[v, b, c, d, e, f, g] := rfl
theorem set1 (a b c d e f g v : Value) : #[a, b, c, d, e, f, g].setIfInBounds 1 v = #[a, v, c, d, e, f, g] := rfl
theorem set2 (a b c d e f g v : Value) : #[a, b, c, d, e, f, g].setIfInBounds 2 v = #[a, b, v, d, e, f, g] := rfl
theorem set3 (a b c d e f g v : Value) : #[a, b, c, d, e, f, g].setIfInBounds 3 v = #[a, b, c, v, e, f, g] := rfl
theorem set4 (a b c d e f g v : Value) : #[a, b, c, d, e, f, g].setIfInBounds 4 v = #[a, b, c, d, v, f, g] := rfl
theorem set5 (a b c d e f g v : Value) : #[a, b, c, d, e, f, g].setIfInBounds 5 v = #[a, b, c, d, e, v, g] := rfl
theorem set6 (a b c d e f g v : Value) : #[a, b, c, d, e, f, g].setIfInBounds 6 v = #[a, b, c, d, e, f, v] := rfl
/-- The end: the conversion stands in the result's block. -/
theorem out {w0 w : World} {g n c r F : Nat} {A : Option Addr} {l : List Int} {cs : Array Value} {f m b k1 k2 : Int} {s : Bool} {v : Value} {p : List Pt} {a : Act}
    (h : St w0 w g n c A l r F #[.int .i64 f, .bool s, .int .i64 m, .int .i64 b, .int .i64 k1, .int .i64 k2, v] cs) (hv : vld ⟨f, s, m, b, k1, k2, p⟩ = true) (ho : POwn w0.heap.size w v p) (ht : a.tmps[2]? = some (.pointer (some ⟨r, 0, none⟩))) (hd : a.defers = []) :
    bodyPost Try.prog Try.f33 (Cd w0 g n c A l) .ret a w := by
  have e0 : w.cell? ⟨r, 0, none⟩ = some (.int .i64 f) := h.rcell 0
  have e1 : w.cell? ⟨r, 1, none⟩ = some (.bool s) := h.rcell 1
  have e2 : w.cell? ⟨r, 2, none⟩ = some (.int .i64 m) := h.rcell 2
  have e3 : w.cell? ⟨r, 3, none⟩ = some (.int .i64 b) := h.rcell 3
  have e4 : w.cell? ⟨r, 4, none⟩ = some (.int .i64 k1) := h.rcell 4
  have e5 : w.cell? ⟨r, 5, none⟩ = some (.int .i64 k2) := h.rcell 5
  have e6 : w.cell? ⟨r, 6, none⟩ = some v := h.rcell 6
  refine bodyPost_ret (v := .agg #[.int .i64 f, .bool s, .int .i64 m, .int .i64 b, .int .i64 k1, .int .i64 k2, v]) ?_ hd ⟨f, m, b, k1, k2, s, v, p, rfl, hv, ho, h.dz, h.gr⟩
  simp [results, Try.results33, go_sem, ht, e0, e1, e2, e3, e4, e5, e6]
theorem conv_any {w : World} {g n c : Nat} {A : Option Addr} {l : List Int} (h : Dz w g A n c l) :
    Calls Try.prog 33 #[.pointer (some ⟨g, 0, none⟩)] w (Cd w g n c A l) := by
  have hlt := h.lt
  have hal0 := World.grownBy_alloc w (.cells zs 26) (some g)
  have hd0 := h.grown (World.grownBy_alloc w (.cells zs 26) none) (by simp) (fun k hk => by cases hk)
  have hst0 : (w.alloc (.cells zs 26)).heap[w.heap.size]? = some (.cells zs 26 (0, 0)) := heap_alloc_new w _
  clear h
  go_enter Try.func33, Try.ntmps33
  go_wp2_with fail
  refine (hd0.next 5 (by omega) (by omega)).mono ?_
  rintro e w2 ⟨q, hq, rfl, hd2, hg2⟩
  have hst2 := (hg2.block w.heap.size (lt_of_some hst0) (fun e => by injection e; omega)).trans hst0
  have hgw2 := grown_trans hal0 hg2
  go_wp2_with fail
  refine (hd2.bool 2 (by omega) (by omega)).mono ?_
  rintro e w3 ⟨s, rfl, hd3, hg3⟩
  have hst3 := (hg3.block w.heap.size (lt_of_some hst2) (fun e => by injection e; omega)).trans hst2
  have hgw3 := grown_trans hgw2 hg3
  clear hd0 hal0 hst0 hg2 hd2 hst2 hgw2 hg3
  have hS : St w (w3.alloc (.cells #[.int .i64 (1 + (q : Int)), .bool s, .int .i64 0, .int .i64 0, .int .i64 0, .int .i64 0, .slice none 0 0] 26)) g n c A l w.heap.size w3.heap.size zs #[.int .i64 (1 + (q : Int)), .bool s, .int .i64 0, .int .i64 0, .int .i64 0, .int .i64 0, .slice none 0 0] :=
    ⟨hd3.grown (World.grownBy_alloc w3 _ none) (by simp) (fun k hk => by cases hk), (Below.heap_alloc w3 _ _ (lt_of_some hst3)).trans hst3, heap_alloc_new w3 _, grown_trans hgw3 (World.grownBy_alloc w3 _ (some g)), Nat.le_refl _, lt_of_some hst3, hlt⟩
  have hF := lt_of_some hst3
  clear hd3 hst3 hgw3
  by_cases h4 : q = 4
  · subst h4
    have e5 : (1 + ((4 : Nat) : Int)) = 5 := rfl
    rw [e5] at hS
    go_wp2_with fail
    clear e5
    generalize w3.heap.size = F at *
    generalize w3.alloc (.cells #[.int .i64 5, .bool s, .int .i64 0, .int .i64 0, .int .i64 0, .int .i64 0, .slice none 0 0] 26) = w4 at *
    refine (hS.next 11 (by omega) (by omega)).mono ?_
    rintro e w5 ⟨q1, hq1, rfl, hS5, -⟩
    have c5 : w5.cell? ⟨F, 1, none⟩ = some (.bool s) := hS5.cell 1
    clear hS
    go_wp2_with fail
    refine (least_r s _).mono ?_
    rintro e w' ⟨rfl, rfl⟩
    have hL1 := num_in s 0
    obtain ⟨L, hL⟩ : ∃ L, L = least s := ⟨_, rfl⟩
    have hL2 : L = -128 ∨ L = 0 := by rw [hL]; unfold least; split <;> simp
    rw [← hL]
    clear hL1
    go_wp2_with fail
    refine (hS5.next 40 (by omega) (by omega)).mono ?_
    rintro e w6 ⟨q2, hq2, rfl, hS6, -⟩
    clear hS5 c5
    have HL := Lib.hid hL
    clear hL
    have HRA := Lib.hid (fun z u h1 h2 => raw_r z u h1 h2)
    go_wp2_with fail
    go_loopw [5, 6] (fun v5 v6 wr => ∃ (i : Nat) (x : Int) (v : Value) (p : List Pt), i ≤ 2 + q1 ∧ v6 = .int .i64 (i : Int) ∧ v5 = .int .i64 x ∧ p.length = i ∧ L ≤ x ∧ x ≤ L + 39 + 18 * (i : Int) ∧ St w wr g n c A l w.heap.size F zs #[.int .i64 5, .bool s, .int .i64 0, .int .i64 0, .int .i64 0, .int .i64 0, v] ∧ POwn (F + 1) wr v p ∧ okp s none p = true ∧ ∀ q ∈ p, num s q.1 < x) (fun _ v6 _ => (2 + q1) - (intOf v6).toNat)
    case atStart => exact ⟨0, L + (q2 : Int), .slice none 0 0, [], by omega, rfl, vi (by rw [← HL.out]; show wrap64 _ = _; unfold wrap64; omega), rfl, by omega, by omega, hS6, POwn.nil, rfl, fun q hq => by cases hq⟩
    case round =>
      obtain ⟨i, x, v, p, hi, rfl, rfl, hpl, hx1, hx2, hSr, hown, hok, hlow⟩ := hrel
      have HOK := Lib.hid hok
      have HLOW := Lib.hid hlow
      clear hok hlow hS6
      by_cases hlt : i < 2 + q1
      · have hSd := hSr.drew
        have hownd : POwn (F + 1) wr.drew v p := World.ownsRow.drew hown
        have k0 : wr.cell? ⟨F, 6, none⟩ = some v := hSr.cell 6
        have k0d : wr.drew.cell? ⟨F, 6, none⟩ = some v := hSd.cell 6
        have HMI := Lib.hid hSd.dz.micro
        have HSD := Lib.hid hSd
        have HOWND := Lib.hid hownd
        have hFg := hSr.lo
        clear hSr hown hSd hownd
        go_wp2_with fail
        go_region_law (first
            | (go_simp; go_at_call 58; refine (HRA.out _ _ (by omega) (by omega)).mono ?_; rintro e w' ⟨rfl, rfl⟩)
            | (go_simp; go_at_call 59; refine (HMI.out).mono ?_; rintro e w7 ⟨m, rfl, hm, hd7, hg7⟩; have hS7 := HSD.out.step hd7 hg7; have hown7 := pown_kept HOWND.out hg7 (by omega); have k7 : w7.cell? ⟨F, 6, none⟩ = some v := hS7.cell 6; have hsz7 := lt_of_some hS7.cv)
            | (go_loud (refine step_append_p (w7.alloc (.cells #[.int .u8 ((rawOf x).toNat : Int), .int .i64 m] 90)) rfl (.tmp 58) (.tmp 64) rfl (F + 1) v p rfl (World.ownsRow.alloc hown7 _) (rawOf x) m ⟨w7.heap.size, 0, none⟩ 1 rfl (cell_of_row _ w7.heap.size 0 _ _ _ (heap_alloc_new w7 _)) (cell_of_row _ w7.heap.size 1 _ _ _ (heap_alloc_new w7 _)) (by omega) (by rw [World.size_alloc]; omega) ?_); intro v9 w9 hown9 hg9; obtain ⟨A9, n9, c9, rfl, -⟩ := hown9.sl; have hS9 := (hS7.far (World.grownBy_alloc w7 _ none) (fun k hk => (by cases hk))).far hg9 (fun k hk => (by have := (World.ownsRow.lt hown7 _ hk).1; omega)); have k9 : w9.cell? ⟨F, 6, none⟩ = some v := hS9.cell 6; have f9 := hS9.fz 6))
        all_goals
          have hS10 := hS9.set 6 (.slice A9 n9 c9)
          rw [set6] at hS10
          have hown10 : POwn (F + 1) (w9.setCell ⟨F, 6, none⟩ (.slice A9 n9 c9)) (.slice A9 n9 c9) (p ++ [(rawOf x, m)]) := pown_kept hown9 (set_grown w9 F 6 _) (by omega)
          have hnum : num s (rawOf x) = x := num_raw (by rw [← HL.out]; exact hx1) (by rw [← HL.out]; omega)
          have HNUM := Lib.hid hnum
          have HM := Lib.hid hm
          generalize w9.setCell ⟨F, 6, none⟩ (.slice A9 n9 c9) = wa at *
          clear hS9 hown9 hg9 hS7 hown7 hd7 hg7 k9 f9 k7 k0 k0d hsz7 hnum hm
          go_wp2_with fail
          refine (hS10.next 18 (by omega) (by omega)).mono ?_
          rintro e wb ⟨q3, hq3, rfl, hSb, hgb⟩
          have hownb := pown_kept hown10 hgb (by omega)
          clear hS10 hown10 hgb
          go_wp2_with fail
          refine ⟨⟨i + 1, x + (1 + (q3 : Int)), .slice A9 n9 c9, p ++ [(rawOf x, m)], by omega, by go_num, rfl, by simp [hpl], by omega, by push_cast; omega, hSb, hownb, okp_snoc HOK.out (fun q hq => by rw [HNUM.out]; exact HLOW.out q hq) HM.out, ?_⟩, by simp [intOf]; omega⟩
          intro q hq
          rcases List.mem_append.1 hq with h | h
          · have := HLOW.out q h
            omega
          · simp at h
            subst h
            show num s (rawOf x) < _
            rw [HNUM.out]
            omega
      · obtain rfl : i = 2 + q1 := by omega
        obtain ⟨A0, n0, c0, rfl, -⟩ := hown.sl
        have a0 : wr.cell? ⟨F, 0, none⟩ = some (.int .i64 5) := hSr.cell 0
        have a1 : wr.cell? ⟨F, 1, none⟩ = some (.bool s) := hSr.cell 1
        have a2 : wr.cell? ⟨F, 2, none⟩ = some (.int .i64 0) := hSr.cell 2
        have a3 : wr.cell? ⟨F, 3, none⟩ = some (.int .i64 0) := hSr.cell 3
        have a4 : wr.cell? ⟨F, 4, none⟩ = some (.int .i64 0) := hSr.cell 4
        have a5 : wr.cell? ⟨F, 5, none⟩ = some (.int .i64 0) := hSr.cell 5
        have a6 : wr.cell? ⟨F, 6, none⟩ = some (.slice A0 n0 c0) := hSr.cell 6
        have k0 : wr.cell? ⟨w.heap.size, 0, none⟩ = some (.int .i64 0) := hSr.rcell 0
        have k1 : wr.cell? ⟨w.heap.size, 1, none⟩ = some (.bool false) := hSr.rcell 1
        have k2 : wr.cell? ⟨w.heap.size, 2, none⟩ = some (.int .i64 0) := hSr.rcell 2
        have k3 : wr.cell? ⟨w.heap.size, 3, none⟩ = some (.int .i64 0) := hSr.rcell 3
        have k4 : wr.cell? ⟨w.heap.size, 4, none⟩ = some (.int .i64 0) := hSr.rcell 4
        have k5 : wr.cell? ⟨w.heap.size, 5, none⟩ = some (.int .i64 0) := hSr.rcell 5
        have k6 : wr.cell? ⟨w.heap.size, 6, none⟩ = some (.slice none 0 0) := hSr.rcell 6
        have r0 := hSr.rfz 0
        have r1 := hSr.rfz 1
        have r2 := hSr.rfz 2
        have r3 := hSr.rfz 3
        have r4 := hSr.rfz 4
        have r5 := hSr.rfz 5
        have r6 := hSr.rfz 6
        have hfin := Lib.hid (hSr.out7 (.int .i64 5) (.bool s) (.int .i64 0) (.int .i64 0) (.int .i64 0) (.int .i64 0) (.slice A0 n0 c0))
        have HSR := Lib.hid hSr
        have HOWN := Lib.hid hown
        clear hSr hown
        go_wp2_with fail
        refine out (f := 5) (m := 0) (b := 0) (k1 := 0) (k2 := 0) (s := s) (v := .slice A0 n0 c0) (p := p) hfin.out ?_ ?_ ?_ ?_
        · rw [vld_five s p (by omega) (by omega)]
          exact HOK.out
        · have h7 := pown_out7 (r := w.heap.size) HOWN.out (by have := HSR.out.lo; omega) (.int .i64 5) (.bool s) (.int .i64 0) (.int .i64 0) (.int .i64 0) (.int .i64 0) (.slice A0 n0 c0)
          exact pown_base h7 (by have := HSR.out.lo; omega)
        · rfl
        · rfl
  · have hne : ((1 + (q : Int)) != 5) = true := by rw [bne_iff_ne]; omega
    go_wp2_with fail
    generalize w3.heap.size = F at *
    generalize w3.alloc (.cells #[.int .i64 (1 + (q : Int)), .bool s, .int .i64 0, .int .i64 0, .int .i64 0, .int .i64 0, .slice none 0 0] 26) = w4 at *
    refine (hS.next 1024 (by omega) (by omega)).mono ?_
    rintro e w5 ⟨q1, hq1, rfl, hS5, -⟩
    have c5 : w5.cell? ⟨F, 2, none⟩ = some (.int .i64 0) := hS5.cell 2
    have f5 := hS5.fz 2
    clear hS
    go_wp2_with fail
    have hS6 := hS5.set 2 (.int .i64 ((q1 : Int) - 512))
    rw [set2] at hS6
    refine (hS6.next 1024 (by omega) (by omega)).mono ?_
    rintro e w6 ⟨q2, hq2, rfl, hS6', -⟩
    have c6 : w6.cell? ⟨F, 3, none⟩ = some (.int .i64 0) := hS6'.cell 3
    have f6 := hS6'.fz 3
    clear hS5 c5 f5 hS6
    go_wp2_with fail
    have hS7 := hS6'.set 3 (.int .i64 ((q2 : Int) - 512))
    rw [set3] at hS7
    refine (hS7.bool 2 (by omega) (by omega)).mono ?_
    rintro e w7 ⟨bb, rfl, hS7', -⟩
    clear hS6' c6 f6 hS7
    rcases bb with _ | _
    · go_wp2_with fail
      refine (hS7'.next 7 (by omega) (by omega)).mono ?_
      rintro e w8 ⟨q5, hq5, rfl, hS8, -⟩
      have c8 : w8.cell? ⟨F, 4, none⟩ = some (.int .i64 0) := hS8.cell 4
      have f8 := hS8.fz 4
      clear hS7'
      go_wp2_with fail
      have hS8' := hS8.set 4 (.int .i64 ((q5 : Int) - 3))
      rw [set4] at hS8'
      refine (hS8'.next 7 (by omega) (by omega)).mono ?_
      rintro e w9 ⟨q6, hq6, rfl, hS9, -⟩
      clear hS8 hS8' c8 f8
      have hS10 := hS9.set 5 (.int .i64 ((q6 : Int) - 3))
      rw [set5] at hS10
      have a0 : (w9.setCell ⟨F, 5, none⟩ (.int .i64 ((q6 : Int) - 3))).cell? ⟨F, 0, none⟩ = some (.int .i64 (1 + (q : Int))) := hS10.cell 0
      have a1 : (w9.setCell ⟨F, 5, none⟩ (.int .i64 ((q6 : Int) - 3))).cell? ⟨F, 1, none⟩ = some (.bool s) := hS10.cell 1
      have a2 : (w9.setCell ⟨F, 5, none⟩ (.int .i64 ((q6 : Int) - 3))).cell? ⟨F, 2, none⟩ = some (.int .i64 ((q1 : Int) - 512)) := hS10.cell 2
      have a3 : (w9.setCell ⟨F, 5, none⟩ (.int .i64 ((q6 : Int) - 3))).cell? ⟨F, 3, none⟩ = some (.int .i64 ((q2 : Int) - 512)) := hS10.cell 3
      have a4 : (w9.setCell ⟨F, 5, none⟩ (.int .i64 ((q6 : Int) - 3))).cell? ⟨F, 4, none⟩ = some (.int .i64 ((q5 : Int) - 3)) := hS10.cell 4
      have a5 : (w9.setCell ⟨F, 5, none⟩ (.int .i64 ((q6 : Int) - 3))).cell? ⟨F, 5, none⟩ = some (.int .i64 ((q6 : Int) - 3)) := hS10.cell 5
      have a6 : (w9.setCell ⟨F, 5, none⟩ (.int .i64 ((q6 : Int) - 3))).cell? ⟨F, 6, none⟩ = some (.slice none 0 0) := hS10.cell 6
      have k0 : (w9.setCell ⟨F, 5, none⟩ (.int .i64 ((q6 : Int) - 3))).cell? ⟨w.heap.size, 0, none⟩ = some (.int .i64 0) := hS10.rcell 0
      have k1 : (w9.setCell ⟨F, 5, none⟩ (.int .i64 ((q6 : Int) - 3))).cell? ⟨w.heap.size, 1, none⟩ = some (.bool false) := hS10.rcell 1
      have k2 : (w9.setCell ⟨F, 5, none⟩ (.int .i64 ((q6 : Int) - 3))).cell? ⟨w.heap.size, 2, none⟩ = some (.int .i64 0) := hS10.rcell 2
      have k3 : (w9.setCell ⟨F, 5, none⟩ (.int .i64 ((q6 : Int) - 3))).cell? ⟨w.heap.size, 3, none⟩ = some (.int .i64 0) := hS10.rcell 3
      have k4 : (w9.setCell ⟨F, 5, none⟩ (.int .i64 ((q6 : Int) - 3))).cell? ⟨w.heap.size, 4, none⟩ = some (.int .i64 0) := hS10.rcell 4
      have k5 : (w9.setCell ⟨F, 5, none⟩ (.int .i64 ((q6 : Int) - 3))).cell? ⟨w.heap.size, 5, none⟩ = some (.int .i64 0) := hS10.rcell 5
      have k6 : (w9.setCell ⟨F, 5, none⟩ (.int .i64 ((q6 : Int) - 3))).cell? ⟨w.heap.size, 6, none⟩ = some (.slice none 0 0) := hS10.rcell 6
      have f9 := hS9.fz 5
      have r0 := hS10.rfz 0
      have r1 := hS10.rfz 1
      have r2 := hS10.rfz 2
      have r3 := hS10.rfz 3
      have r4 := hS10.rfz 4
      have r5 := hS10.rfz 5
      have r6 := hS10.rfz 6
      have c9 : w9.cell? ⟨F, 5, none⟩ = some (.int .i64 0) := hS9.cell 5
      have hfin := Lib.hid (hS10.out7 (.int .i64 (1 + (q : Int))) (.bool s) (.int .i64 ((q1 : Int) - 512)) (.int .i64 ((q2 : Int) - 512)) (.int .i64 ((q5 : Int) - 3)) (.int .i64 ((q6 : Int) - 3)) (.slice none 0 0))
      clear hS10
      go_wp2_with fail
      refine out (f := 1 + (q : Int)) (m := (q1 : Int) - 512) (b := (q2 : Int) - 512) (k1 := (q5 : Int) - 3) (k2 := (q6 : Int) - 3) (s := s) (v := .slice none 0 0) (p := []) hfin.out ?_ POwn.nil ?_ ?_
      · exact vld_l4 s (by omega) (by omega) (by omega) (by omega) (by omega) (by omega) (by omega) (by omega) (by omega) (by omega)
      · rfl
      · rfl

    · go_wp2_with fail
      refine (hS7'.next 21 (by omega) (by omega)).mono ?_
      rintro e w10 ⟨q3, hq3, rfl, hSa, -⟩
      have ca : w10.cell? ⟨F, 2, none⟩ = some (.int .i64 ((q1 : Int) - 512)) := hSa.cell 2
      have fa := hSa.fz 2
      clear hS7'
      go_wp2_with fail
      have hSb := hSa.set 2 (.int .i64 ((q3 : Int) - 10))
      rw [set2] at hSb
      refine (hSb.next 41 (by omega) (by omega)).mono ?_
      rintro e w11 ⟨q4, hq4, rfl, hSc, -⟩
      have cb : w11.cell? ⟨F, 3, none⟩ = some (.int .i64 ((q2 : Int) - 512)) := hSc.cell 3
      have fb := hSc.fz 3
      clear hSa hSb ca fa
      go_wp2_with fail
      have hSd := hSc.set 3 (.int .i64 ((q4 : Int) - 20))
      rw [set3] at hSd
      refine (hSd.next 7 (by omega) (by omega)).mono ?_
      rintro e w8 ⟨q5, hq5, rfl, hS8, -⟩
      have c8 : w8.cell? ⟨F, 4, none⟩ = some (.int .i64 0) := hS8.cell 4
      have f8 := hS8.fz 4
      clear hSc hSd cb fb
      go_wp2_with fail
      have hS8' := hS8.set 4 (.int .i64 ((q5 : Int) - 3))
      rw [set4] at hS8'
      refine (hS8'.next 7 (by omega) (by omega)).mono ?_
      rintro e w9 ⟨q6, hq6, rfl, hS9, -⟩
      clear hS8 hS8' c8 f8
      have hS10 := hS9.set 5 (.int .i64 ((q6 : Int) - 3))
      rw [set5] at hS10
      have a0 : (w9.setCell ⟨F, 5, none⟩ (.int .i64 ((q6 : Int) - 3))).cell? ⟨F, 0, none⟩ = some (.int .i64 (1 + (q : Int))) := hS10.cell 0
      have a1 : (w9.setCell ⟨F, 5, none⟩ (.int .i64 ((q6 : Int) - 3))).cell? ⟨F, 1, none⟩ = some (.bool s) := hS10.cell 1
      have a2 : (w9.setCell ⟨F, 5, none⟩ (.int .i64 ((q6 : Int) - 3))).cell? ⟨F, 2, none⟩ = some (.int .i64 ((q3 : Int) - 10)) := hS10.cell 2
      have a3 : (w9.setCell ⟨F, 5, none⟩ (.int .i64 ((q6 : Int) - 3))).cell? ⟨F, 3, none⟩ = some (.int .i64 ((q4 : Int) - 20)) := hS10.cell 3
      have a4 : (w9.setCell ⟨F, 5, none⟩ (.int .i64 ((q6 : Int) - 3))).cell? ⟨F, 4, none⟩ = some (.int .i64 ((q5 : Int) - 3)) := hS10.cell 4
      have a5 : (w9.setCell ⟨F, 5, none⟩ (.int .i64 ((q6 : Int) - 3))).cell? ⟨F, 5, none⟩ = some (.int .i64 ((q6 : Int) - 3)) := hS10.cell 5
      have a6 : (w9.setCell ⟨F, 5, none⟩ (.int .i64 ((q6 : Int) - 3))).cell? ⟨F, 6, none⟩ = some (.slice none 0 0) := hS10.cell 6
      have k0 : (w9.setCell ⟨F, 5, none⟩ (.int .i64 ((q6 : Int) - 3))).cell? ⟨w.heap.size, 0, none⟩ = some (.int .i64 0) := hS10.rcell 0
      have k1 : (w9.setCell ⟨F, 5, none⟩ (.int .i64 ((q6 : Int) - 3))).cell? ⟨w.heap.size, 1, none⟩ = some (.bool false) := hS10.rcell 1
      have k2 : (w9.setCell ⟨F, 5, none⟩ (.int .i64 ((q6 : Int) - 3))).cell? ⟨w.heap.size, 2, none⟩ = some (.int .i64 0) := hS10.rcell 2
      have k3 : (w9.setCell ⟨F, 5, none⟩ (.int .i64 ((q6 : Int) - 3))).cell? ⟨w.heap.size, 3, none⟩ = some (.int .i64 0) := hS10.rcell 3
      have k4 : (w9.setCell ⟨F, 5, none⟩ (.int .i64 ((q6 : Int) - 3))).cell? ⟨w.heap.size, 4, none⟩ = some (.int .i64 0) := hS10.rcell 4
      have k5 : (w9.setCell ⟨F, 5, none⟩ (.int .i64 ((q6 : Int) - 3))).cell? ⟨w.heap.size, 5, none⟩ = some (.int .i64 0) := hS10.rcell 5
      have k6 : (w9.setCell ⟨F, 5, none⟩ (.int .i64 ((q6 : Int) - 3))).cell? ⟨w.heap.size, 6, none⟩ = some (.slice none 0 0) := hS10.rcell 6
      have f9 := hS9.fz 5
      have r0 := hS10.rfz 0
      have r1 := hS10.rfz 1
      have r2 := hS10.rfz 2
      have r3 := hS10.rfz 3
      have r4 := hS10.rfz 4
      have r5 := hS10.rfz 5
      have r6 := hS10.rfz 6
      have c9 : w9.cell? ⟨F, 5, none⟩ = some (.int .i64 0) := hS9.cell 5
      have hfin := Lib.hid (hS10.out7 (.int .i64 (1 + (q : Int))) (.bool s) (.int .i64 ((q3 : Int) - 10)) (.int .i64 ((q4 : Int) - 20)) (.int .i64 ((q5 : Int) - 3)) (.int .i64 ((q6 : Int) - 3)) (.slice none 0 0))
      clear hS10
      go_wp2_with fail
      refine out (f := 1 + (q : Int)) (m := (q3 : Int) - 10) (b := (q4 : Int) - 20) (k1 := (q5 : Int) - 3) (k2 := (q6 : Int) - 3) (s := s) (v := .slice none 0 0) (p := []) hfin.out ?_ POwn.nil ?_ ?_
      · exact vld_l4 s (by omega) (by omega) (by omega) (by omega) (by omega) (by omega) (by omega) (by omega) (by omega) (by omega)
      · rfl
      · rfl

end Go.Proofs.Ytigooekimkkhaaa.D5
