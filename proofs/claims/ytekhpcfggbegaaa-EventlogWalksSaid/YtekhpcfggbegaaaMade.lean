/- Walks: modulo and the dice of the made inputs. -/
import Derived.Test.YtekhpcfggbegaaaOwn
namespace Go.Proofs.Ytekhpcfggbegaaa.Made
open Go.RowKit Go.Proofs.Ytekhpcfggbegaaa.Mem
set_option maxRecDepth 100000
set_option maxHeartbeats 400000

theorem mod_any (n : Int) (m : Nat) (w : World) (h1 : -9223372036854775808 ≤ n) (h2 : n ≤ 9223372036854775807) (hm : 1 ≤ m) (hm2 : m ≤ 4611686018427387904) :
    Calls Try.prog 28 #[.int .i64 n, .int .i64 (m : Int)] w fun e w' => (∃ k : Nat, k < m ∧ e = .returned (.int .i64 (k : Int)) ∧ (k : Int) = n % (m : Int)) ∧ w = w' := by
  by_cases h0 : 0 ≤ n
  · have hk : 0 ≤ n % (m : Int) := Int.emod_nonneg _ (by omega)
    have hk2 : n % (m : Int) < m := Int.emod_lt_of_pos _ (by omega)
    have hm0 : ((m : Int) == 0) = false := by rw [beq_eq_false_iff_ne]; omega
    obtain ⟨k, hkk⟩ := Int.eq_ofNat_of_zero_le hk
    have hkm : k < m := by omega
    have HK := Lib.hid hkk
    have hr : IntKind.i64.wrap (n.tmod (m : Int)) = n % (m : Int) := by rw [Int.tmod_eq_emod_of_nonneg h0]; exact IntWalk.i64_in _ ⟨by omega, by omega⟩
    clear hkk
    go_enter Try.func28, Try.ntmps28
    go_wp2
    go_ret
    exact ⟨⟨k, hkm, ret_int HK.out, HK.out.symm⟩, rfl⟩
  · obtain ⟨q, hq⟩ : ∃ q : Int, n = -q := ⟨-n, by omega⟩
    subst hq
    have hm0 : ((m : Int) == 0) = false := by rw [beq_eq_false_iff_ne]; omega
    have ht : q.tmod (m : Int) = q % (m : Int) := Int.tmod_eq_emod_of_nonneg (by omega)
    have hk : 0 ≤ q % (m : Int) := Int.emod_nonneg _ (by omega)
    have hk2 : q % (m : Int) < m := Int.emod_lt_of_pos _ (by omega)
    have hd := Int.emod_add_mul_ediv q (m : Int)
    have hself : ∀ x : Int, 0 ≤ x → x < (m : Int) → (∃ z : Int, -q = x + (m : Int) * z) → x = -q % (m : Int) := by
      rintro x hx0 hx1 ⟨z, hz⟩
      rw [hz, Int.add_mul_emod_self_left, Int.emod_eq_of_lt hx0 hx1]
    have HF := Lib.hid hself
    have HD := Lib.hid hd
    clear hself hd h0
    generalize q % (m : Int) = r at *
    obtain ⟨s, rfl⟩ := Int.eq_ofNat_of_zero_le hk
    have hsm : s < m := by omega
    by_cases hs : s = 0
    · subst hs
      go_enter Try.func28, Try.ntmps28
      go_wp2
      go_ret
      refine ⟨⟨0, by omega, ret_int (by omega), HF.out 0 (by omega) (by omega) ⟨-(q / (m : Int)), ?_⟩⟩, rfl⟩
      have := HD.out
      rw [Int.mul_neg]; omega
    · have hneg : -(s : Int) < 0 := by omega
      go_enter Try.func28, Try.ntmps28
      go_wp2
      go_ret
      refine ⟨⟨m - s, by omega, ret_int (by omega), HF.out _ (by omega) (by omega) ⟨-(q / (m : Int)) - 1, ?_⟩⟩, rfl⟩
      have := HD.out
      rw [Int.mul_sub, Int.mul_neg]; omega
theorem mod_at (n v : Int) (m : Nat) (w : World) (hv : v = (m : Int)) (h1 : -9223372036854775808 ≤ n) (h2 : n ≤ 9223372036854775807) (hm : 1 ≤ m) (hm2 : m ≤ 4611686018427387904) :
    Calls Try.prog 28 #[.int .i64 n, .int .i64 v] w fun e w' => ∃ k : Nat, k < m ∧ e = .returned (.int .i64 (k : Int)) ∧ w = w' := by
  subst hv
  exact (mod_any n m w h1 h2 hm hm2).mono fun _ _ ⟨⟨k, h1, h2, _⟩, h3⟩ => ⟨k, h1, h2, h3⟩
/-- Block g is a pair of dice over the list at A. -/
def Dc (w : World) (g : Nat) (A : Option Addr) (n c at_ : Nat) : Prop := w.heap[g]? = some (.cells #[.slice A n c, .int .i64 (at_ : Int)] 99 (0, 0))
section
variable {w w' : World} {g n c a : Nat} {A : Option Addr}
theorem Dc.lt (h : Dc w g A n c a) : g < w.heap.size := by
  rcases Nat.lt_or_ge g w.heap.size with hlt | hge
  · exact hlt
  · unfold Dc at h; rw [Array.getElem?_eq_none hge] at h; cases h
theorem Dc.c0 (h : Dc w g A n c a) : w.cell? ⟨g, 0, none⟩ = some (.slice A n c) := by rw [cell_of_row w g 0 _ _ _ h]; rfl
theorem Dc.c1 (h : Dc w g A n c a) : w.cell? ⟨g, 1, none⟩ = some (.int .i64 (a : Int)) := by rw [cell_of_row w g 1 _ _ _ h]; rfl
theorem Dc.fz (h : Dc w g A n c a) (i : Nat) : w.frozen? ⟨g, i, none⟩ = false := frozen_of_row w g i _ _ h
theorem Dc.set (h : Dc w g A n c a) (b : Nat) : Dc (w.setCell ⟨g, 1, none⟩ (.int .i64 (b : Int))) g A n c b := by
  have := heap_setCell_same w g 1 _ _ (.int .i64 (b : Int)) h
  exact this
theorem Dc.keep (h : Dc w g A n c a) {r : Option Nat} (hg : w.grownBy w' r) (hne : some g ≠ r) : Dc w' g A n c a := (hg.block g h.lt hne).trans h
theorem Dc.below (h : Dc w g A n c a) {B : Nat} (hb : Below B w w') (hg : g < B) : Dc w' g A n c a := (hb.block g hg).trans h
theorem grown_below {B g : Nat} (h : Below B w w') (hB : B = w.heap.size) : w.grownBy w' (some g) := ⟨h.os, h.tape, h.output, h.size, fun i hi _ => h.block i (by omega)⟩
end

theorem mod_det (n : Int) (m : Nat) (w : World) (h1 : -9223372036854775808 ≤ n) (h2 : n ≤ 9223372036854775807) (hm : 1 ≤ m) (hm2 : m ≤ 4611686018427387904) :
    Calls Try.prog 28 #[.int .i64 n, .int .i64 (m : Int)] w fun e w' => e = .returned (.int .i64 (n % (m : Int))) ∧ w = w' :=
  (mod_any n m w h1 h2 hm hm2).mono fun _ _ ⟨⟨_, _, h2, h3⟩, h4⟩ => ⟨h2.trans (by rw [h3]), h4⟩

/-- What a draw leaves: a number below k; the dice, further on. -/
def Nx (w : World) (g : Nat) (A : Option Addr) (n c k : Nat) (e : Ending) (w' : World) : Prop := ∃ r a : Nat, r < k ∧ e = .returned (.int .i64 (r : Int)) ∧ a ≤ n ∧ Dc w' g A n c a ∧ w.grownBy w' (some g)

theorem next_any (g n c a k : Nat) (A : Option Addr) (l : List Int) (w : World) (hd : Dc w g A n c a) (hr : IRow g w A l) (hn : n = l.length) (hl : ∀ x ∈ l, -9223372036854775808 ≤ x ∧ x ≤ 9223372036854775807)
    (ha : a ≤ n) (hb : n ≤ 1000000) (hk : 1 ≤ k) (hk2 : k ≤ 1000000000) :
    Calls Try.prog 16 #[.pointer (some ⟨g, 0, none⟩), .int .i64 (k : Int)] w (Nx w g A n c k) := by
  have h0 := hd.c0
  have h1 := hd.c1
  have hf := hd.fz 1
  by_cases hge : n ≤ a
  · have hg1 : ((n : Int) ≤ (a : Int)) := by omega
    clear hn
    go_enter Try.func16, Try.ntmps16
    go_wp2_with fail
    go_quiet (fail)
    go_wp2_with fail
    go_ret
    exact ⟨0, a, by omega, rfl, ha, hd, grown_drewN (World.grownBy.refl _ _) _⟩
  · have hg1 : ¬ ((n : Int) ≤ (a : Int)) := by omega
    obtain ⟨q, rfl, hq, hcell⟩ := irow_at hr (k := a) (by omega)
    obtain ⟨hx1, hx2⟩ := hl _ (List.getElem_mem (by omega : a < l.length))
    have hcell2 : (w.setCell ⟨g, 1, none⟩ (.int .i64 ((a : Int) + 1))).cell? (q.add a) = some (.int .i64 l[a]) :=
      (World.cell?_setCell_other w _ (q.add a) _ (fun e => by have := congrArg Addr.block e; rw [add_block] at this; simp at this; omega)).trans hcell
    have hd2 : Dc (w.setCell ⟨g, 1, none⟩ (.int .i64 ((a : Int) + 1))) g (some q) n c (a + 1) := hd.set (a + 1)
    have hgr := set_grown w g 1 (.int .i64 ((a : Int) + 1))
    generalize l[a] = z at *
    have k0 := hd2.c0
    have k1 : (w.setCell ⟨g, 1, none⟩ (.int .i64 ((a : Int) + 1))).cell? ⟨g, 1, none⟩ = some (.int .i64 ((a : Int) + 1)) := hd2.c1
    clear hn hcell
    go_enter Try.func16, Try.ntmps16
    go_wp2_with fail
    go_quiet (fail)
    go_wp2_with fail
    rw [show ((w.drewN nq).setCell ⟨g, 1, none⟩ (.int .i64 ((a : Int) + 1))) = (w.setCell ⟨g, 1, none⟩ (.int .i64 ((a : Int) + 1))).drewN nq from rfl]
    generalize w.setCell ⟨g, 1, none⟩ (.int .i64 ((a : Int) + 1)) = w2 at *
    have hm := fun u => mod_det z k (w2.drewN u) hx1 hx2 hk (by omega)
    have HM := Lib.hid hm; clear hm
    have b1 : (0 : Int) ≤ (a : Int) := by omega
    have b2 : (a : Int) < (n : Int) := by omega
    have w1 := IntWalk.i64_in (a : Int) ⟨by omega, by omega⟩
    go_quiet ((go_at_call 28; exact quiet_more (HM.out _)))
    go_wp2_with fail
    go_ret
    have e0 : 0 ≤ z % (k : Int) := Int.emod_nonneg _ (by omega)
    have e1 : z % (k : Int) < (k : Int) := Int.emod_lt_of_pos _ (by omega)
    exact ⟨(z % (k : Int)).toNat, a + 1, by omega, ret_int (by omega), by omega, hd2, grown_drewN (grown_drewN hgr _) _⟩
theorem bool_any (g n c a k : Nat) (A : Option Addr) (l : List Int) (w : World) (hd : Dc w g A n c a) (hr : IRow g w A l) (hn : n = l.length) (hl : ∀ x ∈ l, -9223372036854775808 ≤ x ∧ x ≤ 9223372036854775807)
    (ha : a ≤ n) (hb : n ≤ 1000000) (hk : 1 ≤ k) (hk2 : k ≤ 1000000000) :
    Calls Try.prog 17 #[.pointer (some ⟨g, 0, none⟩), .int .i64 (k : Int)] w fun e w' => ∃ (b : Bool) (a' : Nat), e = .returned (.bool b) ∧ a' ≤ n ∧ Dc w' g A n c a' ∧ w.grownBy w' (some g) := by
  have hc := next_any g n c a k A l w hd hr hn hl ha hb hk hk2
  have HC := Lib.hid hc; clear hc hn hl
  go_enter Try.func17, Try.ntmps17
  go_wp2_with fail
  refine HC.out.mono ?_
  rintro e w' ⟨r, a', hr', rfl, ha', hd', hg'⟩
  go_wp2_with fail
  go_ret
  exact ⟨_, a', rfl, ha', hd', hg'⟩
theorem irow_grown {g : Nat} {w w' : World} {A : Option Addr} {l : List Int} (h : IRow g w A l) (hg : w.grownBy w' (some g)) (hlt : g < w.heap.size) : IRow g w' A l :=
  Rd.keep h fun p hp => World.cell?_of_block (hg.block p.block (by omega) (fun e => by injection e; omega))
def lims : Array Value := #[.int .u8 0, .int .u8 1, .int .u8 127, .int .u8 128, .int .u8 254, .int .u8 255, .int .u8 15, .int .u8 240]
theorem lims_at (r : Nat) (h : r < 8) : ∃ x : UInt8, lims[r]? = some (.int .u8 (x.toNat : Int)) := by
  match r, h with
  | 0, _ => exact ⟨0, rfl⟩
  | 1, _ => exact ⟨1, rfl⟩
  | 2, _ => exact ⟨127, rfl⟩
  | 3, _ => exact ⟨128, rfl⟩
  | 4, _ => exact ⟨254, rfl⟩
  | 5, _ => exact ⟨255, rfl⟩
  | 6, _ => exact ⟨15, rfl⟩
  | 7, _ => exact ⟨240, rfl⟩
theorem byte_any (g n c a : Nat) (A : Option Addr) (l : List Int) (w : World) (hd : Dc w g A n c a) (hr : IRow g w A l) (hn : n = l.length) (hl : ∀ x ∈ l, -9223372036854775808 ≤ x ∧ x ≤ 9223372036854775807)
    (ha : a ≤ n) (hb : n ≤ 1000000) :
    Calls Try.prog 31 #[.pointer (some ⟨g, 0, none⟩)] w fun e w' => ∃ (x : UInt8) (a' : Nat), e = .returned (.int .u8 (x.toNat : Int)) ∧ a' ≤ n ∧ Dc w' g A n c a' ∧ w.grownBy w' (some g) := by
  have HN := Lib.hid hn; have HL := Lib.hid hl; clear hn hl
  go_enter Try.func31, Try.ntmps31
  go_wp2_with fail
  have hlt := hd.lt
  have hal := World.grownBy_alloc w (.cells lims 108) (some g)
  have hd0 := hd.keep (World.grownBy_alloc w (.cells lims 108) none) (by simp)
  have hr0 := irow_grown hr hal hlt
  have hnew : (w.alloc (.cells lims 108)).heap[w.heap.size]? = some (.cells lims 108 (0, 0)) := heap_alloc_new w _
  have hsz : w.heap.size < (w.alloc (.cells lims 108)).heap.size := by simp
  have hc := bool_any g n c a 3 A l _ hd0 hr0 HN.out HL.out ha hb (by omega) (by omega)
  have HC := Lib.hid hc; clear hc
  refine HC.out.mono ?_
  rintro e w1 ⟨b, a1, rfl, ha1, hd1, hg1⟩
  have hr1 := irow_grown hr0 hg1 hd0.lt
  have hb1 : w1.heap[w.heap.size]? = some (.cells lims 108 (0, 0)) := (hg1.block _ hsz (fun e => by injection e; omega)).trans hnew
  have hga := grown_trans hal hg1
  have hsz1 : w.heap.size < w1.heap.size := Nat.lt_of_lt_of_le hsz hg1.size
  clear hd hr hal hd0 hr0 hnew hsz HC hg1
  rcases b with _ | _
  · go_wp2_with fail
    have hc := next_any g n c a1 256 A l w1 hd1 hr1 HN.out HL.out ha1 hb (by omega) (by omega)
    refine hc.mono ?_
    clear hc
    rintro e w2 ⟨r, a2, hr2, rfl, ha2, hd2, hg2⟩
    go_wp2_with fail
    go_ret
    refine ⟨UInt8.ofNat r, a2, ret_int ?_, ha2, hd2, grown_trans hga hg2⟩
    rw [UInt8.toNat_ofNat']; omega
  · go_wp2_with fail
    have hc := next_any g n c a1 8 A l w1 hd1 hr1 HN.out HL.out ha1 hb (by omega) (by omega)
    refine hc.mono ?_
    clear hc
    rintro e w2 ⟨r, a2, hr2, rfl, ha2, hd2, hg2⟩
    have hb2 : w2.heap[w.heap.size]? = some (.cells lims 108 (0, 0)) := (hg2.block _ hsz1 (fun e => by injection e; omega)).trans hb1
    obtain ⟨x, hx⟩ := lims_at r hr2
    have hcell : w2.cell? ⟨w.heap.size, r, none⟩ = some (.int .u8 (x.toNat : Int)) := (cell_of_row w2 w.heap.size r _ _ _ hb2).trans hx
    have b1 : (0 : Int) ≤ (r : Int) := by omega
    have b2 : (r : Int) < 8 := by omega
    clear hx hb2 hb1
    go_wp2_with fail
    go_ret
    exact ⟨x, a2, rfl, ha2, hd2, grown_trans hga hg2⟩
theorem roll_any (A : Option Addr) (n c : Nat) (w : World) :
    Calls Try.prog 13 #[.slice A n c] w fun e w' => e = .returned (.pointer (some ⟨w.heap.size, 0, none⟩)) ∧ w' = w.alloc (.cells #[.slice A n c, .int .i64 0] 99) := by
  go_enter Try.func13, Try.ntmps13
  go_wp2
  go_ret
  exact ⟨rfl, rfl⟩
theorem lightmade_any (A : Option Addr) (n c : Nat) (w : World) (hn : n ≤ maxLen) :
    Calls Try.prog 11 #[.slice A n c] w fun e w' => e = .returned (.bool (decide (n ≤ 600))) ∧ w = w' := by
  unfold maxLen at hn
  go_enter Try.func11, Try.ntmps11
  go_wp2
  go_ret
  exact ⟨ret_bool (by simp; omega), rfl⟩
end Go.Proofs.Ytekhpcfggbegaaa.Made
