/- Walks: the program's package clock: the events of a change are told; arePaired; the reference's Mark. -/
import Derived.Test.YtncpbgmbneobiaaV9p
import Derived.Test.YtncpbgmbneobiaaV9c
import Derived.Test.YtncpbgmbneobiaaV7f
namespace Go.Proofs.Ytncpbgmbneobiaa.V9
open Go.RowKit Go.Proofs.Ytncpbgmbneobiaa.Mem Go.Proofs.Ytncpbgmbneobiaa.F2p Go.Proofs.Ytncpbgmbneobiaa.V7
set_option maxRecDepth 100000
set_option maxHeartbeats 1000000

theorem run_eqd (W : World) {a b c x y z : Nat} (ha : a < 256) (hb : b < 256) (hc : c < 256) (hx : x < 256) (hy : y < 256) (hz : z < 256) :
    (binOp .eql 31 (.agg #[.int .u8 (a : Int), .int .u8 (b : Int), .int .u8 (c : Int)]) (.agg #[.int .u8 (x : Int), .int .u8 (y : Int), .int .u8 (z : Int)])).run Try.prog W = .ok (.bool (decide (a = x ∧ b = y ∧ c = z))) W := by
  have h := run_equalIn_bytes (P := Try.prog) W 9998 31 5 3 Try.underlying31 Try.underlying5 (fun w => Try.sizeOf5 w) [UInt8.ofNat a, UInt8.ofNat b, UInt8.ofNat c] [UInt8.ofNat x, UInt8.ofNat y, UInt8.ofNat z] rfl rfl
  simp only [List.map, cell_nat ha, cell_nat hb, cell_nat hc, cell_nat hx, cell_nat hy, cell_nat hz] at h
  rw [run_eql_struct, show (10000 : Nat) = 9998 + 2 from rfl, h]
  show Result.ok _ W = _
  congr 2
  rw [Bool.eq_iff_iff]
  simp [ofNat_eq ha hx, ofNat_eq hb hy, ofNat_eq hc hz]
/-- Is an event that side of a change? -/
def side (e : Ev) (s : Nat) : Bool := decide (e.st = 18) && decide (e.ty = 111) && !e.de && decide (e.d0 = 5 ∧ e.d1 = s ∧ e.d2 = 255)
theorem side_second (e : Ev) : side e 128 = decide (mk e = 2) := by
  unfold side mk
  obtain ⟨id, time, gen, st, sn, ty, de, d0, d1, d2⟩ := e
  rw [Bool.eq_iff_iff]
  simp only [Bool.and_eq_true, decide_eq_true_eq, Bool.not_eq_true']
  constructor
  · rintro ⟨⟨⟨rfl, rfl⟩, rfl⟩, rfl, rfl, rfl⟩; simp
  · intro h
    split at h
    · rename_i hh
      obtain ⟨rfl, rfl, rfl, rfl, rfl⟩ := hh
      split at h
      · omega
      · split at h
        · rename_i h2; subst h2; simp
        · omega
    · omega
theorem side_first (e : Ev) : side e 0 = decide (mk e = 1) := by
  unfold side mk
  obtain ⟨id, time, gen, st, sn, ty, de, d0, d1, d2⟩ := e
  rw [Bool.eq_iff_iff]
  simp only [Bool.and_eq_true, decide_eq_true_eq, Bool.not_eq_true']
  constructor
  · rintro ⟨⟨⟨rfl, rfl⟩, rfl⟩, rfl, rfl, rfl⟩; simp
  · intro h
    split at h
    · rename_i hh
      obtain ⟨rfl, rfl, rfl, rfl, rfl⟩ := hh
      split at h
      · rename_i h2; subst h2; simp
      · split at h
        · omega
        · omega
    · omega
theorem side_p (e : Ev) (hf : e.Fit) (s : Nat) (hs : s < 256) (w : World) : Calls Try.prog 68 #[e.v, .int .u8 (s : Int)] w fun x w' => x = .returned (.bool (side e s)) ∧ Below w.heap.size w w' := by
  have hch := Lib.hid (fun u => (show Calls Try.prog 65 #[.int .u8 (s : Int), .int .u32 0] u fun x w' => x = .returned (.agg #[.int .u16 0, .int .u32 0, .int .u16 32, .int .u8 18, .int .u8 0, .int .u8 111, .bool false, .int .u8 5, .int .u8 (s : Int), .int .u8 255]) ∧ Below u.heap.size u w' from chg_p s 0 u))
  have hq := fun V => (show (binOp .eql 31 (.agg #[.int .u8 (e.d0 : Int), .int .u8 (e.d1 : Int), .int .u8 (e.d2 : Int)]) (.agg #[.int .u8 5, .int .u8 (s : Int), .int .u8 255])).run Try.prog V = .ok (.bool (decide (e.d0 = 5 ∧ e.d1 = s ∧ e.d2 = 255))) V from run_eqd V hf.d0 hf.d1 hf.d2 (show 5 < 256 by omega) hs (show 255 < 256 by omega))
  obtain ⟨R, hR⟩ : ∃ R, R = decide (e.d0 = 5 ∧ e.d1 = s ∧ e.d2 = 255) := ⟨_, rfl⟩
  have hB0 := Box.new w e
  have hs0 := (Below.refl w.heap.size w).alloc (Nat.le_refl _) (.cells e.cells 33)
  unfold side
  rw [← hR] at hq ⊢
  clear hR hf
  obtain ⟨id, time, gen, st, sn, ty, de, d0, d1, d2⟩ := e
  have hg : ∀ V, (eqGuard .eql 31 (.tmp 29) (.tmp 31) (.agg #[.int .u8 (d0 : Int), .int .u8 (d1 : Int), .int .u8 (d2 : Int)]) (.agg #[.int .u8 5, .int .u8 (s : Int), .int .u8 255])).run Try.prog V = .ok () V := fun V => run_eqGuard_agg V .eql 31 _ _ _ _ Try.eqGuardType31
  dsimp only [Ev.v, Ev.cells] at *
  replace hB0 := Lib.hid hB0
  replace hs0 := Lib.hid hs0
  go_enter Try.func68, Try.ntmps68
  go_wp2_with fail
  refine (hch.out _).mono ?_
  rintro x w1 ⟨rfl, hb1⟩
  have hB1 := hB0.out.below hb1 (by simp)
  have hlt : w.heap.size < w1.heap.size := hB1.lt
  have hs1 := Lib.hid (hs0.out.trans (hb1.mono (by simp)))
  have c3 := hB1.c3; have c5 := hB1.c5; have c6 := hB1.c6; have c7 := hB1.c7; have c8 := hB1.c8; have c9 := hB1.c9
  clear hb1 hB0 hs0 hB1
  by_cases h1 : st = 18
  · subst h1
    by_cases h2 : ty = 111
    · subst h2
      cases de
      · go_wp2_with fail
        go_ret
        exact ⟨by first | rfl | (simp; done), hs1.out.alloc hs1.out.size _⟩
      · go_wp2_with fail
        go_ret
        exact ⟨by simp, hs1.out.alloc hs1.out.size _⟩
    · have h2I : ((ty : Int) == 111) = false := by simp; omega
      go_wp2_with fail
      go_ret
      exact ⟨by first | rfl | (simp; done) | (simp [h2]; done), hs1.out.alloc hs1.out.size _⟩
  · have h1I : ((st : Int) == 18) = false := by simp; omega
    go_wp2_with fail
    go_ret
    exact ⟨by first | rfl | (simp; done) | (simp [h1]; done), hs1.out.alloc hs1.out.size _⟩
theorem second_p (e : Ev) (hf : e.Fit) (w : World) : Calls Try.prog 46 #[e.v] w fun x w' => x = .returned (.bool (decide (mk e = 2))) ∧ Below w.heap.size w w' := by
  have hsd := Lib.hid (fun u => side_p e hf 128 (by omega) u)
  rw [side_second] at hsd
  have hB0 := Lib.hid (Box.new w e)
  have hs0 := Lib.hid ((Below.refl w.heap.size w).alloc (Nat.le_refl _) (.cells e.cells 33))
  obtain ⟨R, hR⟩ : ∃ R, R = decide (mk e = 2) := ⟨_, rfl⟩
  rw [← hR] at hsd ⊢
  clear hR hf
  obtain ⟨id, time, gen, st, sn, ty, de, d0, d1, d2⟩ := e
  dsimp only [Ev.v, Ev.cells] at *
  go_enter Try.func46, Try.ntmps46
  go_wp2_with fail
  refine (hsd.out _).mono ?_
  rintro x w1 ⟨rfl, hb1⟩
  go_wp2_with fail
  go_ret
  exact ⟨rfl, hs0.out.trans (hb1.mono (by simp))⟩
theorem first_p (e : Ev) (hf : e.Fit) (w : World) : Calls Try.prog 67 #[e.v] w fun x w' => x = .returned (.bool (decide (mk e = 1))) ∧ Below w.heap.size w w' := by
  have hsd := Lib.hid (fun u => (show Calls Try.prog 68 #[e.v, .int .u8 0] u fun x w' => x = .returned (.bool (side e 0)) ∧ Below u.heap.size u w' from side_p e hf 0 (by omega) u))
  rw [side_first] at hsd
  have hB0 := Lib.hid (Box.new w e)
  have hs0 := Lib.hid ((Below.refl w.heap.size w).alloc (Nat.le_refl _) (.cells e.cells 33))
  obtain ⟨R, hR⟩ : ∃ R, R = decide (mk e = 1) := ⟨_, rfl⟩
  rw [← hR] at hsd ⊢
  clear hR hf
  obtain ⟨id, time, gen, st, sn, ty, de, d0, d1, d2⟩ := e
  dsimp only [Ev.v, Ev.cells] at *
  go_enter Try.func67, Try.ntmps67
  go_wp2_with fail
  refine (hsd.out _).mono ?_
  rintro x w1 ⟨rfl, hb1⟩
  go_wp2_with fail
  go_ret
  exact ⟨rfl, hs0.out.trans (hb1.mono (by simp))⟩
end Go.Proofs.Ytncpbgmbneobiaa.V9
