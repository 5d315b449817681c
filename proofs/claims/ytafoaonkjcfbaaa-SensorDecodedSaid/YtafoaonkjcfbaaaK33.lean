/- Walks: the program's conversions: Encode. -/
import Derived.Test.YtafoaonkjcfbaaaK32
namespace Go.Proofs.Ytafoaonkjcfbaaa.P5
open Go.RowKit Go.Proofs.Ytafoaonkjcfbaaa.Mem Go.Proofs.Ytafoaonkjcfbaaa.M3p Go.Proofs.Ytafoaonkjcfbaaa.C4p Go.Proofs.Ytafoaonkjcfbaaa.C4l Go.Proofs.Ytafoaonkjcfbaaa.C4v Go.Proofs.Ytafoaonkjcfbaaa.P4
set_option maxRecDepth 100000
set_option maxHeartbeats 4000000

theorem or_128 (x : Nat) (h : x < 128) : bits .or .u8 (x : Int) 128 = ((x + 128 : Nat) : Int) := by
  have : ∀ x : Fin 128, bits .or .u8 ((x.val : Nat) : Int) 128 = ((x.val + 128 : Nat) : Int) := by decide +kernel
  exact this ⟨x, h⟩
theorem encn_p (f m b k1 k2 : Int) (s : Bool) (A : Option Addr) (n cp : Nat) (l : List Pt) (w : World) (hsl : PSl w A n cp l) (hv : C4p.vld ⟨f, s, m, b, k1, k2, l⟩ = false) :
    Calls Try.prog 102 #[.agg #[.int .i64 f, .bool s, .int .i64 m, .int .i64 b, .int .i64 k1, .int .i64 k2, .slice A n cp]] w fun e w' => e = .returned (.tuple #[.slice none 0 0, .int .i64 1]) ∧ Below w.heap.size w w' := by
  have hb1 : Below w.heap.size w (w.alloc (.cells #[.int .i64 f, .bool s, .int .i64 m, .int .i64 b, .int .i64 k1, .int .i64 k2, .slice A n cp] 54)) := (Below.refl _ _).alloc (Nat.le_refl _) _
  have HV := Lib.hid (by have := valid_p f m b k1 k2 s A n cp l _ (hsl.step hb1); rw [hv] at this; exact this)
  clear hsl hv
  go_enter Try.func102, Try.ntmps102
  go_wp2_with fail
  refine (HV.out).mono ?_
  rintro e w2 ⟨rfl, hb2⟩
  go_wp2_with fail
  go_ret2
  exact ⟨rfl, hb1.trans (hb2.mono hb1.size)⟩
theorem encp_p (f m b k1 k2 : Int) (s : Bool) (A : Option Addr) (n cp : Nat) (l : List Pt) (w : World) (hsl : PSl w A n cp l) (hv : C4p.vld ⟨f, s, m, b, k1, k2, l⟩ = true) :
    Calls Try.prog 102 #[.agg #[.int .i64 f, .bool s, .int .i64 m, .int .i64 b, .int .i64 k1, .int .i64 k2, .slice A n cp]] w fun e w' => ∃ u, e = .returned (.tuple #[u, .int .i64 0]) ∧ Mem.Own w.heap.size w' u (enc ⟨f, s, m, b, k1, k2, l⟩) ∧ Below w.heap.size w w' := by
  obtain ⟨w1, hw1⟩ : ∃ w1, w1 = w.alloc (.cells #[.int .i64 f, .bool s, .int .i64 m, .int .i64 b, .int .i64 k1, .int .i64 k2, .slice A n cp] 54) := ⟨_, rfl⟩
  have hb1 : Below w.heap.size w w1 := by rw [hw1]; exact (Below.refl _ _).alloc (Nat.le_refl _) _
  have hst : w1.heap[w.heap.size]? = some (.cells #[.int .i64 f, .bool s, .int .i64 m, .int .i64 b, .int .i64 k1, .int .i64 k2, .slice A n cp] 54 (0, 0)) := by rw [hw1]; exact heap_alloc_new w _
  have hlt : w.heap.size < w1.heap.size := by rw [hw1]; simp
  have HV := Lib.hid (by have := valid_p f m b k1 k2 s A n cp l w1 (hsl.step hb1); rw [hv] at this; exact this)
  obtain ⟨hhd, f1, f5⟩ := hd_nat hv
  dsimp only at hhd f1 f5
  have hn12 : n ≤ 12 := by
    rw [hsl.len]
    by_cases h5 : f = 5
    · exact (vld_tab hv h5).2.1.2
    · have : l = [] := (vld_lin hv h5).2.2
      rw [this]; exact Nat.zero_le _
  obtain ⟨H, hH⟩ : ∃ H, H = hd ⟨f, s, m, b, k1, k2, l⟩ := ⟨_, rfl⟩
  rw [← hH] at hhd
  have hen : enc ⟨f, s, m, b, k1, k2, l⟩ = if f = 5 then [H] ++ [UInt8.ofNat n] ++ body l else [H] ++ le m 2 ++ le b 2 ++ le k1 1 ++ le k2 1 := by
    unfold enc
    rw [← hH]
    split
    · rw [hsl.len]; rfl
    · simp
  have HEN := Lib.hid hen
  have hfx : ∃ x : Nat, f = (x : Int) ∧ x ≤ 5 := ⟨f.toNat, by omega, by omega⟩
  obtain ⟨x, rfl, hx5⟩ := hfx
  have hhx : (H.toNat : Int) = (x : Int) + if s = true then 128 else 0 := by rw [hhd]; split <;> simp
  have HH := Lib.hid hhx
  have hor := or_128 x (by omega)
  have hw8 : IntKind.u8.wrap (x : Int) = (x : Int) := by rw [IntKind.wrap_u8]; omega
  have HSL := Lib.hid hsl
  clear hen hH hhd hhx hsl hv
  go_enter Try.func102, Try.ntmps102
  go_wp2_with fail
  rw [← hw1]
  clear hw1
  refine (HV.out).mono ?_
  rintro e w2 ⟨rfl, hb2⟩
  have hbb : Below w.heap.size w w2 := hb1.trans (hb2.mono hb1.size)
  have hrow2 := (hb2.block _ hlt).trans hst
  have hcel : ∀ u, Below w2.heap.size w2 u → u.cell? ⟨w.heap.size, 0, none⟩ = some (.int .i64 (x : Int)) ∧ u.cell? ⟨w.heap.size, 1, none⟩ = some (.bool s) ∧ u.cell? ⟨w.heap.size, 2, none⟩ = some (.int .i64 m) ∧ u.cell? ⟨w.heap.size, 3, none⟩ = some (.int .i64 b) ∧ u.cell? ⟨w.heap.size, 4, none⟩ = some (.int .i64 k1) ∧ u.cell? ⟨w.heap.size, 5, none⟩ = some (.int .i64 k2) ∧ u.cell? ⟨w.heap.size, 6, none⟩ = some (.slice A n cp) := by
    intro u hu
    have hr := (hu.block w.heap.size (Nat.lt_of_lt_of_le hlt hb2.size)).trans hrow2
    exact ⟨(cell_of_row u _ 0 _ _ _ hr).trans rfl, (cell_of_row u _ 1 _ _ _ hr).trans rfl, (cell_of_row u _ 2 _ _ _ hr).trans rfl, (cell_of_row u _ 3 _ _ _ hr).trans rfl, (cell_of_row u _ 4 _ _ _ hr).trans rfl, (cell_of_row u _ 5 _ _ _ hr).trans rfl, (cell_of_row u _ 6 _ _ _ hr).trans rfl⟩
  have HC := Lib.hid hcel
  obtain ⟨c0, c1, c2, c3, c4, c5, c6⟩ := hcel w2 (Below.refl _ _)
  have hbu0 : ∀ y : Int, Below w2.heap.size w2 (w2.alloc (.cells #[.int .u8 y] 5)) := fun y => (Below.refl _ _).alloc (Nat.le_refl _) _
  have own0 : ∀ y : Int, y = (H.toNat : Int) → Mem.Own w2.heap.size (w2.alloc (.cells #[.int .u8 y] 5)) (.slice (some ⟨w2.heap.size, 0, none⟩) 1 1) [H] := fun y hy => own_of (World.ownsRow_lit (base := w2.heap.size) (e := 5) (size := 1) w2 #[.int .u8 y] 1 (Nat.le_refl _) (by unfold maxLen; omega) rfl) rfl (by simp [bvs, bv]; exact hy)
  have HO := Lib.hid own0
  have HBU := Lib.hid hbu0
  have hrowp : PRow w2.heap.size w2 A l := (Rd.below HSL.out.row hbb).more hbb.size
  have HRP := Lib.hid hrowp
  clear hst hlt hb1 hb2 hrow2 hcel own0 hbu0 hrowp HV
  by_cases h5 : x = 5
  · subst h5
    have e5 : ((5 : Nat) : Int) = 5 := rfl
    rw [e5] at hw8 hor c0
    have he := HEN.out
    rw [if_pos (show ((5 : Nat) : Int) = 5 from rfl)] at he
    cases s
    · have hbY := HBU.out 5
      obtain ⟨d0, d1, d2, d3, d4, d5, d6⟩ := HC.out _ hbY
      have hoY := HO.out 5 (by rw [HH.out]; simp)
      have hrY := Rd.below HRP.out hbY
      clear c2 c3 c4 c5 d1 d2 d3 d4 d5
      go_wp2_with fail
      refine (appp_p w2.heap.size _ [H] A n cp l _ hoY hrY HSL.out.len (by simp) hn12 (by simp)).mono ?_
      rintro e u1 ⟨x1, rfl, own1, hb1⟩
      go_wp2_with fail
      go_ret2
      exact ⟨_, rfl, by rw [he]; exact own1.base_ hbb.size, hbb.trans ((hbY.trans hb1).mono hbb.size)⟩
    · have hbY := HBU.out 133
      obtain ⟨d0, d1, d2, d3, d4, d5, d6⟩ := HC.out _ hbY
      have hoY := HO.out 133 (by rw [HH.out]; simp)
      have hrY := Rd.below HRP.out hbY
      clear c2 c3 c4 c5 d1 d2 d3 d4 d5
      go_wp2_with fail
      refine (appp_p w2.heap.size _ [H] A n cp l _ hoY hrY HSL.out.len (by simp) hn12 (by simp)).mono ?_
      rintro e u1 ⟨x1, rfl, own1, hb1⟩
      go_wp2_with fail
      go_ret2
      exact ⟨_, rfl, by rw [he]; exact own1.base_ hbb.size, hbb.trans ((hbY.trans hb1).mono hbb.size)⟩
  · have he := HEN.out
    rw [if_neg (by omega)] at he
    have hne : ((x : Int) == 5) = false := by rw [beq_eq_false_iff_ne]; omega
    clear c2 c3 c4 c5 c6
    cases s
    · have hbY := HBU.out (x : Int)
      obtain ⟨d0, d1, d2, d3, d4, d5, d6⟩ := HC.out _ hbY
      have hoY := HO.out (x : Int) (by rw [HH.out]; simp)
      go_wp2_with fail
      refine (appn_p w2.heap.size _ [H] m 2 _ hoY (by simp) (by omega) (by simp)).mono ?_
      rintro e u1 ⟨x1, rfl, own1, hb1⟩
      have hbu1 := hbY.trans hb1
      have hz1 := hbu1.size
      clear d0 d1 d2 d3 d4 d5 d6 hb1 hbY hoY
      obtain ⟨d0, d1, d2, d3, d4, d5, d6⟩ := HC.out _ hbu1
      go_wp2_with fail
      refine (appn_p w2.heap.size _ ([H] ++ le m 2) b 2 _ own1 hz1 (by omega) (by simp [le_len])).mono ?_
      rintro e u2 ⟨x2, rfl, own2, hb2⟩
      have hbu2 := hbu1.trans hb2
      have hz2 := hbu2.size
      clear d0 d1 d2 d3 d4 d5 d6 hb2 hbu1 own1
      obtain ⟨d0, d1, d2, d3, d4, d5, d6⟩ := HC.out _ hbu2
      go_wp2_with fail
      refine (appn_p w2.heap.size _ ([H] ++ le m 2 ++ le b 2) k1 1 _ own2 hz2 (by omega) (by simp [le_len])).mono ?_
      rintro e u3 ⟨x3, rfl, own3, hb3⟩
      have hbu3 := hbu2.trans hb3
      have hz3 := hbu3.size
      clear d0 d1 d2 d3 d4 d5 d6 hb3 hbu2 own2
      obtain ⟨d0, d1, d2, d3, d4, d5, d6⟩ := HC.out _ hbu3
      go_wp2_with fail
      refine (appn_p w2.heap.size _ ([H] ++ le m 2 ++ le b 2 ++ le k1 1) k2 1 _ own3 hz3 (by omega) (by simp [le_len])).mono ?_
      rintro e u4 ⟨x4, rfl, own4, hb4⟩
      go_wp2_with fail
      go_ret2
      exact ⟨_, rfl, by rw [he]; exact own4.base_ hbb.size, hbb.trans ((hbu3.trans hb4).mono hbb.size)⟩
    · have hbY := HBU.out ((x : Int) + 128)
      obtain ⟨d0, d1, d2, d3, d4, d5, d6⟩ := HC.out _ hbY
      have hoY := HO.out ((x : Int) + 128) (by rw [HH.out]; simp)
      go_wp2_with fail
      refine (appn_p w2.heap.size _ [H] m 2 _ hoY (by simp) (by omega) (by simp)).mono ?_
      rintro e u1 ⟨x1, rfl, own1, hb1⟩
      have hbu1 := hbY.trans hb1
      have hz1 := hbu1.size
      clear d0 d1 d2 d3 d4 d5 d6 hb1 hbY hoY
      obtain ⟨d0, d1, d2, d3, d4, d5, d6⟩ := HC.out _ hbu1
      go_wp2_with fail
      refine (appn_p w2.heap.size _ ([H] ++ le m 2) b 2 _ own1 hz1 (by omega) (by simp [le_len])).mono ?_
      rintro e u2 ⟨x2, rfl, own2, hb2⟩
      have hbu2 := hbu1.trans hb2
      have hz2 := hbu2.size
      clear d0 d1 d2 d3 d4 d5 d6 hb2 hbu1 own1
      obtain ⟨d0, d1, d2, d3, d4, d5, d6⟩ := HC.out _ hbu2
      go_wp2_with fail
      refine (appn_p w2.heap.size _ ([H] ++ le m 2 ++ le b 2) k1 1 _ own2 hz2 (by omega) (by simp [le_len])).mono ?_
      rintro e u3 ⟨x3, rfl, own3, hb3⟩
      have hbu3 := hbu2.trans hb3
      have hz3 := hbu3.size
      clear d0 d1 d2 d3 d4 d5 d6 hb3 hbu2 own2
      obtain ⟨d0, d1, d2, d3, d4, d5, d6⟩ := HC.out _ hbu3
      go_wp2_with fail
      refine (appn_p w2.heap.size _ ([H] ++ le m 2 ++ le b 2 ++ le k1 1) k2 1 _ own3 hz3 (by omega) (by simp [le_len])).mono ?_
      rintro e u4 ⟨x4, rfl, own4, hb4⟩
      go_wp2_with fail
      go_ret2
      exact ⟨_, rfl, by rw [he]; exact own4.base_ hbb.size, hbb.trans ((hbu3.trans hb4).mono hbb.size)⟩
end Go.Proofs.Ytafoaonkjcfbaaa.P5
