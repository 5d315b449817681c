/- Walks: the program's conversions: how many bytes a conversion has. -/
import Derived.Test.YtfnocgkhhbpiiaaP5b
namespace Go.Proofs.Ytfnocgkhhbpiiaa.P5
open Go.RowKit Go.Proofs.Ytfnocgkhhbpiiaa.Mem Go.Proofs.Ytfnocgkhhbpiiaa.M3p Go.Proofs.Ytfnocgkhhbpiiaa.C4p Go.Proofs.Ytfnocgkhhbpiiaa.C4l Go.Proofs.Ytfnocgkhhbpiiaa.C4v Go.Proofs.Ytfnocgkhhbpiiaa.P4
set_option maxRecDepth 100000
set_option maxHeartbeats 1000000

theorem andnot_128 (x : Nat) (h : x < 256) : bits .andNot .u8 (x : Int) 128 = ((x % 128 : Nat) : Int) := by
  have : ∀ x : Fin 256, bits .andNot .u8 ((x.val : Nat) : Int) 128 = ((x.val % 128 : Nat) : Int) := by decide +kernel
  exact this ⟨x, h⟩
/-- How many bytes the conversion has that l begins with; the error. -/
def esz (l : List UInt8) : Int × Int :=
  if l = [] then (0, 4)
  else if u8 l 0 % 128 < 1 ∨ 5 < u8 l 0 % 128 then (0, 6)
  else if u8 l 0 % 128 = 5 then
    if l.length < 2 then (0, 4)
    else if u8 l 1 < 2 ∨ 12 < u8 l 1 then (0, 6)
    else ((2 + 7 * u8 l 1 : Nat), 0)
  else (7, 0)
theorem u8_at {l : List UInt8} {i : Nat} (h : i < l.length) : u8 l i = l[i].toNat := by
  unfold u8
  rw [List.getD_eq_getElem?_getD, List.getElem?_eq_getElem h]
  rfl
theorem esize_p (A : Option Addr) (n c : Nat) (l : List UInt8) (w : World) (hsl : Sl w A n c l) (hn : n ≤ 1000000) :
    Calls Try.prog 28 #[.slice A n c] w fun e w' => e = .returned (.tuple #[.int .i64 (esz l).1, .int .i64 (esz l).2]) ∧ w = w' := by
  obtain ⟨R, hR⟩ : ∃ R, R = esz l := ⟨_, rfl⟩
  rw [← hR]
  unfold esz at hR
  have hln := hsl.len
  by_cases h0 : n = 0
  · subst h0
    rw [if_pos (List.eq_nil_of_length_eq_zero hln.symm)] at hR
    subst hR
    clear hln hsl
    go_enter Try.func28, Try.ntmps28
    go_wp2_with fail
    go_ret2
    exact ⟨rfl, rfl⟩
  have hl0 : 0 < l.length := by omega
  rw [if_neg (by intro e; rw [e] at hl0; simp at hl0), u8_at hl0] at hR
  obtain ⟨a, rfl, hab, hc0⟩ := row_at hsl.row hl0
  have hc0' : w.cell? a = some (.int .u8 (l[0].toNat : Int)) := hc0
  have hx8 := l[0].toNat_lt
  obtain ⟨x, hx⟩ : ∃ x, l[0].toNat = x := ⟨_, rfl⟩
  rw [hx] at hR hc0' hx8
  have han := andnot_128 x hx8
  obtain ⟨y, hy⟩ : ∃ y, x % 128 = y := ⟨_, rfl⟩
  rw [hy] at han hR
  have hyb : y < 128 := by omega
  have hne : ((n : Int) == 0) = false := by rw [beq_eq_false_iff_ne]; omega
  have HLN := Lib.hid hln
  clear hc0 hx hy hln
  by_cases h1 : y < 1
  · rw [if_pos (.inl h1)] at hR
    subst hR
    go_enter Try.func28, Try.ntmps28
    go_wp2_with fail
    go_ret2
    exact ⟨rfl, rfl⟩
  by_cases h5 : 5 < y
  · rw [if_pos (.inr h5)] at hR
    subst hR
    go_enter Try.func28, Try.ntmps28
    go_wp2_with fail
    go_ret2
    exact ⟨rfl, rfl⟩
  rw [if_neg (by omega)] at hR
  by_cases hy5 : y = 5
  case neg =>
    rw [if_neg hy5] at hR
    subst hR
    have hyne : ((y : Int) != 5) = true := by rw [bne_iff_ne]; omega
    go_enter Try.func28, Try.ntmps28
    go_wp2_with fail
    go_ret2
    exact ⟨rfl, rfl⟩
  subst hy5
  rw [if_pos rfl] at hR
  by_cases hn1 : n = 1
  · rw [if_pos (by rw [← HLN.out]; omega)] at hR
    subst hR
    subst hn1
    go_enter Try.func28, Try.ntmps28
    go_wp2_with fail
    go_ret2
    exact ⟨rfl, rfl⟩
  have hl1 : 1 < l.length := by rw [← HLN.out]; omega
  rw [if_neg (by omega), u8_at hl1] at hR
  obtain ⟨a2, e2, -, hc1⟩ := row_at hsl.row hl1
  injection e2 with e2
  subst e2
  have hc1' : w.cell? ⟨a.block, a.off + 1, none⟩ = some (.int .u8 (l[1].toNat : Int)) := hc1
  have hz8 := l[1].toNat_lt
  obtain ⟨z, hz⟩ : ∃ x, l[1].toNat = x := ⟨_, rfl⟩
  rw [hz] at hR hc1' hz8
  have hne1 : ((n : Int) == 1) = false := by rw [beq_eq_false_iff_ne]; omega
  clear hc1 hz
  by_cases g1 : z < 2
  · rw [if_pos (.inl g1)] at hR
    subst hR
    go_enter Try.func28, Try.ntmps28
    go_wp2_with fail
    go_ret2
    exact ⟨rfl, rfl⟩
  by_cases g2 : 12 < z
  · rw [if_pos (.inr g2)] at hR
    subst hR
    go_enter Try.func28, Try.ntmps28
    go_wp2_with fail
    go_ret2
    exact ⟨rfl, rfl⟩
  rw [if_neg (by omega)] at hR
  subst hR
  go_enter Try.func28, Try.ntmps28
  go_wp2_with fail
  go_ret2
  refine ⟨?_, rfl⟩
  congr 3
end Go.Proofs.Ytfnocgkhhbpiiaa.P5
