/- Walks: the sanity check of the statements of layer 2. -/
import Derived.Test.YtkhdldemhaifpaaFh
import Derived.Test.YtkhdldemhaifpaaSame
namespace Go.Proofs.Ytkhdldemhaifpaa.Fa
open Go.RowKit Go.Proofs.Ytkhdldemhaifpaa.Mem Go.Proofs.Ytkhdldemhaifpaa.F2p Go.Proofs.Ytkhdldemhaifpaa.Same
set_option maxRecDepth 100000
set_option maxHeartbeats 1000000

def ipmi : ByteArray := ⟨#[73, 80, 77, 73]⟩
def t125 : ByteArray := ⟨#[49, 50, 46, 53]⟩
def ta : ByteArray := ⟨#[97]⟩
theorem ipmi_v : vld 2 (bl ipmi) = true := by decide +kernel
theorem ipmi_e : enc 2 (bl ipmi) = [131, 41, 220, 166] := by decide +kernel
theorem t125_b : best (bl t125) = (1, bl t125, 0) := by decide +kernel
theorem ta_b : best (bl ta) = (0, [], 6) := by decide +kernel
theorem awake_any (w : World) :
    Calls Try.prog 14 #[] w fun e w' => e = .returned (.bool true) ∧ Below w.heap.size w w' := by
  go_enter Try.func14, Try.ntmps14
  go_wp2_with fail
  refine (enc_yes 2 ipmi _ ipmi_v (by decide)).mono ?_
  rintro e w1 ⟨A, n, c, rfl, -, hs1, hb1⟩
  rw [ipmi_e] at hs1
  go_wp2_with fail
  refine (best_p t125 _ (by decide)).mono ?_
  rintro e w2 ⟨rfl, hb2⟩
  rw [t125_b]
  unfold bout
  go_wp2_with fail
  refine (best_p ta _ (by decide)).mono ?_
  rintro e w3 ⟨rfl, hb3⟩
  rw [ta_b]
  unfold bout
  go_wp2_with fail
  have hn4 : ∀ W : World, W.heap.size = w3.heap.size + 2 → True := fun _ _ => trivial
  have hz1 := hb1.size
  have hz2 := hb2.size
  have hz3 := hb3.size
  have hz3 : w2.heap.size + 1 ≤ w3.heap.size := by simpa using hz3
  have hs3 : Sl w3 A n c [131, 41, 220, 166] := (hs1.step hb2).step (((Below.refl _ _).alloc (Nat.le_refl _) _).trans (hb3.mono (by simp)))
  have hcell : w3.cell? ⟨w2.heap.size, 0, none⟩ = some (.int .i64 1) := by
    rw [hb3.cell (p := ⟨w2.heap.size, 0, none⟩) (by simp), cell_of_row _ w2.heap.size 0 _ _ _ (heap_alloc_new w2 _)]; rfl
  generalize hWW : (w3.alloc (.cells #[.int .i64 0, .string ⟨#[]⟩] 23)).alloc (.cells #[.int .u8 131, .int .u8 41, .int .u8 220, .int .u8 166] 5) = W
  have hbW : Below w3.heap.size w3 W := by rw [← hWW]; exact ((Below.refl _ _).alloc (Nat.le_refl _) _).alloc (by simp) _
  have hrW : Row W.heap.size W (some ⟨w3.heap.size + 1, 0, none⟩) [131, 41, 220, 166] := by
    rw [← hWW]
    exact row_at_new _ _ _ _ _ (by simp) rfl (by simp)
  have hcW : W.cell? ⟨w2.heap.size, 0, none⟩ = some (.int .i64 1) := by rw [hbW.cell (p := ⟨w2.heap.size, 0, none⟩) (by show w2.heap.size < _; omega)]; exact hcell
  clear hWW hcell hn4
  refine (same_yes (hs3.step hbW) ⟨rfl, hrW, Nat.le_refl _, by unfold maxLen; simp, fun hh => by cases hh⟩).mono ?_
  rintro e w5 ⟨rfl, hb5⟩
  have hc5 : w5.cell? ⟨w2.heap.size, 0, none⟩ = some (.int .i64 1) := by
    rw [hb5.cell (p := ⟨w2.heap.size, 0, none⟩) (by have := hbW.size; show w2.heap.size < _; omega)]; exact hcW
  go_wp2_with fail
  go_ret
  have hall : Below w.heap.size w w3 := hb1.trans ((hb2.trans ((((Below.refl _ _).alloc (Nat.le_refl _) _).trans (hb3.mono (by simp))).mono hz2)).mono hz1)
  exact ⟨rfl, hall.trans (((hbW.trans (hb5.mono hbW.size))).mono (by omega))⟩
theorem vld_len2 {k : Int} {l : List UInt8} (h : vld k l = true) : l.length ≤ 126 := by
  unfold vld at h
  split at h
  · simp at h; omega
  · split at h
    · simp at h; omega
    · split at h
      · simp at h; omega
      · split at h
        · have h := of_decide_eq_true h; omega
        · cases h
theorem vld_size {k : Int} {s : ByteArray} (h : vld k (bl s) = true) : s.size ≤ 126 := by
  have := vld_len2 h
  rwa [bl_len] at this
end Go.Proofs.Ytkhdldemhaifpaa.Fa
