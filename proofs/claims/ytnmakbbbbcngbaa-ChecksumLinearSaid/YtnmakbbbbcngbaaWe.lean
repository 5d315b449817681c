/- Walks: the sanity check of the statements. -/
import Derived.Test.YtnmakbbbbcngbaaWd
import Derived.Lib.SlBytesConst
namespace Go.Proofs.Ytnmakbbbbcngbaa.We
open Go.RowKit Go.Proofs.Ytnmakbbbbcngbaa.Mem Go.Proofs.Ytnmakbbbbcngbaa.Pl Go.Proofs.Ytnmakbbbbcngbaa.Wa Go.Proofs.Ytnmakbbbbcngbaa.Wb Go.Proofs.Ytnmakbbbbcngbaa.Wc
set_option maxRecDepth 100000
set_option maxHeartbeats 400000

def l9 : List UInt8 := [49, 50, 51, 52, 53, 54, 55, 56, 57]
def l2 : List UInt8 := [32, 24]
theorem crc9 : crc8 l9 = 244 := by decide +kernel
theorem crc9' : crc32 l9 = 3421780262 := by decide +kernel
theorem sum2 : sum8 l2 = 200 := by decide +kernel
theorem awake_any (w : World) :
    Calls Try.prog 14 #[] w fun e w' => e = .returned (.bool true) ∧ Below w.heap.size w w' := by
  have kc := fun (w : World) (C : Array Value) (n c : Nat) => Lib.run_convert_bytes_const (P := Try.prog) w 22 5 C n c Try.underlying22 Try.underlying5
  go_enter Try.func14, Try.ntmps14
  go_wp2_with fail
  refine (crc8_at _ 9 9 l9 _ _ rfl (row_new w _ _ l9 rfl (Nat.lt_succ_self _) _) (by unfold maxLen; omega)).mono ?_
  rintro e w' ⟨rfl, rfl⟩
  rw [crc9]
  go_wp2_with fail
  refine (crc32_at _ 9 9 l9 _ _ rfl (row_new w _ _ l9 rfl (Nat.lt_succ_self _) _) (by unfold maxLen; omega)).mono ?_
  rintro e w' ⟨rfl, rfl⟩
  rw [crc9']
  go_wp2_with fail
  refine (sum8_at _ 2 2 l2 (w.heap.size + 2) _ rfl (row_at_new _ _ _ _ l2 (by simp) rfl (by omega)) (by unfold maxLen; omega)).mono ?_
  rintro e w' ⟨rfl, rfl⟩
  rw [sum2]
  go_wp2_with fail
  refine (seal8_any _ 9 9 l9 _ rfl (Rd.more (Rd.alloc (row_new w _ _ l9 rfl (Nat.lt_succ_self _) _) (by simp) _) (by simp)) (fun hh => by cases hh) (by omega)).mono ?_
  rintro e w' ⟨v, rfl, ho, hb⟩
  obtain ⟨A, c, rfl, -, -, -⟩ := own_slice (n := 10) ho rfl
  go_wp2_with fail
  go_ret
  exact ⟨rfl, (((Below.refl _ _).alloc (Nat.le_refl _) _).alloc (by simp) _).trans (hb.mono (by simp; omega))⟩
end Go.Proofs.Ytnmakbbbbcngbaa.We
