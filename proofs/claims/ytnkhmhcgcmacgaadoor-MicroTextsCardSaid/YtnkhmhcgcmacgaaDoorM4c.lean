/- Walks: the reference of fixed-point numbers: Parse, whole. -/
import Derived.Test.YtnkhmhcgcmacgaaDoorM4a
import Derived.Test.YtnkhmhcgcmacgaaDoorM4b
namespace Go.Proofs.YtnkhmhcgcmacgaaDoor.M3r
open Go.RowKit Go.Proofs.YtnkhmhcgcmacgaaDoor.Mem Go.Proofs.YtnkhmhcgcmacgaaDoor.M3p Go.Proofs.YtnkhmhcgcmacgaaDoor.F2p
set_option maxRecDepth 100000
set_option maxHeartbeats 1000000

theorem parse_none (s : ByteArray) (w : World) (hz : s.size = 0) :
    Calls Tryd.prog 32 #[.string s] w fun e w' => e = .returned (.tuple #[.int .i64 0, .int .i64 6]) ∧ w = w' := by
  go_enter Tryd.func32, Tryd.ntmps32
  go_wp2_with fail
  go_loop [4] (fun v4 => v4 = .int .i64 0) (fun _ => 0)
  case atStart => exact rfl
  case round =>
    obtain rfl := hrel
    go_wp2_with fail
    go_ret2
    exact ⟨rfl, rfl⟩
theorem parse_r (s : ByteArray) (w : World) (hs : s.size ≤ 100000) :
    Calls Tryd.prog 32 #[.string s] w fun e w' => e = .returned (.tuple #[.int .i64 (psr (bl s)).1, .int .i64 (psr (bl s)).2]) ∧ w = w' := by
  by_cases hz : s.size = 0
  · have h0 : bl s = [] := List.eq_nil_of_length_eq_zero (by rw [bl_len]; exact hz)
    rw [h0]
    exact parse_none s w hz
  have hz : 0 < s.size := by omega
  by_cases hh : (bl s).head? = some 45
  · rcases hb : bl s with _ | ⟨x, r⟩
    · rw [hb] at hh; cases hh
    rw [hb] at hh
    injection hh with hh
    subst hh
    rw [psr_cons]
    obtain ⟨i, d, hid, hi, htw, hdw, hd⟩ := parts r
    have hbs : bl s = [45] ++ (i ++ d) := by rw [hb, hid]; rfl
    have hsz : s.size = 1 + i.length + d.length := by rw [← bl_len, hbs]; simp; omega
    have h45 : (s[0].toNat : Int) = 45 := by rw [get_bl s 0 hz (x := 45) (by rw [hbs]; rfl)]; rfl
    by_cases h8 : 8 ≤ i.length
    · exact pr1a s r i d i.length w hs hz h45 (Lib.hid hbs) (Lib.hid hi) (Lib.hid htw) (Lib.hid rfl) (by omega) h8 _ (Lib.hid rfl)
    · rcases hd with rfl | ⟨c, f, rfl, hcd⟩
      · exact pr1b s r i [] i.length w hs hz h45 (Lib.hid hbs) (Lib.hid hi) (Lib.hid htw) (Lib.hid rfl) (by omega) (Lib.hid hdw) (by rw [hsz]; simp) (by omega) _ (Lib.hid rfl)
      · rw [List.length_cons] at hsz
        exact pr1c s r i f c i.length f.length w hs hz h45 (Lib.hid hbs) (Lib.hid hi) (Lib.hid htw) (Lib.hid rfl) (Lib.hid hdw) (Lib.hid rfl) (by omega) (by omega) (dig_not hcd) (by omega) _ (Lib.hid rfl)
  · rw [psr_plain hh]
    have h45 : ((s[0].toNat : Int) == 45) = false := by
      rw [beq_eq_false_iff_ne]
      intro e
      refine hh ?_
      rw [List.head?_eq_getElem?, List.getElem?_eq_getElem (by rw [bl_len]; exact hz)]
      exact congrArg some (UInt8.toNat_inj.1 (by have : (45 : UInt8).toNat = 45 := rfl; show s[0].toNat = _; omega))
    generalize hr : bl s = r at *
    obtain ⟨i, d, hid, hi, htw, hdw, hd⟩ := parts r
    have hbs : bl s = [] ++ (i ++ d) := by rw [hr, hid]; rfl
    have hsz : s.size = 0 + i.length + d.length := by rw [← bl_len, hbs]; simp
    by_cases h8 : 8 ≤ i.length
    · exact pr0a s r i d i.length w hs hz h45 (Lib.hid hbs) (Lib.hid hi) (Lib.hid htw) (Lib.hid rfl) (by omega) h8 _ (Lib.hid rfl)
    · rcases hd with rfl | ⟨c, f, rfl, hcd⟩
      · exact pr0b s r i [] i.length w hs hz h45 (Lib.hid hbs) (Lib.hid hi) (Lib.hid htw) (Lib.hid rfl) (by omega) (Lib.hid hdw) (by rw [hsz]; simp) (by omega) _ (Lib.hid rfl)
      · rw [List.length_cons] at hsz
        exact pr0c s r i f c i.length f.length w hs hz h45 (Lib.hid hbs) (Lib.hid hi) (Lib.hid htw) (Lib.hid rfl) (by omega) (Lib.hid hdw) (Lib.hid rfl) (by omega) (by omega) (dig_not hcd) (by omega) _ (Lib.hid rfl)
end Go.Proofs.YtnkhmhcgcmacgaaDoor.M3r
