/- Walks: the sanity check of chapter 11's statements. -/
import Derived.Test.YtcnkiecdagjgmaaRi
namespace Go.Proofs.Ytcnkiecdagjgmaa.R11
open Go.RowKit Go.Proofs.Ytcnkiecdagjgmaa.Mem
set_option maxRecDepth 100000
set_option maxHeartbeats 1000000

section
variable {B : Nat} {W w w' : World} {g : Nat} {rv rv' : Value} {S S' : Rp}
theorem RA.off_new (h : RA B W w g rv S) {b : Nat} (hb : w.heap.size ≤ b) (l : List UInt8) : Off g rv (some ⟨b, 0, none⟩) l := fun _ a ha => by
  injection ha with ha
  subst ha
  have hf := h.far_new hb
  exact ⟨hf.g, hf.rv⟩
/-- Add, whatever it answers. -/
theorem read_p (h : RA B W w g rv S) (ok : S.Ok) (v i : Nat) (o c : Int) (ho : -9223372036854775808 ≤ o ∧ o ≤ 9223372036854775807) (hc : -9223372036854775808 ≤ c ∧ c ≤ 9223372036854775807) :
    Calls Try.prog 57 #[.pointer (some ⟨g, 0, none⟩), .int .u16 (v : Int), .int .u16 (i : Int), .int .i64 o, .int .i64 c] w (Gives w (S.read v i o c)) := by
  unfold Rp.read
  by_cases h1 : o ≠ 0 ∧ S.valid v = false
  · rw [if_pos h1]
    exact read_r h v i o c ho hc h1.1 h1.2
  · rw [if_neg h1]
    have h0 : o = 0 ∨ S.valid v = true := by
      by_cases hz : o = 0
      · exact .inl hz
      · rcases hq : S.valid v with _ | _
        · exact absurd ⟨hz, hq⟩ h1
        · exact .inr rfl
    rcases hp : plc S.recs i with _ | k
    · rw [get_none hp, if_pos (by decide)]
      exact read_m h v i o c ho hc h0 hp
    · obtain ⟨r, hr, hm, he⟩ := get_some hp
      rw [he]
      rw [if_neg (by simp)]
      dsimp only
      by_cases hx : o < 0 ∨ c < 0 ∨ (r.b.length : Int) - c < o
      · rw [if_pos hx]
        exact read_x h ok v i k o c ho hc h0 hp r hr hx
      · rw [if_neg hx]
        obtain ⟨o', rfl⟩ := Int.eq_ofNat_of_zero_le (show 0 ≤ o by omega)
        obtain ⟨c', rfl⟩ := Int.eq_ofNat_of_zero_le (show 0 ≤ c by omega)
        exact read_ok h ok v i k o' c' (h0.imp (fun e => by omega) id) hp r hr (by omega)
end
def sA (x y : Nat) : Rp := (fresh 100).add x y [1, 2]
def sB (x y x' y' : Nat) : Rp := (sA x y).res.add x' y' [3]
theorem fA : fid [] 0 = 1 := by decide
theorem fB (x y : Nat) : fid (sA x y).res.recs (sA x y).res.last = 2 := rfl
theorem awake_any (w : World) :
    Calls Try.prog 48 #[] w fun e w' => e = .returned (.bool true) ∧ Below w.heap.size w w' := by
  go_enter Try.func48, Try.ntmps48
  go_wp2_with fail
  refine (new_p 100 w (by omega) (by omega)).mono ?_
  rintro e w1 ⟨rfl, h1⟩
  have ok0 := fresh_ok (cap := 100) (by omega)
  have hg0 : w.heap.size = w.heap.size := rfl
  obtain ⟨g, hg⟩ : ∃ g, g = w.heap.size := ⟨_, rfl⟩
  rw [← hg] at h1 ⊢
  have HG := Lib.hid hg
  clear hg hg0
  have h1b := h1.alloc (.cells #[.int .u8 1, .int .u8 2] 5)
  have hoff := h1.off_new (Nat.le_refl _) [1, 2]
  have hsl : Sl (w1.alloc (.cells #[.int .u8 1, .int .u8 2] 5)) (some ⟨w1.heap.size, 0, none⟩) 2 2 [1, 2] := ⟨rfl, row_new w1 _ _ [1, 2] rfl (by simp), Nat.le_refl _, by unfold maxLen; omega, fun e => by cases e⟩
  have HA := Lib.hid (add_p h1b ok0 _ 2 2 [1, 2] hsl hoff rfl)
  clear h1 h1b hoff hsl
  go_wp2_with fail
  refine HA.out.mono ?_
  rintro e w2 ⟨rv2, x, y, rfl, h2, k2, -⟩
  have ok2 := ok0.add x y [1, 2] rfl
  have HR := Lib.hid (res_p h2 ok2)
  rw [show fid (fresh 100).recs (fresh 100).last = 1 from rfl]
  clear h2 k2 HA
  go_wp2_with fail
  refine HR.out.mono ?_
  rintro e w3 ⟨rfl, h3, k3⟩
  have ok3 := ok2.res
  have h3b := h3.alloc (.cells #[.int .u8 3] 5)
  have hoff := h3.off_new (Nat.le_refl _) [3]
  have hsl : Sl (w3.alloc (.cells #[.int .u8 3] 5)) (some ⟨w3.heap.size, 0, none⟩) 1 1 [3] := ⟨rfl, row_new w3 _ _ [3] rfl (by simp), Nat.le_refl _, by unfold maxLen; omega, fun e => by cases e⟩
  have HA := Lib.hid (add_p h3b ok3 _ 1 1 [3] hsl hoff rfl)
  rw [show ((fresh 100).add x y [1, 2]).res.resv = 1 from rfl]
  clear h3 h3b hoff hsl HR
  go_wp2_with fail
  refine HA.out.mono ?_
  rintro e w4 ⟨rv4, x', y', rfl, h4, k4, -⟩
  rw [show fid ((fresh 100).add x y [1, 2]).res.recs ((fresh 100).add x y [1, 2]).res.last = 2 from rfl]
  have ok4 := ok3.add x' y' [3] rfl
  have HP := Lib.hid (show Calls Try.prog 57 #[.pointer (some ⟨g, 0, none⟩), .int .u16 1, .int .u16 1, .int .i64 1, .int .i64 1] w4 _ from read_r h4 1 1 1 1 (by omega) (by omega) (by decide) rfl)
  have HQ := Lib.hid fun u (hu : Below w4.heap.size w4 u) => (show Calls Try.prog 57 #[.pointer (some ⟨g, 0, none⟩), .int .u16 1, .int .u16 1, .int .i64 0, .int .i64 1] u _ from read_ok (h4.step hu) ok4 1 1 0 0 1 (.inl rfl) rfl ⟨1, x, y, [1, 2]⟩ rfl (by simp))
  have HF := Lib.hid fun u (hu : Below w4.heap.size w4 u) => free_p (h4.step hu) ok4
  have H4 := Lib.hid h4
  rw [show nid (((fresh 100).add x y [1, 2]).res.add x' y' [3]).recs 0 = 2 from rfl] at HQ
  clear h4 k3 k4 HA ok0 ok2 ok3 ok4
  have hfr : (((fresh 100).add x y [1, 2]).res.add x' y' [3]).free = 97 := rfl
  rw [hfr] at HF
  clear hfr
  go_wp2_with fail
  refine HP.out.mono ?_
  rintro e w5 ⟨A5, n5, c5, rfl, -, hb5⟩
  go_wp2_with fail
  refine (HQ.out _ hb5).mono ?_
  rintro e w6 ⟨A6, n6, c6, rfl, ho6, hb6⟩
  have hn6 : n6 = 1 := by
    obtain ⟨A', c', hv, -⟩ := ho6.form
    injection hv with e1 e2
  subst hn6
  have hb56 := hb5.trans (hb6.mono hb5.size)
  clear ho6 HP HQ hb5 hb6
  go_wp2_with fail
  refine (HF.out _ hb56).mono ?_
  rintro e w7 ⟨rfl, hb7⟩
  go_wp2_with fail
  go_ret
  refine ⟨rfl, ?_⟩
  have hB := H4.out.bel
  rw [HG.out] at hB
  exact hB.trans ((hb56.trans (hb7.mono hb56.size)).mono (by have := hB.size; exact this))
end Go.Proofs.Ytcnkiecdagjgmaa.R11
