/- Walks: the reference's Read, whatever it answers. -/
import Derived.Test.YtcnkiecdagjgmaaRv
namespace Go.Proofs.Ytcnkiecdagjgmaa.R12
open Go.RowKit Go.Proofs.Ytcnkiecdagjgmaa.Mem Go.Proofs.Ytcnkiecdagjgmaa.R11
set_option maxRecDepth 100000
set_option maxHeartbeats 1000000

section
variable {B : Nat} {W w w' : World} {g : Nat} {rv rv' : Value} {S S' : Rp}
theorem rread_p (h : R12.RA B W w g rv S) (ok : S.Ok) (v i : Nat) (o c : Int) (ho : -9223372036854775808 ≤ o ∧ o ≤ 9223372036854775807) (hc : -9223372036854775808 ≤ c ∧ c ≤ 9223372036854775807) (hv5 : v ≤ 65535) (hi : i ≤ 65535) :
    Calls Try.prog 58 #[.pointer (some ⟨g, 0, none⟩), .int .u16 (v : Int), .int .u16 (i : Int), .int .i64 o, .int .i64 c] w (Gives w (S.read v i o c)) := by
  unfold Rp.read
  by_cases h1 : o ≠ 0 ∧ S.valid v = false
  · rw [if_pos h1]
    exact rread_r h v i o c ho hc hv5 h1.1 h1.2
  · rw [if_neg h1]
    have h0 : o = 0 ∨ S.valid v = true := by
      by_cases hz : o = 0
      · exact .inl hz
      · rcases hq : S.valid v with _ | _
        · exact absurd ⟨hz, hq⟩ h1
        · exact .inr rfl
    rcases hp : plc S.recs i with _ | k
    · rw [get_none hp, if_pos (by decide)]
      exact rread_m h ok v i o c ho hc hv5 hi h0 hp
    · obtain ⟨r, hr, hm, he⟩ := get_some hp
      rw [he]
      rw [if_neg (by simp)]
      dsimp only
      by_cases hx : o < 0 ∨ c < 0 ∨ (r.b.length : Int) - c < o
      · rw [if_pos hx]
        exact rread_x h ok k v i o c ho hc hv5 hi h0 hp r hr hm hx
      · rw [if_neg hx]
        obtain ⟨o', rfl⟩ := Int.eq_ofNat_of_zero_le (show 0 ≤ o by omega)
        obtain ⟨c', rfl⟩ := Int.eq_ofNat_of_zero_le (show 0 ≤ c by omega)
        exact rread_ok h ok k v i o' c' hv5 hi (h0.imp (fun e => by omega) id) hp r hr hm (by omega)
end
end Go.Proofs.Ytcnkiecdagjgmaa.R12
