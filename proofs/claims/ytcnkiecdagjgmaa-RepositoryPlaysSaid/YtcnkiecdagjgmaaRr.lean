/- Walks: the reference's Get, Read. -/
import Derived.Test.YtcnkiecdagjgmaaRq
namespace Go.Proofs.Ytcnkiecdagjgmaa.R12
open Go.RowKit Go.Proofs.Ytcnkiecdagjgmaa.Mem
open Go.Proofs.Ytcnkiecdagjgmaa.R11 (Rk Rp sum fresh has has_iff nxt nth fid ixOf ixOf_no ixOf_yes plc plc_lt nid nid_more nid_last lt_of_some ne_of_types own_blk Gives get_some get_none)
set_option maxRecDepth 100000
set_option maxHeartbeats 1000000

/-- The place of the record that is asked for, or -1. -/
def rix (l : List Rk) (i : Nat) : Int := match plc l i with | none => -1 | some k => (k : Int)
section
variable {B : Nat} {W w w' : World} {g : Nat} {rv rv' : Value} {S S' : Rp}
theorem rindex_p (h : RA B W w g rv S) (ok : S.Ok) (i : Nat) (hi : i ≤ 65535) : Calls Try.prog 107 #[.pointer (some ⟨g, 0, none⟩), .int .u16 (i : Int)] w fun e w' => e = .returned (.int .i64 (rix S.recs i)) ∧ w' = w := by
  have c1 := h.c1
  have hlg := h.lg
  have HF := Lib.hid (rfind_p h ok i)
  obtain ⟨A1, n1, cc1, rfl, hs⟩ := h.own.sl
  have hn1 : n1 = S.recs.length := hs.len
  have hcm : n1 ≤ 2 ^ 63 - 1 := Nat.le_trans hs.cap hs.max
  have HE : Hid ((i = 0 ∧ 0 < n1 ∧ rix S.recs i = 0) ∨ (¬ (i = 0 ∧ 0 < n1) ∧ rix S.recs i = ixOf i S.recs)) := Lib.hid (by
    by_cases hc : i = 0 ∧ 0 < n1
    · refine .inl ⟨hc.1, hc.2, ?_⟩
      unfold rix plc
      rw [if_pos hc.1, if_neg (by omega)]
      rfl
    · refine .inr ⟨hc, ?_⟩
      unfold rix plc ixOf
      by_cases h0 : i = 0
      · rw [if_pos h0, if_pos (by omega)]
        have hh : has S.recs i = false := by
          rcases hq : has S.recs i with _ | _
          · rfl
          · obtain ⟨r, hr, _⟩ := has_iff.1 hq
            have := List.length_pos_of_mem hr
            omega
        rw [hh]
        rfl
      · rw [if_neg h0]
        rcases has S.recs i with _ | _ <;> rfl)
  clear h hs hn1 ok
  generalize rix S.recs i = X at *
  rcases HE.out with ⟨h1, h2, h3⟩ | ⟨h1, h3⟩
  · subst h1 h3
    have h2i : (0 : Int) < (n1 : Int) := by omega
    clear HE
    go_enter Try.func107, Try.ntmps107
    go_wp2_with fail
    go_ret
    exact ⟨rfl, rfl⟩
  · subst h3
    clear HE
    by_cases h0 : i = 0
    · subst h0
      have h2i : ¬ (0 : Int) < (n1 : Int) := by omega
      have HF := Lib.hid (show Calls Try.prog 105 #[.pointer (some ⟨g, 0, none⟩), .int .i64 0] w _ from HF.out)
      clear h1
      go_enter Try.func107, Try.ntmps107
      go_wp2_with fail
      refine HF.out.mono ?_
      rintro e w1 ⟨rfl, hw1⟩
      go_wp2_with fail
      go_ret
      exact ⟨rfl, rfl⟩
    · have q0 : ((i : Int) == 0) = false := by simp; exact h0
      clear h1 h0
      go_enter Try.func107, Try.ntmps107
      go_wp2_with fail
      refine HF.out.mono ?_
      rintro e w1 ⟨rfl, hw1⟩
      go_wp2_with fail
      go_ret
      exact ⟨rfl, rfl⟩
theorem rnext_p (h : RA B W w g rv S) (ok : S.Ok) (k : Nat) (hk : k < S.recs.length) : Calls Try.prog 108 #[.pointer (some ⟨g, 0, none⟩), .int .i64 (k : Int)] w fun e w' => e = .returned (.int .u16 (nid S.recs k : Int)) ∧ w' = w := by
  have c1 := h.c1
  have hlg := h.lg
  obtain ⟨A1, n1, cc1, rfl, hs⟩ := h.own.sl
  have hn1 : n1 = S.recs.length := hs.len
  have hcm : n1 ≤ 2 ^ 63 - 1 := Nat.le_trans hs.cap hs.max
  have HS := Lib.hid hs
  have HN := Lib.hid hn1
  have h64 : n1 ≤ 64 := by have := ok.len; omega
  have hkn : k < n1 := by omega
  rcases Nat.lt_or_ge (k + 1) S.recs.length with hl | hl
  · rw [nid_more hl]
    obtain ⟨a, rfl, hab, k0, -⟩ := krow_at HS.out.row hl
    have hrg := (ok.rng _ (List.getElem_mem hl)).2
    have n1' : (k : Int) + 1 < (n1 : Int) := by omega
    have n2 : (0 : Int) ≤ (k : Int) + 1 := by omega
    generalize S.recs[k + 1].id = X at *
    clear h hs hn1 ok hl hk
    go_enter Try.func108, Try.ntmps108
    go_wp2_with fail
    go_ret
    exact ⟨rfl, rfl⟩
  · rw [nid_last hl]
    have n1' : ¬ (k : Int) + 1 < (n1 : Int) := by omega
    clear h hs hn1 ok hl hk
    go_enter Try.func108, Try.ntmps108
    go_wp2_with fail
    go_ret
    exact ⟨rfl, rfl⟩
end
end Go.Proofs.Ytcnkiecdagjgmaa.R12
