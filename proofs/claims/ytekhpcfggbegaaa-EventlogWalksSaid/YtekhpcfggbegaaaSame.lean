/- Walks: two slices of bytes are the same. -/
import Derived.Test.YtekhpcfggbegaaaOwn
namespace Go.Proofs.Ytekhpcfggbegaaa.Same
open Go.RowKit Go.Proofs.Ytekhpcfggbegaaa.Mem
set_option maxRecDepth 100000
set_option maxHeartbeats 400000

theorem same_any (A A' : Option Addr) (n n' c c' : Nat) (l l' : List UInt8) (B : Nat) (w : World) (hn : n = l.length) (hn' : n' = l'.length) (h : Row B w A l) (h' : Row B w A' l') (hl : n ≤ maxLen) (hl' : n' ≤ maxLen) :
    Calls Try.prog 35 #[.slice A n c, .slice A' n' c'] w fun e w' => e = .returned (.bool (decide (l = l'))) ∧ ∃ k, w' = w.drewN k := by
  unfold maxLen at hl hl'
  subst hn hn'
  by_cases he : l.length = l'.length
  · have he' : ((l.length : Int) != (l'.length : Int)) = false := by simp [he]
    go_enter Try.func35, Try.ntmps35
    go_wp2
    go_loopw [5] (fun i wr => ∃ k : Nat, k ≤ l.length ∧ i = .int .i64 k ∧ (∃ q, wr = w.drewN q) ∧ l.take k = l'.take k) (fun i _ => l.length - (intOf i).toNat)
    case atStart => exact ⟨0, Nat.zero_le _, rfl, ⟨0, rfl⟩, rfl⟩
    case round =>
      obtain ⟨k, hk, rfl, ⟨q, rfl⟩, ht⟩ := hrel
      have HT := Lib.hid ht; clear ht
      have HE := Lib.hid he; clear he
      by_cases hlt : k < l.length
      · have hlt' : k < l'.length := HE.out ▸ hlt
        obtain ⟨a, rfl, hb, hc⟩ := row_at h hlt
        obtain ⟨a', rfl, hb', hc'⟩ := row_at h' hlt'
        go_wp2
        go_quiet (fail)
        go_wp2
        · have hne : (l[k].toNat : Int) ≠ (l'[k].toNat : Int) := by simpa using ‹((l[k].toNat : Int) != (l'[k].toNat : Int)) = true›
          go_ret
          refine ⟨ret_bool ?_, _, World.drewN_drewN _ _ _⟩
          simp
          rintro rfl
          exact hne rfl
        · have heq : (l[k].toNat : Int) = (l'[k].toNat : Int) := by simpa using ‹((l[k].toNat : Int) != (l'[k].toNat : Int)) = false›
          refine ⟨⟨k + 1, by omega, by go_num, ⟨_, rfl⟩, ?_⟩, by simp [intOf]; omega⟩
          rw [take_snoc hlt, take_snoc hlt', HT.out, UInt8.toNat_inj.1 (by omega : l[k].toNat = l'[k].toNat)]
      · go_wp2
        go_ret
        refine ⟨ret_bool ?_, _, rfl⟩
        have := HT.out
        rw [List.take_of_length_le (by omega), List.take_of_length_le (by have := HE.out; omega)] at this
        simp [this]
  · have he' : ((l.length : Int) != (l'.length : Int)) = true := by simp; omega
    go_enter Try.func35, Try.ntmps35
    go_wp2
    go_ret
    exact ⟨ret_bool (by simp; rintro rfl; exact he rfl), 0, rfl⟩

theorem same_s {w : World} {A A' : Option Addr} {n n' c c' : Nat} {l l' : List UInt8} (h : Sl w A n c l) (h' : Sl w A' n' c' l') : Calls Try.prog 35 #[.slice A n c, .slice A' n' c'] w fun e w' => e = .returned (.bool (decide (l = l'))) ∧ Below w.heap.size w w' :=
  (same_any A A' n n' c c' l l' _ w h.len h'.len h.row h'.row (lite h) (lite h')).mono fun _ _ ⟨h1, _, h2⟩ => ⟨h1, h2 ▸ below_of_drawn⟩
theorem same_yes {w : World} {A A' : Option Addr} {n n' c c' : Nat} {l : List UInt8} (h : Sl w A n c l) (h' : Sl w A' n' c' l) : Calls Try.prog 35 #[.slice A n c, .slice A' n' c'] w fun e w' => e = .returned (.bool true) ∧ Below w.heap.size w w' :=
  (same_s h h').mono fun _ _ ⟨h1, h2⟩ => ⟨h1.trans (by simp), h2⟩

end Go.Proofs.Ytekhpcfggbegaaa.Same
