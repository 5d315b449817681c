/- Walks: words for the statements of chapter 11. -/
import Derived.Test.YtcjmpogjickplaaRl
import Derived.Test.YtcjmpogjickplaaSame
namespace Go.Proofs.Ytcjmpogjickplaa.R11
open Go.RowKit Go.Proofs.Ytcjmpogjickplaa.Mem Go.Proofs.Ytcjmpogjickplaa.Made
set_option maxRecDepth 100000
set_option maxHeartbeats 1000000

section
variable {B : Nat} {W w w' : World} {g gd n c : Nat} {rv rv' v : Value} {S S' : Rp} {L : List Bk} {A : Option Addr} {l : List Nat}
/-- Rows that are not the repository's stay. -/
theorem row_kp {base e sz n : Nat} {xs : List Value} (h : w.ownsRow base e sz v n xs) (he : e ≠ 164) (he2 : e ≠ 159) (hra : RA B W w g rv S) (k : Kp g rv rv' w w') : w'.ownsRow base e sz v n xs := row_any h fun i hi => by
  rcases h.2 with ⟨rfl, _⟩ | ⟨g', cap, cur, rfl, hg, hh, _⟩
  · cases hi
  · injection hi with hi
    subst hi
    exact (k.block _ (lt_of_some hh) (ne_of_types hh hra.head he2) (fun e => by
      obtain ⟨_, c', z', hk⟩ := hra.own.blk e
      exact ne_of_types hh hk he rfl)).1
theorem row_step {base e sz n : Nat} {xs : List Value} (h : w.ownsRow base e sz v n xs) (hb : Below w.heap.size w w') : w'.ownsRow base e sz v n xs := row_any h fun i hi => hb.block i (World.ownsRow.lt h _ hi).2
theorem HOwn.kp {base : Nat} (h : HOwn base w v l) (hra : RA B W w g rv S) (k : Kp g rv rv' w w') : HOwn base w' v l := row_kp h (by decide) (by decide) hra k
theorem HOwn.step {base : Nat} (h : HOwn base w v l) (hb : Below w.heap.size w w') : HOwn base w' v l := row_step h hb
theorem HOwn.form {base : Nat} (h : HOwn base w v l) : ∃ A n c, v = .slice A n c ∧ n = l.length ∧ n ≤ c ∧ c ≤ maxLen := by
  obtain ⟨A, c, rfl, h1, h2⟩ := own_form h
  exact ⟨A, l.length, c, rfl, rfl, h1, h2⟩
theorem HOwn.at_ {base : Nat} (h : HOwn base w (.slice A n c) l) {k : Nat} (hk : k < l.length) : ∃ a, A = some a ∧ a.block < w.heap.size ∧ w.cell? (a.add k) = some (.int .u16 (l[k] : Int)) := by
  obtain ⟨A', c', hv, -, -⟩ := own_form h
  injection hv with e1 e2 e3
  subst e1 e2 e3
  have h' : w.ownsRow base 38 1 (.slice A l.length c) l.length (hvs l) := h
  obtain ⟨a, e, hb, hc⟩ := Rd.at_ (own_rd h') (k := k) (by unfold hvs; rw [List.length_map]; exact hk)
  exact ⟨a, e, hb, by rw [hc]; simp [hvs]⟩
theorem HOwn.cell {base : Nat} {a : Addr} (h : HOwn base w (.slice (some a) n c) l) {k x : Nat} (hk : k < l.length) (hx : l[k] = x) : w.cell? (a.add k) = some (.int .u16 (x : Int)) := by
  obtain ⟨a', e, -, hc⟩ := h.at_ hk
  injection e with e
  subst e
  rw [← hx]
  exact hc
theorem HOwn.some_ {base : Nat} (h : HOwn base w (.slice A n c) l) (hl : 0 < l.length) : ∃ a, A = some a := by
  obtain ⟨a, e, -, -⟩ := h.at_ hl
  exact ⟨a, e⟩
end
end Go.Proofs.Ytcjmpogjickplaa.R11
