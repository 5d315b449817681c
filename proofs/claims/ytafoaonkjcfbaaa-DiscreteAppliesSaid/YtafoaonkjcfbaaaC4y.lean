/- Walks: the reference of conversions: tables. -/
import Derived.Test.YtafoaonkjcfbaaaC4x
namespace Go.Proofs.Ytafoaonkjcfbaaa.C4v
open Go.RowKit Go.Proofs.Ytafoaonkjcfbaaa.Mem Go.Proofs.Ytafoaonkjcfbaaa.M3p Go.Proofs.Ytafoaonkjcfbaaa.C4p Go.Proofs.Ytafoaonkjcfbaaa.C4l
set_option maxRecDepth 100000
set_option maxHeartbeats 4000000

/-- Rounding down, by the quotient and the rest that round toward zero. -/
theorem ediv_t (p d : Int) (hd : 0 < d) : p / d = if p.tmod d < 0 then p.tdiv d - 1 else p.tdiv d := by
  rw [Int.tdiv_eq_ediv, Int.tmod_eq_emod]
  have h0 := Int.emod_nonneg p (show d ≠ 0 by omega)
  have h1 := Int.emod_lt_of_pos p hd
  by_cases h : 0 ≤ p ∨ d ∣ p
  · rw [if_pos h, if_pos h, if_neg (by omega)]; omega
  · rw [if_neg h, if_neg h, if_pos (by omega), Int.sign_eq_one_of_pos hd]; omega
def pvAt (s : Bool) (l : List Pt) : Nat → Option (Int × Int)
  | 0 => none
  | j + 1 => (l[j]?).map fun q => (num s q.1, q.2)
theorem tab_step {s : Bool} {x : Int} {l : List Pt} {j : Nat} (hj : j < l.length) :
    tab s x (pvAt s l j) (l.drop j) = if num s l[j].1 < x then tab s x (pvAt s l (j + 1)) (l.drop (j + 1)) else if x = num s l[j].1 then l[j].2 else mid s x (pvAt s l j) l[j].1 l[j].2 := by
  rw [List.drop_eq_getElem_cons hj]
  have e : pvAt s l (j + 1) = some (num s l[j].1, l[j].2) := by
    show (l[j]?).map _ = _
    rw [List.getElem?_eq_getElem hj]
    rfl
  rw [e]
  exact tab_cons s x _ _ _ _
theorem tab_end {s : Bool} {x : Int} {l : List Pt} {j : Nat} (hj : l.length = j + 1) : tab s x (pvAt s l (j + 1)) (l.drop (j + 1)) = l[j].2 := by
  rw [List.drop_of_length_le (by omega)]
  have e : pvAt s l (j + 1) = some (num s l[j].1, l[j].2) := by
    show (l[j]?).map _ = _
    rw [List.getElem?_eq_getElem (by omega)]
    rfl
  rw [e]
  rfl
theorem num_b (s : Bool) (r : UInt8) : -128 ≤ num s r ∧ num s r ≤ 255 := by
  have := num_in s r
  unfold least at this
  cases s
  · rw [if_neg (by simp)] at this; omega
  · rw [if_pos rfl] at this; omega
end Go.Proofs.Ytafoaonkjcfbaaa.C4v
