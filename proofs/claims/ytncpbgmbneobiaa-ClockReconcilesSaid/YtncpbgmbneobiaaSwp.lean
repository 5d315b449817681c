/- Several cells of a row of the call's own are stored at once; two structs of a row change places. -/
import Derived.Test.YtncpbgmbneobiaaV9u
import Derived.Deep.MidRow
namespace Go.Proofs.Ytncpbgmbneobiaa.Swp
open Go.RowKit Go.Proofs.Ytncpbgmbneobiaa.Mem Go.Proofs.Ytncpbgmbneobiaa.V7 Go.Proofs.Ytncpbgmbneobiaa.V9
set_option maxRecDepth 100000
set_option maxHeartbeats 1000000
def sets (xs : List Value) : Nat → List Value → List Value
  | _, [] => xs
  | o, v :: r => sets (xs.set o v) (o + 1) r
section
variable {base e size n g cap : Nat}
theorem grown_refl (w : World) (b : Option Nat) : w.grownBy w b := ⟨rfl, rfl, rfl, Nat.le_refl _, fun _ _ _ => rfl⟩
theorem own_sets : ∀ (vs : List Value) (o : Nat) (w : World) (xs : List Value), w.ownsRow base e size (.slice (some ⟨g, 0, none⟩) n cap) n xs →
    (w.setCells g o vs).ownsRow base e size (.slice (some ⟨g, 0, none⟩) n cap) n (sets xs o vs) ∧ w.grownBy (w.setCells g o vs) (some g)
  | [], _, w, _, h => ⟨h, grown_refl w _⟩
  | v :: r, o, w, xs, h => by
    obtain ⟨h1, h2⟩ := World.ownsRow.stored h o v
    obtain ⟨h3, h4⟩ := own_sets r (o + 1) _ _ h1
    exact ⟨h3, grown_trans h2 h4⟩
theorem own_range {w : World} {xs : List Value} (h : w.ownsRow base e size (.slice (some ⟨g, 0, none⟩) n cap) n xs) (o : Nat) (cs : List Value) (hc : ∀ j v, cs[j]? = some v → xs[o + j]? = some v) : w.rangeAt g o cs := fun j v hv => by
  have h1 := World.ownsRow.cells h (g := g) rfl (o + j) v (hc j v hv)
  rwa [Addr.add_mid, Nat.zero_add] at h1
theorem own_there {w : World} {xs : List Value} (h : w.ownsRow base e size (.slice (some ⟨g, 0, none⟩) n cap) n xs) (o k : Nat) (hk : o + k ≤ xs.length) : w.there g o k := fun j hj => by
  refine ⟨?_, World.ownsRow.frozenAt h (o + j)⟩
  have := World.ownsRow.cells h (g := g) rfl (o + j) _ (List.getElem?_eq_getElem (by omega : o + j < xs.length))
  rw [show (⟨g, o + j, none⟩ : Addr) = (⟨g, 0, none⟩ : Addr).add (o + j) by rw [Addr.add_mid, Nat.zero_add], this]
  rfl
end
theorem two_sets (x y : Ev) : sets (sets (evs [x, y]) 0 y.cells.toList) 10 x.cells.toList = evs [y, x] := by simp [evs, Ev.cells, sets]
theorem one_sets (x y : Ev) : sets (evs [x, y]) 0 y.cells.toList = evs [y, y] := by simp [evs, Ev.cells, sets]
theorem infoEv : (Try.prog.info? 33).map (·.size) = some 10 := by kernel_rfl
/-- The world behind the exchange of a pair of events. -/
def swp (u : World) (g T q : Nat) : World := ((((((((((((((((((((u.setCell ⟨g, 0, none⟩ (.int .u16 0)).setCell ⟨g, 1, none⟩ (.int .u32 (q : Int))).setCell ⟨g, 2, none⟩ (.int .u16 32)).setCell ⟨g, 3, none⟩ (.int .u8 18)).setCell ⟨g, 4, none⟩ (.int .u8 0)).setCell ⟨g, 5, none⟩ (.int .u8 111)).setCell ⟨g, 6, none⟩ (.bool false)).setCell ⟨g, 7, none⟩ (.int .u8 5)).setCell ⟨g, 8, none⟩ (.int .u8 128)).setCell ⟨g, 9, none⟩ (.int .u8 255)).setCell ⟨g, 10, none⟩ (.int .u16 0)).setCell ⟨g, 11, none⟩ (.int .u32 (T : Int))).setCell ⟨g, 12, none⟩ (.int .u16 32)).setCell ⟨g, 13, none⟩ (.int .u8 18)).setCell ⟨g, 14, none⟩ (.int .u8 0)).setCell ⟨g, 15, none⟩ (.int .u8 111)).setCell ⟨g, 16, none⟩ (.bool false)).setCell ⟨g, 17, none⟩ (.int .u8 5)).setCell ⟨g, 18, none⟩ (.int .u8 0)).setCell ⟨g, 19, none⟩ (.int .u8 255))
theorem swp_own {base g c : Nat} {u : World} {T q : Nat} (h : EOwn base u (.slice (some ⟨g, 0, none⟩) 2 c) [chg 0 T, chg 128 q]) :
    EOwn base (swp u g T q) (.slice (some ⟨g, 0, none⟩) 2 c) [chg 128 q, chg 0 T] ∧ u.grownBy (swp u g T q) (some g) := by
  have h1 := own_sets (chg 128 q).cells.toList 0 _ _ h
  have h2 := own_sets (chg 0 T).cells.toList 10 _ _ h1.1
  have h3 := grown_trans h1.2 h2.2
  rw [two_sets] at h2
  have e : (u.setCells g 0 (chg 128 q).cells.toList).setCells g 10 (chg 0 T).cells.toList = swp u g T q := by
    simp [World.setCells, chg, Ev.cells, swp]
  rw [e] at h2 h3
  exact ⟨h2.1, h3⟩
theorem swp_drew {base g c : Nat} {u : World} {T q : Nat} (h : EOwn base u (.slice (some ⟨g, 0, none⟩) 2 c) [chg 0 T, chg 128 q]) :
    EOwn base (swp u g T q).drew (.slice (some ⟨g, 0, none⟩) 2 c) [chg 128 q, chg 0 T] ∧ u.grownBy (swp u g T q).drew (some g) := by
  obtain ⟨h1, h2⟩ := swp_own h
  generalize swp u g T q = Y at *
  exact ⟨h1, h2.os, h2.tape, h2.output, h2.size, h2.block⟩
end Go.Proofs.Ytncpbgmbneobiaa.Swp
