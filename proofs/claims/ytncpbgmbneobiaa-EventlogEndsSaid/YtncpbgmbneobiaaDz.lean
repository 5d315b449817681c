/- Walks: the dice's texts, bytes and fields. -/
import Derived.Test.YtncpbgmbneobiaaF2p
import Derived.Test.YtncpbgmbneobiaaMade
namespace Go.Proofs.Ytncpbgmbneobiaa.Made
open Go.RowKit Go.Proofs.Ytncpbgmbneobiaa.Mem Go.Proofs.Ytncpbgmbneobiaa.F2p
set_option maxRecDepth 100000
set_option maxHeartbeats 1000000

/-- The dice at block g over the list at A, whatever has been drawn: what a walk keeps of them. -/
structure Dz (w : World) (g : Nat) (A : Option Addr) (n c : Nat) (l : List Int) : Prop where
  len : n = l.length
  bnd : ∀ x ∈ l, -9223372036854775808 ≤ x ∧ x ≤ 9223372036854775807
  few : n ≤ 1000000
  row : IRow g w A l
  at_ : ∃ a, a ≤ n ∧ Dc w g A n c a
section
variable {w w' : World} {g n c : Nat} {A : Option Addr} {l : List Int}
theorem Dz.lt (h : Dz w g A n c l) : g < w.heap.size := by
  obtain ⟨a, _, hd⟩ := h.at_
  exact hd.lt
theorem Dz.next (h : Dz w g A n c l) (k : Nat) (hk : 1 ≤ k) (hk2 : k ≤ 1000000000) :
    Calls Try.prog 13 #[.pointer (some ⟨g, 0, none⟩), .int .i64 (k : Int)] w fun e w' => ∃ r : Nat, r < k ∧ e = .returned (.int .i64 (r : Int)) ∧ Dz w' g A n c l ∧ w.grownBy w' (some g) := by
  obtain ⟨a, ha, hd⟩ := h.at_
  refine (next_any g n c a k A l w hd h.row h.len h.bnd ha h.few hk hk2).mono ?_
  rintro e w' ⟨r, a', hr, rfl, ha', hd', hg⟩
  exact ⟨r, hr, rfl, ⟨h.len, h.bnd, h.few, irow_grown h.row hg hd.lt, a', ha', hd'⟩, hg⟩
theorem Dz.bool (h : Dz w g A n c l) (k : Nat) (hk : 1 ≤ k) (hk2 : k ≤ 1000000000) :
    Calls Try.prog 15 #[.pointer (some ⟨g, 0, none⟩), .int .i64 (k : Int)] w fun e w' => ∃ b : Bool, e = .returned (.bool b) ∧ Dz w' g A n c l ∧ w.grownBy w' (some g) := by
  obtain ⟨a, ha, hd⟩ := h.at_
  refine (bool_any g n c a k A l w hd h.row h.len h.bnd ha h.few hk hk2).mono ?_
  rintro e w' ⟨r, a', rfl, ha', hd', hg⟩
  exact ⟨r, rfl, ⟨h.len, h.bnd, h.few, irow_grown h.row hg hd.lt, a', ha', hd'⟩, hg⟩
theorem Dz.byte (h : Dz w g A n c l) :
    Calls Try.prog 41 #[.pointer (some ⟨g, 0, none⟩)] w fun e w' => ∃ x : UInt8, e = .returned (.int .u8 (x.toNat : Int)) ∧ Dz w' g A n c l ∧ w.grownBy w' (some g) := by
  obtain ⟨a, ha, hd⟩ := h.at_
  refine (byte_any g n c a A l w hd h.row h.len h.bnd ha h.few).mono ?_
  rintro e w' ⟨r, a', rfl, ha', hd', hg⟩
  exact ⟨r, rfl, ⟨h.len, h.bnd, h.few, irow_grown h.row hg hd.lt, a', ha', hd'⟩, hg⟩
/-- What is laid above the dice, or turned there, leaves them alone. -/
theorem Dz.grown (h : Dz w g A n c l) {r : Option Nat} (hg : w.grownBy w' r) (hne : r ≠ some g) (hlo : ∀ k, r = some k → g < k) : Dz w' g A n c l := by
  obtain ⟨a, ha, hd⟩ := h.at_
  refine ⟨h.len, h.bnd, h.few, Rd.keep h.row fun p hp => World.cell?_of_block (hg.block p.block (by have := hd.lt; omega) (fun e => ?_)), a, ha, hd.keep hg (Ne.symm hne)⟩
  have := hlo _ e.symm
  omega
theorem Dz.below (h : Dz w g A n c l) {B : Nat} (hb : Below B w w') (hB : g < B) : Dz w' g A n c l := by
  obtain ⟨a, ha, hd⟩ := h.at_
  exact ⟨h.len, h.bnd, h.few, Rd.keep h.row fun p hp => hb.cell (by omega), a, ha, hd.below hb hB⟩
/-- Below the dice's own block nothing turns. -/
theorem grown_lo {B : Nat} (h : w.grownBy w' (some g)) (hB : B ≤ g) (hlt : g < w.heap.size) : Below B w w' := ⟨h.os, h.tape, h.output, h.size, fun i hi => h.block i (by omega) (fun e => by injection e; omega)⟩
theorem Dz.start (A : Option Addr) (n c : Nat) (l : List Int) (w : World) (hr : IRow w.heap.size w A l) (hn : n = l.length) (hl : ∀ x ∈ l, -9223372036854775808 ≤ x ∧ x ≤ 9223372036854775807) (hm : n ≤ 1000000) :
    Dz (w.alloc (.cells #[.slice A n c, .int .i64 0] 81)) w.heap.size A n c l :=
  ⟨hn, hl, hm, Rd.alloc hr (Nat.le_refl _) _, 0, Nat.zero_le _, heap_alloc_new w _⟩
end

theorem bl_app (a b : ByteArray) : bl (a ++ b) = bl a ++ bl b := by
  unfold bl
  rw [ByteArray.data_append, Array.toList_append]
theorem mem_extract {s : ByteArray} {i j : Nat} {x : UInt8} (h : x ∈ bl (s.extract i j)) : x ∈ bl s := by
  unfold bl at *
  rw [ByteArray.data_extract, Array.toList_extract] at h
  exact List.mem_of_mem_drop (List.mem_of_mem_take h)
theorem grown_new {w w2 w3 : World} {g : Nat} {r : Option Nat} (h : w.grownBy w2 (some g)) (k : w2.grownBy w3 r) (hr : ∀ b, r = some b → w.heap.size ≤ b) : w.grownBy w3 (some g) :=
  ⟨k.os.trans h.os, k.tape.trans h.tape, k.output.trans h.output, Nat.le_trans h.size k.size, fun i hi hne => (k.block i (Nat.lt_of_lt_of_le hi h.size) (fun e => by have := hr i e.symm; omega)).trans (h.block i hi hne)⟩
theorem own_kept {base g : Nat} {w w' : World} {v : Value} {l : List UInt8} (h : Own base w v l) (hg : w.grownBy w' (some g)) (hlo : g < base) : Own base w' v l :=
  World.ownsRow.kept h hg (.inr (fun e => by have := (World.ownsRow.lt h _ e).1; omega))
end Go.Proofs.Ytncpbgmbneobiaa.Made
