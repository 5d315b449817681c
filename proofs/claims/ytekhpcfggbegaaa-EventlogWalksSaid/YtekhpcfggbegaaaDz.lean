/- Walks: the dice's texts, bytes and fields. -/
import Derived.Test.YtekhpcfggbegaaaF2p
import Derived.Test.YtekhpcfggbegaaaMade
namespace Go.Proofs.Ytekhpcfggbegaaa.Made
open Go.RowKit Go.Proofs.Ytekhpcfggbegaaa.Mem Go.Proofs.Ytekhpcfggbegaaa.F2p
set_option maxRecDepth 100000
set_option maxHeartbeats 1000000

/-- The dice at block g over the list at A, whatever has been drawn: what a walk keeps of them. -/
structure Dz (w : World) (g : Nat) (A : Option Addr) (n c : Nat) (l : List Int) : Prop where
  len : n = l.length
  bnd : ∀ x ∈ l, -9223372036854775808 ≤ x ∧ x ≤ 9223372036854775807
  few : n ≤ 1000000
  row : IRow g w A l
  at_ : ∃ a, a ≤ n ∧ Dc w g A n c a
section
variable {w w' : World} {g n c : Nat} {A : Option Addr} {l : List Int}
theorem Dz.lt (h : Dz w g A n c l) : g < w.heap.size := by
  obtain ⟨a, _, hd⟩ := h.at_
  exact hd.lt
theorem Dz.next (h : Dz w g A n c l) (k : Nat) (hk : 1 ≤ k) (hk2 : k ≤ 1000000000) :
    Calls Try.prog 16 #[.pointer (some ⟨g, 0, none⟩), .int .i64 (k : Int)] w fun e w' => ∃ r : Nat, r < k ∧ e = .returned (.int .i64 (r : Int)) ∧ Dz w' g A n c l ∧ w.grownBy w' (some g) := by
  obtain ⟨a, ha, hd⟩ := h.at_
  refine (next_any g n c a k A l w hd h.row h.len h.bnd ha h.few hk hk2).mono ?_
  rintro e w' ⟨r, a', hr, rfl, ha', hd', hg⟩
  exact ⟨r, hr, rfl, ⟨h.len, h.bnd, h.few, irow_grown h.row hg hd.lt, a', ha', hd'⟩, hg⟩
theorem Dz.bool (h : Dz w g A n c l) (k : Nat) (hk : 1 ≤ k) (hk2 : k ≤ 1000000000) :
    Calls Try.prog 17 #[.pointer (some ⟨g, 0, none⟩), .int .i64 (k : Int)] w fun e w' => ∃ b : Bool, e = .returned (.bool b) ∧ Dz w' g A n c l ∧ w.grownBy w' (some g) := by
  obtain ⟨a, ha, hd⟩ := h.at_
  refine (bool_any g n c a k A l w hd h.row h.len h.bnd ha h.few hk hk2).mono ?_
  rintro e w' ⟨r, a', rfl, ha', hd', hg⟩
  exact ⟨r, rfl, ⟨h.len, h.bnd, h.few, irow_grown h.row hg hd.lt, a', ha', hd'⟩, hg⟩
theorem Dz.byte (h : Dz w g A n c l) :
    Calls Try.prog 31 #[.pointer (some ⟨g, 0, none⟩)] w fun e w' => ∃ x : UInt8, e = .returned (.int .u8 (x.toNat : Int)) ∧ Dz w' g A n c l ∧ w.grownBy w' (some g) := by
  obtain ⟨a, ha, hd⟩ := h.at_
  refine (byte_any g n c a A l w hd h.row h.len h.bnd ha h.few).mono ?_
  rintro e w' ⟨r, a', rfl, ha', hd', hg⟩
  exact ⟨r, rfl, ⟨h.len, h.bnd, h.few, irow_grown h.row hg hd.lt, a', ha', hd'⟩, hg⟩
/-- What is laid above the dice, or turned there, leaves them alone. -/
theorem Dz.grown (h : Dz w g A n c l) {r : Option Nat} (hg : w.grownBy w' r) (hne : r ≠ some g) (hlo : ∀ k, r = some k → g < k) : Dz w' g A n c l := by
  obtain ⟨a, ha, hd⟩ := h.at_
  refine ⟨h.len, h.bnd, h.few, Rd.keep h.row fun p hp => World.cell?_of_block (hg.block p.block (by have := hd.lt; omega) (fun e => ?_)), a, ha, hd.keep hg (Ne.symm hne)⟩
  have := hlo _ e.symm
  omega
theorem Dz.below (h : Dz w g A n c l) {B : Nat} (hb : Below B w w') (hB : g < B) : Dz w' g A n c l := by
  obtain ⟨a, ha, hd⟩ := h.at_
  exact ⟨h.len, h.bnd, h.few, Rd.keep h.row fun p hp => hb.cell (by omega), a, ha, hd.below hb hB⟩
/-- Below the dice's own block nothing turns. -/
theorem grown_lo {B : Nat} (h : w.grownBy w' (some g)) (hB : B ≤ g) (hlt : g < w.heap.size) : Below B w w' := ⟨h.os, h.tape, h.output, h.size, fun i hi => h.block i (by omega) (fun e => by injection e; omega)⟩
theorem Dz.start (A : Option Addr) (n c : Nat) (l : List Int) (w : World) (hr : IRow w.heap.size w A l) (hn : n = l.length) (hl : ∀ x ∈ l, -9223372036854775808 ≤ x ∧ x ≤ 9223372036854775807) (hm : n ≤ 1000000) :
    Dz (w.alloc (.cells #[.slice A n c, .int .i64 0] 99)) w.heap.size A n c l :=
  ⟨hn, hl, hm, Rd.alloc hr (Nat.le_refl _) _, 0, Nat.zero_le _, heap_alloc_new w _⟩
end

theorem bl_app (a b : ByteArray) : bl (a ++ b) = bl a ++ bl b := by
  unfold bl
  rw [ByteArray.data_append, Array.toList_append]
theorem mem_extract {s : ByteArray} {i j : Nat} {x : UInt8} (h : x ∈ bl (s.extract i j)) : x ∈ bl s := by
  unfold bl at *
  rw [ByteArray.data_extract, Array.toList_extract] at h
  exact List.mem_of_mem_drop (List.mem_of_mem_take h)
theorem Dz.text {w : World} {g n c : Nat} {A : Option Addr} {l : List Int} (h : Dz w g A n c l) (s : ByteArray) (m : Nat) (hs : 1 ≤ s.size) (hs2 : s.size ≤ 1000) (hm : m ≤ 10000) :
    Calls Try.prog 50 #[.pointer (some ⟨g, 0, none⟩), .string s, .int .i64 (m : Int)] w fun e w' => ∃ t : ByteArray, e = .returned (.string t) ∧ t.size = m ∧ (∀ x ∈ bl t, x ∈ bl s) ∧ Dz w' g A n c l ∧ w.grownBy w' (some g) := by
  go_enter Try.func50, Try.ntmps50
  go_wp2_with fail
  go_loopw [7, 8] (fun v i wr => ∃ (j : Nat) (t : ByteArray), j ≤ m ∧ i = .int .i64 j ∧ v = .string t ∧ t.size = j ∧ (∀ x ∈ bl t, x ∈ bl s) ∧ Dz wr g A n c l ∧ w.grownBy wr (some g)) (fun _ i _ => m - (intOf i).toNat)
  case atStart => exact ⟨0, ⟨#[]⟩, Nat.zero_le _, rfl, rfl, rfl, fun x hx => by simp [bl] at hx, h, World.grownBy.refl _ _⟩
  case round =>
    obtain ⟨j, t, hj, rfl, rfl, ht, hall, hd, hg⟩ := hrel
    have HT := Lib.hid ht
    have HALL := Lib.hid hall
    clear ht hall
    by_cases hlt : j < m
    · go_wp2_with fail
      refine (hd.next s.size hs (by omega)).mono ?_
      rintro e w2 ⟨r, hr, rfl, hd2, hg2⟩
      have b1 : (r : Int) + 1 ≤ (s.size : Int) := by omega
      have b2 : (s.extract r (r + 1)).size = 1 := by rw [ByteArray.size_extract]; omega
      have b3 : t.size ≤ 10000 := by have := HT.out; omega
      go_wp2_with fail
      refine ⟨⟨j + 1, t ++ s.extract r (r + 1), by omega, by go_num, rfl, ?_, ?_, hd2, grown_trans hg hg2⟩, by simp [intOf]; omega⟩
      · have := HT.out
        rw [ByteArray.size_append, ByteArray.size_extract]; omega
      · intro x hx
        rw [bl_app] at hx
        rcases List.mem_append.1 hx with hx | hx
        · exact HALL.out x hx
        · exact mem_extract hx
    · go_wp2_with fail
      go_ret
      exact ⟨t, rfl, by rw [HT.out]; omega, HALL.out, hd, hg⟩
theorem grown_new {w w2 w3 : World} {g : Nat} {r : Option Nat} (h : w.grownBy w2 (some g)) (k : w2.grownBy w3 r) (hr : ∀ b, r = some b → w.heap.size ≤ b) : w.grownBy w3 (some g) :=
  ⟨k.os.trans h.os, k.tape.trans h.tape, k.output.trans h.output, Nat.le_trans h.size k.size, fun i hi hne => (k.block i (Nat.lt_of_lt_of_le hi h.size) (fun e => by have := hr i e.symm; omega)).trans (h.block i hi hne)⟩
theorem own_kept {base g : Nat} {w w' : World} {v : Value} {l : List UInt8} (h : Own base w v l) (hg : w.grownBy w' (some g)) (hlo : g < base) : Own base w' v l :=
  World.ownsRow.kept h hg (.inr (fun e => by have := (World.ownsRow.lt h _ e).1; omega))
theorem Dz.bytes {w : World} {g n c : Nat} {A : Option Addr} {l : List Int} (h : Dz w g A n c l) (m : Nat) (hm : m ≤ 1000) :
    Calls Try.prog 15 #[.pointer (some ⟨g, 0, none⟩), .int .i64 (m : Int)] w fun e w' => ∃ (v : Value) (x : List UInt8), e = .returned v ∧ Own w.heap.size w' v x ∧ x.length ≤ m ∧ Dz w' g A n c l ∧ w.grownBy w' (some g) := by
  obtain ⟨i0, hi, hz0, hz1, hzq⟩ := info_parts info5
  have hn := Lib.hid (fun u (hu : Dz u g A n c l) => hu.next (m + 1) (by omega) (by omega))
  go_enter Try.func15, Try.ntmps15
  go_wp2_with fail
  refine (hn.out _ h).mono ?_
  rintro e w1 ⟨r, hr, rfl, hd1, hg1⟩
  go_wp2_with fail
  have hlt := h.lt
  go_loopw [5, 6] (fun v i wr => ∃ (q : Nat) (x : List UInt8), q ≤ r ∧ i = .int .i64 q ∧ x.length + q = r ∧ Own w.heap.size wr v x ∧ Dz wr g A n c l ∧ w.grownBy wr (some g)) (fun _ i _ => (intOf i).toNat)
  case atStart => exact ⟨r, [], Nat.le_refl _, rfl, by simp, Own.nil, hd1, hg1⟩
  case round =>
    clear hd1 hg1 h
    obtain ⟨q, x, hq, rfl, hx, hown, hd, hg⟩ := hrel
    have HX := Lib.hid hx
    clear hx
    by_cases h0 : 0 < q
    · go_wp2_with fail
      refine hd.byte.mono ?_
      rintro e w2 ⟨y, rfl, hd2, hg2⟩
      have hown2 := own_kept hown hg2 hlt
      have hzz := (grown_trans hg hg2).size
      have hy := y.toNat_lt
      go_wp2_with (at_builtin; go_loud (refine wpList_append_rd _ rfl _ _ _ rfl w.heap.size 5 i0 _ 1 Try.underlying33 hi hz0 hz1 hzq rfl _ _ _ rfl (World.ownsRow.alloc hown2 _) _ _ 1 1 (bvs [y]) rfl rfl (Rd.new w2 _ _) (fun hh => by cases hh) (bvs_one _) (by have := HX.out; unfold maxLen; omega) (by have := HX.out; omega) (by simp; omega) ?_); intro v1 w3 hown3 hg3)
      have hob : ∀ b, Value.ownBlock u5 = some b → w.heap.size ≤ b := fun b hb => (World.ownsRow.lt hown2 b hb).1
      have hal := World.grownBy_alloc w2 (.cells #[.int .u8 (y.toNat : Int)] 5) (none : Option Nat)
      have hdA := hd2.grown hal (by simp) (fun k hk => by cases hk)
      have hd3 := hdA.grown hg3 (fun e => by have := hob _ e; omega) (fun k hk => by have := hob k hk; omega)
      have hgA := grown_new (grown_trans hg hg2) hal (fun b hb => by cases hb)
      have hg4 := grown_new hgA hg3 hob
      exact ⟨⟨q - 1, x ++ [y], by omega, vi (by omega), by have := HX.out; simp; omega, own_app hown3, hd3, hg4⟩, by simp [intOf]; omega⟩
    · go_wp2_with fail
      go_ret
      exact ⟨_, x, rfl, hown, by have := HX.out; omega, hd, hg⟩
end Go.Proofs.Ytekhpcfggbegaaa.Made
