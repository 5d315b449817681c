/- Walks: modulo, and changes of single bits. -/
import Derived.Test.YtnmakbbbbcngbaaCrc
namespace Go.Proofs.Ytnmakbbbbcngbaa.Wg
open Go.RowKit Go.Proofs.Ytnmakbbbbcngbaa.Mem Go.Proofs.Ytnmakbbbbcngbaa.Pl Go.Proofs.Ytnmakbbbbcngbaa.Wa Go.Proofs.Ytnmakbbbbcngbaa.Wb Go.Proofs.Ytnmakbbbbcngbaa.Wf Go.Proofs.Ytnmakbbbbcngbaa.Crc
set_option maxRecDepth 100000
set_option maxHeartbeats 400000

theorem mod_any (n : Int) (m : Nat) (w : World) (h1 : -9223372036854775808 ≤ n) (h2 : n ≤ 9223372036854775807) (hm : 1 ≤ m) (hm2 : m ≤ 4611686018427387904) :
    Calls Try.prog 34 #[.int .i64 n, .int .i64 (m : Int)] w fun e w' => (∃ k : Nat, k < m ∧ e = .returned (.int .i64 (k : Int)) ∧ (k : Int) = n % (m : Int)) ∧ w = w' := by
  by_cases h0 : 0 ≤ n
  · have hk : 0 ≤ n % (m : Int) := Int.emod_nonneg _ (by omega)
    have hk2 : n % (m : Int) < m := Int.emod_lt_of_pos _ (by omega)
    have hm0 : ((m : Int) == 0) = false := by rw [beq_eq_false_iff_ne]; omega
    obtain ⟨k, hkk⟩ := Int.eq_ofNat_of_zero_le hk
    have hkm : k < m := by omega
    have HK := Lib.hid hkk
    have hr : IntKind.i64.wrap (n.tmod (m : Int)) = n % (m : Int) := by rw [Int.tmod_eq_emod_of_nonneg h0]; exact IntWalk.i64_in _ ⟨by omega, by omega⟩
    clear hkk
    go_enter Try.func34, Try.ntmps34
    go_wp2
    go_ret
    exact ⟨⟨k, hkm, ret_int HK.out, HK.out.symm⟩, rfl⟩
  · obtain ⟨q, hq⟩ : ∃ q : Int, n = -q := ⟨-n, by omega⟩
    subst hq
    have hm0 : ((m : Int) == 0) = false := by rw [beq_eq_false_iff_ne]; omega
    have ht : q.tmod (m : Int) = q % (m : Int) := Int.tmod_eq_emod_of_nonneg (by omega)
    have hk : 0 ≤ q % (m : Int) := Int.emod_nonneg _ (by omega)
    have hk2 : q % (m : Int) < m := Int.emod_lt_of_pos _ (by omega)
    have hd := Int.emod_add_mul_ediv q (m : Int)
    have hself : ∀ x : Int, 0 ≤ x → x < (m : Int) → (∃ z : Int, -q = x + (m : Int) * z) → x = -q % (m : Int) := by
      rintro x hx0 hx1 ⟨z, hz⟩
      rw [hz, Int.add_mul_emod_self_left, Int.emod_eq_of_lt hx0 hx1]
    have HF := Lib.hid hself
    have HD := Lib.hid hd
    clear hself hd h0
    generalize q % (m : Int) = r at *
    obtain ⟨s, rfl⟩ := Int.eq_ofNat_of_zero_le hk
    have hsm : s < m := by omega
    by_cases hs : s = 0
    · subst hs
      go_enter Try.func34, Try.ntmps34
      go_wp2
      go_ret
      refine ⟨⟨0, by omega, ret_int (by omega), HF.out 0 (by omega) (by omega) ⟨-(q / (m : Int)), ?_⟩⟩, rfl⟩
      have := HD.out
      rw [Int.mul_neg]; omega
    · have hneg : -(s : Int) < 0 := by omega
      go_enter Try.func34, Try.ntmps34
      go_wp2
      go_ret
      refine ⟨⟨m - s, by omega, ret_int (by omega), HF.out _ (by omega) (by omega) ⟨-(q / (m : Int)) - 1, ?_⟩⟩, rfl⟩
      have := HD.out
      rw [Int.mul_sub, Int.mul_neg]; omega
theorem mod_at (n v : Int) (m : Nat) (w : World) (hv : v = (m : Int)) (h1 : -9223372036854775808 ≤ n) (h2 : n ≤ 9223372036854775807) (hm : 1 ≤ m) (hm2 : m ≤ 4611686018427387904) :
    Calls Try.prog 34 #[.int .i64 n, .int .i64 v] w fun e w' => ∃ k : Nat, k < m ∧ e = .returned (.int .i64 (k : Int)) ∧ w = w' := by
  subst hv
  exact (mod_any n m w h1 h2 hm hm2).mono fun _ _ ⟨⟨k, h1, h2, _⟩, h3⟩ => ⟨k, h1, h2, h3⟩
theorem half8 : ∀ j, j < 8 → (128 : Int) / 2 ^ j = ((2 ^ (7 - j) : Nat) : Int) := by decide
theorem flip_bv (x : UInt8) (k : Nat) : Value.int .u8 (bits BinOp.xor .u8 (x.toNat : Int) (128 / 2 ^ (k % 8))) = bv (x ^^^ bit k) := by
  have h2 : 2 ^ (7 - k % 8) ≤ 2 ^ 7 := Nat.pow_le_pow_right (by omega) (by omega)
  rw [half8 _ (Nat.mod_lt _ (by omega)), u8_xor_nat _ _ x.toNat_lt (Nat.lt_of_le_of_lt h2 (by omega))]
  unfold bv
  rw [UInt8.toNat_xor, bit_num]

theorem flip_any (g n c base k : Nat) (l : List UInt8) (w : World) (h : Own base w (.slice (some ⟨g, 0, none⟩) n c) l) (hn : n = l.length) (hk : k < 8 * n) (hl : n ≤ 1000000) :
    Calls Try.prog 35 #[.slice (some ⟨g, 0, none⟩) n c, .int .i64 (k : Int)] w fun e w' => e = .returned (.tuple #[]) ∧ Own base w' (.slice (some ⟨g, 0, none⟩) n c) (flip l k) ∧ w.grownBy w' (some g) := by
  subst hn
  have hi : k / 8 < l.length := by omega
  have hcell := World.ownsRow.cellAt h (k / 8) (by omega)
  have hfz := World.ownsRow.frozenAt h (k / 8)
  have hx := l[k / 8].toNat_lt
  rw [show (bvs l)[k / 8]? = some (.int .u8 (l[k / 8].toNat : Int)) by simp [bvs, bv, List.getElem?_eq_getElem hi]] at hcell
  have b1 : (0 : Int) ≤ (k : Int) / 8 := by omega
  have b2 : (k : Int) / 8 < (l.length : Int) := by omega
  go_enter Try.func35, Try.ntmps35
  go_wp2
  rw [flip_bv]
  have hst := World.ownsRow.stored h (k / 8) (bv (l[k / 8] ^^^ bit k))
  go_end0
  refine ⟨rfl, own_of hst.1 (flip_len l k).symm ?_, hst.2⟩
  unfold bvs Crc.flip
  rw [List.map_set, List.getElem?_eq_getElem hi]
  rfl
theorem own_some {base n c : Nat} {A : Option Addr} {w : World} {l : List UInt8} (h : Own base w (.slice A n c) l) (hl : 0 < l.length) : ∃ g, A = some ⟨g, 0, none⟩ ∧ base ≤ g ∧ g < w.heap.size := by
  have hlt := World.ownsRow.lt h
  rcases h.2 with ⟨_, h0⟩ | ⟨g, cap, cur, hv, hb, _⟩
  · omega
  · injection hv with hv
    subst hv
    exact ⟨g, rfl, (hlt g rfl).1, (hlt g rfl).2⟩
theorem flip_at (g n c base k : Nat) (v : Int) (l : List UInt8) (w : World) (hv : v = (k : Int)) (h : Own base w (.slice (some ⟨g, 0, none⟩) n c) l) (hn : n = l.length) (hk : k < 8 * n) (hl : n ≤ 1000000) :
    Calls Try.prog 35 #[.slice (some ⟨g, 0, none⟩) n c, .int .i64 v] w fun e w' => e = .returned (.tuple #[]) ∧ Own base w' (.slice (some ⟨g, 0, none⟩) n c) (flip l k) ∧ w.grownBy w' (some g) := by
  subst hv
  exact flip_any g n c base k l w h hn hk hl
/-- An owned slice that is read, behind a store of the call's own. -/
theorem sl_own {base n c : Nat} {A : Option Addr} {w : World} {l : List UInt8} (h : Own base w (.slice A n c) l) (hn : n = l.length) : Sl w A n c l := by
  obtain ⟨A', c', hv, h1, h2, h3, h4⟩ := h.form
  injection hv with e1 e2 e3
  subst e1 e3
  subst hn
  exact ⟨rfl, h3, h1, h2, h4⟩
section
variable {base g n c i : Nat} {w : World} {l : List UInt8} (h : Own base w (.slice (some ⟨g, 0, none⟩) n c) l) (hn : n = l.length)
include h hn
theorem own_cell (hi : i < l.length) : w.cell? ⟨g, i, none⟩ = some (.int .u8 (l[i].toNat : Int)) := by
  subst hn
  rw [World.ownsRow.cellAt h i (by omega)]
  simp [bvs, bv, List.getElem?_eq_getElem hi]
theorem own_frozen (i : Nat) : w.frozen? ⟨g, i, none⟩ = false := by
  subst hn
  exact World.ownsRow.frozenAt h i
theorem own_store (i : Nat) (x : UInt8) : Own base (w.setCell ⟨g, i, none⟩ (bv x)) (.slice (some ⟨g, 0, none⟩) n c) (l.set i x) ∧ w.grownBy (w.setCell ⟨g, i, none⟩ (bv x)) (some g) := by
  subst hn
  have hst := World.ownsRow.stored h i (bv x)
  refine ⟨own_of hst.1 (by simp) ?_, hst.2⟩
  unfold bvs
  rw [List.map_set]
end
theorem bv_xor (x : UInt8) (m : Nat) (hm : m < 256) : Value.int .u8 (bits .xor .u8 (x.toNat : Int) (m : Int)) = bv (x ^^^ UInt8.ofNat m) := by
  rw [u8_xor_nat _ _ x.toNat_lt hm]
  unfold bv
  rw [UInt8.toNat_xor, UInt8.toNat_ofNat', Nat.mod_eq_of_lt hm]
theorem low8 : ∀ j, j < 8 → (2 : Int) ^ j % 256 = ((2 ^ j : Nat) : Int) := by decide
theorem lflip_bv (x : UInt8) (k : Nat) : Value.int .u8 (bits BinOp.xor .u8 (x.toNat : Int) (2 ^ (k % 8) % 256)) = bv (x ^^^ lbit k) := by
  have h2 : 2 ^ (k % 8) ≤ 2 ^ 7 := Nat.pow_le_pow_right (by omega) (by omega)
  rw [low8 _ (Nat.mod_lt _ (by omega)), bv_xor _ _ (Nat.lt_of_le_of_lt h2 (by omega))]
  rfl
theorem own_far {base g g' n c : Nat} {w w' : World} {l : List UInt8} (h : Own base w (.slice (some ⟨g, 0, none⟩) n c) l) (hg : w.grownBy w' (some g')) (hne : g ≠ g') : Own base w' (.slice (some ⟨g, 0, none⟩) n c) l :=
  World.ownsRow.kept h hg (.inr (by simp [Value.ownBlock]; exact hne))
theorem mask_ne {m : Nat} (h1 : m < 256) (h0 : m ≠ 0) : UInt8.ofNat m ≠ 0 := fun h => by
  have := congrArg UInt8.toNat h
  rw [UInt8.toNat_ofNat', Nat.mod_eq_of_lt h1] at this
  exact h0 this
/-- One byte is changed by a mask. -/
theorem poke {base g n c k m : Nat} {w : World} {x : List UInt8} (o : Own base w (.slice (some ⟨g, 0, none⟩) n c) x) (hn : n = x.length) (hk : k < n) (hm : m < 256) (h0 : m ≠ 0) :
    ∃ xb : UInt8, w.cell? ⟨g, k, none⟩ = some (.int .u8 (xb.toNat : Int)) ∧ w.frozen? ⟨g, k, none⟩ = false ∧ w.grownBy (w.setCell ⟨g, k, none⟩ (bv (xb ^^^ UInt8.ofNat m))) (some g) ∧
      ∃ x', Hid (n = x'.length) ∧ Own base (w.setCell ⟨g, k, none⟩ (bv (xb ^^^ UInt8.ofNat m))) (.slice (some ⟨g, 0, none⟩) n c) x' ∧
        (sum8 x = 0 → sum8 x' ≠ 0) ∧ (crc8 x = 0 → crc8 x' ≠ 0) ∧ (raw32 x = K32 → raw32 x' ≠ K32) := by
  have hk' : k < x.length := by omega
  obtain ⟨r, t⟩ := own_store o hn k (x[k] ^^^ UInt8.ofNat m)
  have hmu := mask_ne hm h0
  exact ⟨x[k], own_cell o hn hk', own_frozen o hn k, t, x.set k (x[k] ^^^ UInt8.ofNat m), Lib.hid (by rw [List.length_set]; exact hn), r, sum8_set x k _ hk' hmu, crc8_byte x k _ hk' hmu, raw32_byte x k _ hk' hmu⟩
/-! A row of bools of the call's own. -/
def BOwn (base : Nat) (w : World) (v : Value) (l : List Bool) : Prop := w.ownsRow base 4 1 v l.length (l.map Value.bool)
section
variable {base g n c i : Nat} {w : World} {l : List Bool} (h : BOwn base w (.slice (some ⟨g, 0, none⟩) n c) l) (hn : n = l.length)
include h hn
theorem bown_cell (hi : i < l.length) : w.cell? ⟨g, i, none⟩ = some (.bool l[i]) := by
  subst hn
  rw [World.ownsRow.cellAt h i (by omega)]
  simp [List.getElem?_eq_getElem hi]
theorem bown_frozen (i : Nat) : w.frozen? ⟨g, i, none⟩ = false := by
  subst hn
  exact World.ownsRow.frozenAt h i
theorem bown_store (i : Nat) (x : Bool) : BOwn base (w.setCell ⟨g, i, none⟩ (.bool x)) (.slice (some ⟨g, 0, none⟩) n c) (l.set i x) ∧ w.grownBy (w.setCell ⟨g, i, none⟩ (.bool x)) (some g) := by
  subst hn
  have hst := World.ownsRow.stored h i (.bool x)
  refine ⟨?_, hst.2⟩
  have := hst.1
  unfold BOwn
  rwa [List.length_set, List.map_set]
end
theorem bown_far {base g g' n c : Nat} {w w' : World} {l : List Bool} (h : BOwn base w (.slice (some ⟨g, 0, none⟩) n c) l) (hg : w.grownBy w' (some g')) (hne : g ≠ g') : BOwn base w' (.slice (some ⟨g, 0, none⟩) n c) l :=
  World.ownsRow.kept h hg (.inr (by simp [Value.ownBlock]; exact hne))
theorem info_bool : (Try.prog.info? 4).map (fun i => (i.zero, i.size, i.bytes)) = some (some (.bool false), 1, 1) := by kernel_rfl
theorem bown_made {base n : Nat} {w' : World} {v : Value} (h : w'.ownsRow base 4 1 v n (madeCells (Value.bool false).cells (n * 1)).toList) : BOwn base w' v (List.replicate n false) := by
  unfold BOwn
  rw [List.length_replicate, List.map_replicate]
  have e : (madeCells (Value.bool false).cells (n * 1)).toList = List.replicate n (Value.bool false) := by
    rw [Nat.mul_one]; exact toList_madeCells_one _ _
  rwa [e] at h
end Go.Proofs.Ytnmakbbbbcngbaa.Wg
