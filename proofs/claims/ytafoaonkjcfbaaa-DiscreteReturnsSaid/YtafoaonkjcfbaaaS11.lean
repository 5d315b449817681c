/- Walks: the program's changes of a state. -/
import Derived.Test.YtafoaonkjcfbaaaS10
namespace Go.Proofs.Ytafoaonkjcfbaaa.Ya
open Go.RowKit Go.Proofs.Ytafoaonkjcfbaaa.Mem
set_option maxRecDepth 100000
set_option maxHeartbeats 1000000

theorem tb_xor (a b j : Nat) : (a ^^^ b) / 2 ^ j % 2 = if a.testBit j = b.testBit j then 0 else 1 := by
  have h := Nat.testBit_xor a b j
  rw [Nat.testBit_eq_decide_div_mod_eq] at h
  have h2 : (a ^^^ b) / 2 ^ j % 2 < 2 := Nat.mod_lt _ (by omega)
  generalize (a ^^^ b) / 2 ^ j % 2 = q at *
  by_cases he : a.testBit j = b.testBit j
  · rw [if_pos he]
    rw [he] at h
    have : ¬ q = 1 := fun e => by rw [decide_eq_true e] at h; cases hb : b.testBit j <;> rw [hb] at h <;> cases h
    omega
  · rw [if_neg he]
    rcases (show q = 0 ∨ q = 1 by omega) with rfl | rfl
    · exfalso; apply he
      cases ha : a.testBit j <;> cases hb : b.testBit j <;> rw [ha, hb] at h <;> first | rfl | cases h
    · rfl
theorem tb_one (b j : Nat) : b / 2 ^ j % 2 = if b.testBit j = true then 1 else 0 := by
  rw [Nat.testBit_eq_decide_div_mod_eq]
  have h2 : b / 2 ^ j % 2 < 2 := Nat.mod_lt _ (by omega)
  by_cases h : b / 2 ^ j % 2 = 1
  · rw [decide_eq_true h, h]; rfl
  · rw [decide_eq_false h]; simp; omega
theorem and_one8 (x : Nat) (h : x < 256) : bits .and .u8 (x : Int) 1 = ((x % 2 : Nat) : Int) := by
  have := and_u8 x 1 h (by omega)
  rw [Nat.and_one_is_mod] at this
  exact this
theorem shr_n (x i : Nat) : (x : Int) / 2 ^ i = ((x / 2 ^ i : Nat) : Int) := by
  rw [Int.natCast_ediv, Int.natCast_pow]; rfl
theorem changes_q (a b : Nat) (ha : a < 256) (hb : b < 256) (w : World) :
    Calls Try.prog 86 #[.int .u8 (a : Int), .int .u8 (b : Int)] w fun e w' => ∃ v, e = .returned v ∧ KOwn w.heap.size w' v (chs a b 6) ∧ Below w.heap.size w w' := by
  have hx := xor_u8 a b ha hb
  have hxl : a ^^^ b < 256 := Nat.xor_lt_two_pow (n := 8) (by omega) (by omega)
  have h1 := fun j => tb_xor a b j
  have h2 := fun j => tb_one b j
  generalize a ^^^ b = X at *
  have hsh : ∀ j, X / 2 ^ j < 256 := fun j => Nat.lt_of_le_of_lt (Nat.div_le_self _ _) hxl
  have hsb : ∀ j, b / 2 ^ j < 256 := fun j => Nat.lt_of_le_of_lt (Nat.div_le_self _ _) hb
  have H1 := Lib.hid h1; have H2 := Lib.hid h2; have HSX := Lib.hid hsh; have HSB := Lib.hid hsb
  clear h1 h2 hsh hsb
  have hb0 : Below w.heap.size w w := Below.refl _ _
  go_enter Try.func86, Try.ntmps86
  go_wp2_with fail
  go_loopw [5, 6] (fun v i wr => ∃ j : Nat, j ≤ 6 ∧ i = .int .i64 (j : Int) ∧ KOwn w.heap.size wr v (chs a b j) ∧ Below w.heap.size w wr) (fun _ i _ => 6 - (intOf i).toNat)
  case atStart => exact ⟨0, by omega, rfl, KOwn.nil, hb0⟩
  case round =>
    clear hb0
    obtain ⟨j, hj, rfl, hown, hbel⟩ := hrel
    by_cases hj6 : j < 6
    · have k6 : decide ((j : Int) ≤ 5) = true := by simp; omega
      have e1 := and_one8 _ (HSX.out j)
      have e2 := and_one8 _ (HSB.out j)
      rw [H1.out j, ← shr_n] at e1
      rw [H2.out j, ← shr_n] at e2
      by_cases hd : a.testBit j = b.testBit j
      · rw [if_pos hd] at e1
        have HC := Lib.hid (chs_same hd)
        go_wp2_with fail
        refine ⟨⟨j + 1, by omega, by go_num, ?_, hbel⟩, by simp [intOf]; omega⟩
        rw [HC.out]; exact hown
      · rw [if_neg hd] at e1
        have HC := Lib.hid (chs_diff hd)
        have HL := Lib.hid (chs_len a b j)
        clear hd
        generalize b.testBit j = y at *
        cases y
        · rw [if_neg Bool.false_ne_true] at e2
          go_wp2_with (at_builtin; (refine wpList_append_k _ rfl (.tmp 18) (.tmp 26) rfl w.heap.size _ (chs a b j) rfl (World.ownsRow.alloc hown _) [⟨j, false⟩] ⟨wr.heap.size, 0, none⟩ 1 1 rfl rfl (KsAt.one (cell_of_row _ _ 0 _ _ _ (heap_alloc_new wr _)) (cell_of_row _ _ 1 _ _ _ (heap_alloc_new wr _))) (by have := HL.out; simp; omega) (by have := hbel.size; simp; omega) ?_); intro v8 w8 hown8 hg8 hv8)
          refine ⟨⟨j + 1, by omega, by go_num, ?_, ?_⟩, by simp [intOf]; omega⟩
          · rw [HC.out]; exact hown8
          · exact (hbel.alloc hbel.size _).grown hg8 (by have := hbel.size; simp; omega) (fun k hk => (KOwn.blk hown hk).1)
        · rw [if_pos rfl] at e2
          go_wp2_with (at_builtin; (refine wpList_append_k _ rfl (.tmp 18) (.tmp 26) rfl w.heap.size _ (chs a b j) rfl (World.ownsRow.alloc hown _) [⟨j, true⟩] ⟨wr.heap.size, 0, none⟩ 1 1 rfl rfl (KsAt.one (cell_of_row _ _ 0 _ _ _ (heap_alloc_new wr _)) (cell_of_row _ _ 1 _ _ _ (heap_alloc_new wr _))) (by have := HL.out; simp; omega) (by have := hbel.size; simp; omega) ?_); intro v8 w8 hown8 hg8 hv8)
          refine ⟨⟨j + 1, by omega, by go_num, ?_, ?_⟩, by simp [intOf]; omega⟩
          · rw [HC.out]; exact hown8
          · exact (hbel.alloc hbel.size _).grown hg8 (by have := hbel.size; simp; omega) (fun k hk => (KOwn.blk hown hk).1)
    · obtain rfl : j = 6 := by omega
      go_wp2_with fail
      go_ret
      exact ⟨_, rfl, hown, hbel⟩
end Go.Proofs.Ytafoaonkjcfbaaa.Ya
