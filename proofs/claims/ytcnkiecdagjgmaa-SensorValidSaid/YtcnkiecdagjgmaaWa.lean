/- Walks: the checksums of bytes. Walks: copies of bytes, sealed strings. Walks: numbers of four bytes, sealing and opening. -/
import Derived.Test.YtcnkiecdagjgmaaMem
import Derived.Test.YtcnkiecdagjgmaaPlain
namespace Go.Proofs.Ytcnkiecdagjgmaa.Wa
open Go.RowKit Go.Proofs.Ytcnkiecdagjgmaa.Mem Go.Proofs.Ytcnkiecdagjgmaa.Pl
set_option maxRecDepth 100000
set_option maxHeartbeats 400000

theorem sh8_yes (c : Nat) (h : ((c : Int) / 128 == 1) = true) : bits .xor .u8 ((c : Int) * 2 % 256) 7 = ((sh8 c : Nat) : Int) := by
  have h1 : c / 128 = 1 := by have := eq_of_beq h; omega
  have e := u8_xor_nat (c * 2 % 256) 7 (by omega) (by omega)
  rw [sh8, if_pos h1, ← e]; congr 1
theorem sh8_no (c : Nat) (h : ((c : Int) / 128 == 1) = false) : (c : Int) * 2 % 256 = ((sh8 c : Nat) : Int) := by
  have h1 : ¬ c / 128 = 1 := by have := ne_of_beq_false h; omega
  rw [sh8, if_neg h1]; omega
theorem shr_yes (c : Nat) (hc : c < 256) (h : 256 ≤ 2 * (c : Int)) : bits .xor .i64 (2 * (c : Int) - 256) 7 = ((sh8 c : Nat) : Int) := by
  have h1 : c / 128 = 1 := by omega
  have e := i64_xor (c * 2 % 256) 7 (by omega) (by omega)
  rw [sh8, if_pos h1, ← e]; congr 1; omega
theorem shr_no (c : Nat) (h : 2 * (c : Int) < 256) : 2 * (c : Int) = ((sh8 c : Nat) : Int) := by
  have h1 : ¬ c / 128 = 1 := by omega
  rw [sh8, if_neg h1]; omega
theorem sh32_yes (c : Nat) (hc : c < 4294967296) (h : ((c : Int) % 2 == 1) = true) : bits .xor .u32 ((c : Int) / 2) 3988292384 = ((sh32 c : Nat) : Int) := by
  have h1 : c % 2 = 1 := by have := eq_of_beq h; omega
  have e := u32_xor_nat (c / 2) 3988292384 (by omega) (by omega)
  rw [sh32, if_pos h1, ← e]; congr 1
theorem sh32_no (c : Nat) (h : ((c : Int) % 2 == 1) = false) : (c : Int) / 2 = ((sh32 c : Nat) : Int) := by
  have h1 : ¬ c % 2 = 1 := by have := ne_of_beq_false h; omega
  rw [sh32, if_neg h1]; omega
theorem u32_and_one (c : Nat) (hc : c < 4294967296) : bits .and .u32 (c : Int) 1 = (c : Int) % 2 := by
  have e := u32_and_nat c 1 hc (by omega)
  rw [Nat.and_one_is_mod] at e
  exact e.trans (by omega)
theorem xor_ones (c : Nat) (hc : c < 2 ^ 32) : (2 ^ 32 - 1) ^^^ c = 2 ^ 32 - 1 - c := by
  apply Nat.eq_of_testBit_eq
  intro i
  rw [Nat.testBit_xor, Nat.testBit_two_pow_sub_one, show 2 ^ 32 - 1 - c = 2 ^ 32 - (c + 1) by omega, Nat.testBit_two_pow_sub_succ hc]
  by_cases h : i < 32
  · simp [h]
  · have : c.testBit i = false := Nat.testBit_lt_two_pow (Nat.lt_of_lt_of_le hc (Nat.pow_le_pow_right (by omega) (by omega)))
    simp [h, this]
theorem u32_not (c : Nat) (hc : c < 4294967296) : bits .xor .u32 IntKind.u32.max (c : Int) = ((4294967295 - c : Nat) : Int) := by
  have e := u32_xor_nat 4294967295 c (by omega) hc
  have h := xor_ones c hc
  exact e.trans (congrArg Int.ofNat h)
theorem crc8_succ (l : List UInt8) (k : Nat) (h : k < l.length) : crc8 (l.take (k + 1)) = it sh8 8 (crc8 (l.take k) ^^^ l[k].toNat) := foldl_take _ _ _ _ h
theorem total_succ (l : List UInt8) (k : Nat) (h : k < l.length) : total (l.take (k + 1)) = (total (l.take k) + l[k].toNat) % 256 := foldl_take _ _ _ _ h
theorem raw32_succ (l : List UInt8) (k : Nat) (h : k < l.length) : raw32 (l.take (k + 1)) = it sh32 8 (raw32 (l.take k) ^^^ l[k].toNat) := foldl_take _ _ _ _ h

theorem sum8_any (A : Option Addr) (c : Nat) (l : List UInt8) (B : Nat) (w : World) (h : Row B w A l) (hl : l.length ≤ maxLen) :
    Calls Try.prog 124 #[.slice A l.length c] w fun e w' => e = .returned (.int .u8 (sum8 l)) ∧ w = w' := by
  unfold maxLen at hl
  go_enter Try.func124, Try.ntmps124
  go_wp2
  go_loop [3, 8] (fun cv i => ∃ k : Nat, k ≤ l.length ∧ i = .int .i64 k ∧ cv = .int .u8 (total (l.take k))) (fun _ i => l.length - (intOf i).toNat)
  case atStart => exact ⟨0, Nat.zero_le _, rfl, rfl⟩
  case round =>
    obtain ⟨k, hk, rfl, rfl⟩ := hrel
    have ht := total_lt (l.take k)
    by_cases hlt : k < l.length
    · obtain ⟨a, rfl, hb, hc⟩ := row_at h hlt
      have hx : l[k].toNat < 256 := l[k].toNat_lt
      go_wp2
      exact ⟨⟨k + 1, by omega, by go_num, vi (by rw [total_succ l k hlt]; omega)⟩, by simp [intOf]; omega⟩
    · go_wp2
      go_ret
      exact ⟨ret_int (by rw [List.take_of_length_le (by omega), sum8]; rw [List.take_of_length_le (by omega)] at ht; omega), rfl⟩

theorem rsum8_any (A : Option Addr) (c : Nat) (l : List UInt8) (B : Nat) (w : World) (h : Row B w A l) (hl : l.length ≤ maxLen) :
    Calls Try.prog 96 #[.slice A l.length c] w fun e w' => e = .returned (.int .u8 (sum8 l)) ∧ w = w' := by
  unfold maxLen at hl
  go_enter Try.func96, Try.ntmps96
  go_wp2
  go_loop [3, 4] (fun cv i => ∃ k : Nat, k ≤ l.length ∧ i = .int .i64 k ∧ cv = .int .i64 (total (l.take k))) (fun _ i => l.length - (intOf i).toNat)
  case atStart => exact ⟨0, Nat.zero_le _, rfl, rfl⟩
  case round =>
    obtain ⟨k, hk, rfl, rfl⟩ := hrel
    have ht := total_lt (l.take k)
    by_cases hlt : k < l.length
    · obtain ⟨a, rfl, hb, hc⟩ := row_at h hlt
      have hx : l[k].toNat < 256 := l[k].toNat_lt
      go_wp2
      exact ⟨⟨k + 1, by omega, by go_num, vi (by rw [total_succ l k hlt]; omega)⟩, by simp [intOf]; omega⟩
    · go_wp2
      go_ret
      exact ⟨ret_int (by rw [List.take_of_length_le (by omega), sum8]; rw [List.take_of_length_le (by omega)] at ht; omega), rfl⟩


end Go.Proofs.Ytcnkiecdagjgmaa.Wa
namespace Go.Proofs.Ytcnkiecdagjgmaa.Wb
open Go.RowKit Go.Proofs.Ytcnkiecdagjgmaa.Mem Go.Proofs.Ytcnkiecdagjgmaa.Pl Go.Proofs.Ytcnkiecdagjgmaa.Wa
set_option maxRecDepth 100000
set_option maxHeartbeats 400000

theorem info5 : (Try.prog.info? 5).map (fun i => (i.zero, i.size, i.bytes)) = some (some (.int .u8 0), 1, 1) := by kernel_rfl

theorem sum8_at (A : Option Addr) (n c : Nat) (l : List UInt8) (B : Nat) (w : World) (hn : n = l.length) (h : Row B w A l) (hl : n ≤ maxLen) :
    Calls Try.prog 124 #[.slice A n c] w fun e w' => e = .returned (.int .u8 (sum8 l)) ∧ w = w' := by
  subst hn
  exact sum8_any A c l B w h hl
theorem rsum8_at (A : Option Addr) (n c : Nat) (l : List UInt8) (B : Nat) (w : World) (hn : n = l.length) (h : Row B w A l) (hl : n ≤ maxLen) :
    Calls Try.prog 96 #[.slice A n c] w fun e w' => e = .returned (.int .u8 (sum8 l)) ∧ w = w' := by
  subst hn
  exact rsum8_any A c l B w h hl
theorem clone_any (A : Option Addr) (m c : Nat) (l : List UInt8) (w : World) (hm : m = l.length) (h : Row w.heap.size w A l) (hl : m ≤ 4611686018427387904) (hb : m ≤ 140737488355328) :
    Calls Try.prog 126 #[.slice A m c] w fun e w' => ∃ v, e = .returned v ∧ Own w.heap.size w' v l ∧ Below w.heap.size w w' := by
  subst hm
  obtain ⟨i0, hi, hz0, hz1, hz2⟩ := info_parts info5
  have hnil := fun w => Lib.run_eql_slice_nil (P := Try.prog) w 42 5 A l.length c 0 0 Try.underlying42
  rcases A with _ | a
  · go_enter Try.func126, Try.ntmps126
    go_wp2
    go_ret
    have hl0 := h.empty
    subst hl0
    exact ⟨_, rfl, Own.nil, Below.refl _ _⟩
  · go_enter Try.func126, Try.ntmps126
    go_wp2_with (at_builtin; (refine wpList_append_rd _ rfl (.tmp 5) (.tmp 6) _ rfl w.heap.size 5 i0 _ 1 Try.underlying42 hi hz0 hz1 hz2 rfl _ 0 [] rfl (World.ownsRow_lit w #[] 0 (Nat.le_refl _) (by unfold maxLen; omega) (by simp)) w.heap.size (some a) l.length c (bvs l) rfl (len_bvs l) (Rd.alloc h (Nat.le_refl _) _) (fun hh => by cases hh) (bvs_one l) (by unfold maxLen; omega) (by omega) (by simp) ?_); intro v' w1 hown1 hg1)
    go_ret
    exact ⟨_, rfl, own_of hown1 (by simp) (by simp), ((Below.refl _ _).alloc (Nat.le_refl _) _).grown hg1 (by simp) (fun k hk => by cases hk; exact Nat.le_refl _)⟩

theorem same_any (A A' : Option Addr) (n n' c c' : Nat) (l l' : List UInt8) (B : Nat) (w : World) (hn : n = l.length) (hn' : n' = l'.length) (h : Row B w A l) (h' : Row B w A' l') (hl : n ≤ maxLen) (hl' : n' ≤ maxLen) :
    Calls Try.prog 38 #[.slice A n c, .slice A' n' c'] w fun e w' => e = .returned (.bool (decide (l = l'))) ∧ ∃ k, w' = w.drewN k := by
  unfold maxLen at hl hl'
  subst hn hn'
  by_cases he : l.length = l'.length
  · have he' : ((l.length : Int) != (l'.length : Int)) = false := by simp [he]
    go_enter Try.func38, Try.ntmps38
    go_wp2
    go_loopw [5] (fun i wr => ∃ k : Nat, k ≤ l.length ∧ i = .int .i64 k ∧ (∃ q, wr = w.drewN q) ∧ l.take k = l'.take k) (fun i _ => l.length - (intOf i).toNat)
    case atStart => exact ⟨0, Nat.zero_le _, rfl, ⟨0, rfl⟩, rfl⟩
    case round =>
      obtain ⟨k, hk, rfl, ⟨q, rfl⟩, ht⟩ := hrel
      have HT := Lib.hid ht; clear ht
      have HE := Lib.hid he; clear he
      by_cases hlt : k < l.length
      · have hlt' : k < l'.length := HE.out ▸ hlt
        obtain ⟨a, rfl, hb, hc⟩ := row_at h hlt
        obtain ⟨a', rfl, hb', hc'⟩ := row_at h' hlt'
        go_wp2
        go_quiet (fail)
        go_wp2
        · have hne : (l[k].toNat : Int) ≠ (l'[k].toNat : Int) := by simpa using ‹((l[k].toNat : Int) != (l'[k].toNat : Int)) = true›
          go_ret
          refine ⟨ret_bool ?_, _, World.drewN_drewN _ _ _⟩
          simp
          rintro rfl
          exact hne rfl
        · have heq : (l[k].toNat : Int) = (l'[k].toNat : Int) := by simpa using ‹((l[k].toNat : Int) != (l'[k].toNat : Int)) = false›
          refine ⟨⟨k + 1, by omega, by go_num, ⟨_, rfl⟩, ?_⟩, by simp [intOf]; omega⟩
          rw [take_snoc hlt, take_snoc hlt', HT.out, UInt8.toNat_inj.1 (by omega : l[k].toNat = l'[k].toNat)]
      · go_wp2
        go_ret
        refine ⟨ret_bool ?_, _, rfl⟩
        have := HT.out
        rw [List.take_of_length_le (by omega), List.take_of_length_le (by have := HE.out; omega)] at this
        simp [this]
  · have he' : ((l.length : Int) != (l'.length : Int)) = true := by simp; omega
    go_enter Try.func38, Try.ntmps38
    go_wp2
    go_ret
    exact ⟨ret_bool (by simp; rintro rfl; exact he rfl), 0, rfl⟩

theorem copy_any (A : Option Addr) (n c : Nat) (l : List UInt8) (w : World) (hn : n = l.length) (h : Row w.heap.size w A l) (hb : n ≤ 140737488355328) :
    Calls Try.prog 95 #[.slice A n c] w fun e w' => ∃ v, e = .returned v ∧ Own w.heap.size w' v l ∧ Below w.heap.size w w' := by
  subst hn
  obtain ⟨i0, hi, hz0, hz1, hz2⟩ := info_parts info5
  go_enter Try.func95, Try.ntmps95
  go_wp2
  go_loopw [3, 4] (fun v i wr => ∃ k : Nat, k ≤ l.length ∧ i = .int .i64 k ∧ Own w.heap.size wr v (l.take k) ∧ Below w.heap.size w wr) (fun _ i _ => l.length - (intOf i).toNat)
  case atStart => exact ⟨0, Nat.zero_le _, rfl, ⟨by simp [bvs], .inl ⟨rfl, by simp⟩⟩, Below.refl _ _⟩
  case round =>
    obtain ⟨k, hk, rfl, hown, hbel⟩ := hrel
    by_cases hlt : k < l.length
    · obtain ⟨a, rfl, hb, hc⟩ := row_at (h.below hbel) hlt
      go_wp2_with (at_builtin; (refine wpList_append_rd _ rfl (.tmp 11) (.tmp 16) _ rfl w.heap.size 5 i0 _ 1 Try.underlying42 hi hz0 hz1 hz2 rfl _ (l.take k).length (bvs (l.take k)) rfl (World.ownsRow.alloc hown _) _ _ 1 1 (bvs [l[k]]) rfl rfl (Rd.new wr _ _) (fun hh => by cases hh) (bvs_one _) (by unfold maxLen; simp; omega) (by simp; omega) (by have := hbel.size; simp; omega) ?_); intro v' w1 hown1 hg1)
      have hbel1 : Below w.heap.size w w1 := below_grown (hbel.alloc hbel.size _) (World.ownsRow.alloc hown _) hg1 (by have := hbel.size; simp; omega)
      go_roundw
      case rel => exact ⟨k + 1, by omega, by go_num, by rw [take_snoc hlt]; exact own_app hown1, hbel1⟩
      case measure => simp [intOf]; omega
    · go_wp2
      go_ret
      exact ⟨_, rfl, by rw [List.take_of_length_le (by omega)] at hown; exact hown, hbel⟩

theorem join_any (A A' : Option Addr) (n n' c c' : Nat) (l l' : List UInt8) (w : World) (hn : n = l.length) (hn' : n' = l'.length) (h : Row w.heap.size w A l) (h' : Row w.heap.size w A' l')
   (hA : A = none → c = 0) (hA' : A' = none → c' = 0) (hb : n + n' ≤ 140737488355328) :
    Calls Try.prog 123 #[.slice A n c, .slice A' n' c'] w fun e w' => ∃ v, e = .returned v ∧ Own w.heap.size w' v (l ++ l') ∧ Below w.heap.size w w' := by
  subst hn hn'
  obtain ⟨i0, hi, hz0, hz1, hz2⟩ := info_parts info5
  go_enter Try.func123, Try.ntmps123
  go_wp2_with (first
    | (at_make; (refine wpList_make_own _ rfl _ _ 42 rfl w.heap.size 5 i0 _ 1 Try.underlying42 hi hz0 hz1 _ _ _ (l.length + l'.length) rfl rfl (by omega) (by rw [hz2]; omega) (by unfold maxLen; omega) (Nat.le_refl _) ?_); intro w1 hown1 hg1; have hbel1 : Below w.heap.size w w1 := (Below.refl _ _).grown hg1 (Nat.le_refl _) (fun k hk => by cases hk))
    | (at_builtin; (refine wpList_append_rd _ rfl (.tmp 12) (.tmp 13) _ rfl w.heap.size 5 i0 _ 1 Try.underlying42 hi hz0 hz1 hz2 rfl _ 0 [] rfl hown1 _ A l.length c (bvs l) rfl (len_bvs l) (Rd.below h hbel1) hA (bvs_one _) (by unfold maxLen; omega) (by omega) hbel1.size ?_); intro v2 w2 hown2 hg2; have hbel2 : Below w.heap.size w w2 := below_grown hbel1 hown1 hg2 hbel1.size)
    | (at_builtin; (refine wpList_append_rd _ rfl (.tmp 15) (.tmp 16) _ rfl w.heap.size 5 i0 _ 1 Try.underlying42 hi hz0 hz1 hz2 rfl _ (0 + l.length) ([] ++ bvs l) rfl hown2 _ A' l'.length c' (bvs l') rfl (len_bvs l') (Rd.below h' hbel2) hA' (bvs_one _) (by unfold maxLen; omega) (by omega) hbel2.size ?_); intro v3 w3 hown3 hg3; have hbel3 : Below w.heap.size w w3 := below_grown hbel2 hown2 hg3 hbel2.size))
  go_ret
  exact ⟨_, rfl, own_of hown3 (by simp) (by simp [bvs_app]), hbel3⟩
theorem or_step (a b : Nat) (i m : Nat) (hm : m = 2 ^ i) (ha : a < m) (hb : b < 256) (hs : m * 256 ≤ 4294967296) : bits .or .u32 (a : Int) ((b : Int) * (m : Int)) = ((a + m * b : Nat) : Int) := by
  have h1 : m * b < m * 256 := Nat.mul_lt_mul_of_pos_left hb (by omega)
  have e := u32_or_nat a (b * m) (by omega) (by rw [Nat.mul_comm]; omega)
  rw [Int.natCast_mul] at e
  rw [e, Nat.or_comm, Nat.mul_comm b m, Nat.add_comm, hm]
  congr 1
  exact (Nat.two_pow_add_eq_or_of_lt (hm ▸ ha) b).symm
theorem or_four (x0 x1 x2 x3 : Nat) (h0 : x0 < 256) (h1 : x1 < 256) (h2 : x2 < 256) (h3 : x3 < 256) :
    bits .or .u32 (bits .or .u32 (bits .or .u32 (x0 : Int) ((x1 : Int) * 256)) ((x2 : Int) * 65536)) ((x3 : Int) * 16777216) = ((x0 + 256 * (x1 + 256 * (x2 + 256 * x3)) : Nat) : Int) := by
  have e1 := or_step x0 x1 8 256 rfl h0 h1 (by omega)
  have e2 := or_step (x0 + 256 * x1) x2 16 65536 rfl (by omega) h2 (by omega)
  have e3 := or_step (x0 + 256 * x1 + 65536 * x2) x3 24 16777216 rfl (by omega) h3 (by omega)
  simp only [Int.cast_ofNat_Int] at e1 e2 e3
  rw [e1, e2, e3]
  omega
end Go.Proofs.Ytcnkiecdagjgmaa.Wb
namespace Go.Proofs.Ytcnkiecdagjgmaa.Wc
open Go.RowKit Go.Proofs.Ytcnkiecdagjgmaa.Mem Go.Proofs.Ytcnkiecdagjgmaa.Pl Go.Proofs.Ytcnkiecdagjgmaa.Wa Go.Proofs.Ytcnkiecdagjgmaa.Wb
set_option maxRecDepth 100000
set_option maxHeartbeats 400000

/-- The number of little-endian bytes. -/
def num : List UInt8 → Nat
  | [] => 0
  | x :: l => x.toNat + 256 * num l
def lit : Nat → Nat → List UInt8
  | _, 0 => []
  | v, n + 1 => UInt8.ofNat (v % 256) :: lit (v / 256) n
theorem num_lt (l : List UInt8) : num l < 256 ^ l.length := by
  induction l with
  | nil => simp [num]
  | cons x l ih => have := x.toNat_lt; simp only [num, List.length_cons, Nat.pow_succ]; omega
theorem lit_len (v n : Nat) : (lit v n).length = n := by
  induction n generalizing v with
  | zero => rfl
  | succ n ih => simp [lit, ih]
theorem lit_snoc (v n : Nat) : lit v (n + 1) = lit v n ++ [UInt8.ofNat (v / 256 ^ n % 256)] := by
  induction n generalizing v with
  | zero => simp [lit]
  | succ n ih => 
    rw [lit, ih, lit, Nat.div_div_eq_div_mul, List.cons_append, Nat.pow_succ, Nat.mul_comm 256]
theorem num_drop (l : List UInt8) (k : Nat) (h : k < l.length) : num (l.drop k) = 256 * num (l.drop (k + 1)) + l[k].toNat := by
  rw [List.drop_eq_getElem_cons h, num]; omega

theorem number_any (A : Option Addr) (c : Nat) (l : List UInt8) (B : Nat) (w : World) (h : Row B w A l) (hl : l.length ≤ 8) :
    Calls Try.prog 101 #[.slice A l.length c] w fun e w' => e = .returned (.int .u64 (num l)) ∧ w = w' := by
  go_enter Try.func101, Try.ntmps101
  go_wp2
  go_loop [3, 4] (fun v i => ∃ k : Nat, k ≤ l.length ∧ i = .int .i64 ((k : Int) - 1) ∧ v = .int .u64 (num (l.drop k))) (fun _ i => (intOf i + 1).toNat)
  case atStart => exact ⟨l.length, Nat.le_refl _, rfl, by simp [num]⟩
  case round =>
    obtain ⟨k, hk, rfl, rfl⟩ := hrel
    rcases k with _ | k
    · go_wp2
      go_ret
      exact ⟨rfl, rfl⟩
    · obtain ⟨a, rfl, hb, hc⟩ := row_at h (k := k) (by omega)
      have hn := num_drop l k (by omega)
      have hlt := num_lt (l.drop k)
      have hx := l[k].toNat_lt
      have hp : 256 ^ (l.drop k).length ≤ 256 ^ 8 := Nat.pow_le_pow_right (by omega) (by rw [List.length_drop]; omega)
      have hq : 256 * num (l.drop (k + 1)) + l[k].toNat < 18446744073709551616 := by rw [← hn]; exact Nat.lt_of_lt_of_le hlt hp
      have HN := Lib.hid hn; clear hn hlt hp
      go_wp2
      refine ⟨⟨k, by omega, rfl, vi ?_⟩, by simp [intOf]⟩
      rw [HN.out]
      omega

theorem littles_any (v n : Nat) (w : World) (hv : v < 18446744073709551616) (hn : n ≤ 100) :
    Calls Try.prog 93 #[.int .u64 v, .int .i64 n] w fun e w' => ∃ u, e = .returned u ∧ Own w.heap.size w' u (lit v n) ∧ Below w.heap.size w w' := by
  obtain ⟨i0, hi, hz0, hz1, hz2⟩ := info_parts info5
  go_enter Try.func93, Try.ntmps93
  go_wp2
  go_loopw [0, 5, 6] (fun x u i wr => ∃ k : Nat, k ≤ n ∧ i = .int .i64 k ∧ x = .int .u64 ((v / 256 ^ k : Nat) : Int) ∧ Own w.heap.size wr u (lit v k) ∧ Below w.heap.size w wr) (fun _ _ i _ => n - (intOf i).toNat)
  case atStart => exact ⟨0, Nat.zero_le _, rfl, by simp, Own.nil, Below.refl _ _⟩
  case round =>
    obtain ⟨k, hk, rfl, rfl, hown, hbel⟩ := hrel
    have hq : v / 256 ^ k < 18446744073709551616 := Nat.lt_of_le_of_lt (Nat.div_le_self _ _) hv
    by_cases hlt : k < n
    · generalize hy : v / 256 ^ k = y at *
      have HY := Lib.hid hy; clear hy
      go_wp2_with (at_builtin; go_loud (refine wpList_append_rd _ rfl (.tmp 12) (.tmp 16) _ rfl w.heap.size 5 i0 _ 1 Try.underlying42 hi hz0 hz1 hz2 rfl _ (lit v k).length (bvs (lit v k)) rfl (World.ownsRow.alloc hown _) _ _ 1 1 [.int .u8 ((y : Int) % 256)] rfl rfl (Rd.new wr _ _) (fun hh => by cases hh) one_int (by unfold maxLen; rw [lit_len]; omega) (by rw [lit_len]; omega) (by have := hbel.size; simp; omega) ?_); intro v' w1 hown1 hg1)
      have hbel1 : Below w.heap.size w w1 := below_grown (hbel.alloc hbel.size _) (World.ownsRow.alloc hown _) hg1 (by have := hbel.size; simp; omega)
      go_roundw
      case rel => exact ⟨k + 1, by omega, by go_num, vi (by rw [← HY.out, Nat.pow_succ, ← Nat.div_div_eq_div_mul]; omega), own_of hown1 (by simp [lit_len]) (by rw [lit_snoc, HY.out, bvs_app, bv_mod]; rfl), hbel1⟩
      case measure => simp [intOf]; omega
    · obtain rfl : k = n := by omega
      go_wp2
      go_ret
      exact ⟨_, rfl, hown, hbel⟩

theorem own_slice {base n : Nat} {w : World} {v : Value} {l : List UInt8} (h : Own base w v l) (hn : n = l.length) : ∃ A c, v = .slice A n c ∧ n ≤ c ∧ Row w.heap.size w A l ∧ (A = none → c = 0) := by
  subst hn
  obtain ⟨A, c, h1, h2, _, h3, h4⟩ := h.form
  exact ⟨A, c, h1, h2, h3, h4⟩

theorem lit4 (c : Nat) : lit c 4 = [UInt8.ofNat (c % 256), UInt8.ofNat (c / 256 % 256), UInt8.ofNat (c / 65536 % 256), UInt8.ofNat (c / 16777216 % 256)] := by
  simp [lit, Nat.div_div_eq_div_mul]

theorem seal8_any (A : Option Addr) (n c : Nat) (l : List UInt8) (w : World) (hn : n = l.length) (h : Row w.heap.size w A l) (hA : A = none → c = 0) (hb : n ≤ 100000) :
    Calls Try.prog 92 #[.slice A n c] w fun e w' => ∃ v, e = .returned v ∧ Own w.heap.size w' v (l ++ [UInt8.ofNat (sum8 l)]) ∧ Below w.heap.size w w' := by
  subst hn
  go_enter Try.func92, Try.ntmps92
  go_wp2_with fail
  refine (sum8_any A c l _ w h (by unfold maxLen; omega)).mono ?_
  rintro e w' ⟨rfl, rfl⟩
  go_wp2_with fail
  refine (join_any A (some ⟨w.heap.size, 0, none⟩) l.length 1 c 1 l [UInt8.ofNat (sum8 l)] _ rfl rfl ((Rd.alloc h (Nat.le_refl _) _).more (by simp)) (row_new w _ _ _ (by simp only [bvs, List.map_cons, List.map_nil, ← bv_nat (sum8_lt l)]) (by simp)) hA (fun hh => by cases hh) (by omega)).mono ?_
  rintro e w' ⟨v, rfl, ho, hb⟩
  go_wp2_with fail
  go_ret
  exact ⟨v, rfl, ho.base_ (by simp), ((Below.refl _ _).alloc (Nat.le_refl _) _).trans (hb.mono (by simp))⟩
def open8 (l : List UInt8) : Nat × List UInt8 := if l.length = 0 then (4, []) else if sum8 l ≠ 0 then (5, []) else (0, l.take (l.length - 1))
theorem open8_any (A : Option Addr) (n c : Nat) (l : List UInt8) (w : World) (hn : n = l.length) (h : Row w.heap.size w A l) (hc : n ≤ c) (hb : n ≤ 100000) :
    Calls Try.prog 97 #[.slice A n c] w fun e w' => ∃ v, e = .returned (.tuple #[v, .int .i64 ((open8 l).1 : Int)]) ∧ Own w.heap.size w' v (open8 l).2 ∧ Below w.heap.size w w' := by
  subst hn
  by_cases h0 : l.length = 0
  · have hs : open8 l = (4, []) := if_pos h0
    rw [h0, hs]
    go_enter Try.func97, Try.ntmps97
    go_wp2
    go_ret2
    exact ⟨_, rfl, Own.nil, Below.refl _ _⟩
  · obtain ⟨m, hm⟩ : ∃ m, l.length = m + 1 := ⟨l.length - 1, by omega⟩
    have hm2 : m + 1 ≤ 100000 := by omega
    have hc2 : m + 1 ≤ c := by omega
    obtain ⟨a, rfl, -, -⟩ := row_at h (k := 0) (by omega)
    have hcall := sum8_any (some a) c l _ w h (by unfold maxLen; omega)
    have ho : open8 l = if sum8 l ≠ 0 then (5, []) else (0, l.take m) := by unfold open8; rw [if_neg h0, hm, Nat.add_sub_cancel]
    have hlen : m = (l.take m).length := by simp; omega
    have hrt := row_take h m
    rw [hm] at hcall ⊢
    rw [ho]
    by_cases hs0 : sum8 l = 0
    · have hb0 : ((sum8 l : Int) != 0) = false := by rw [hs0]; rfl
      rw [if_neg (by simpa using hs0)]
      have HC := Lib.hid hcall; have HL := Lib.hid hlen; clear hcall hm ho hs0 hlen
      go_enter Try.func97, Try.ntmps97
      go_wp2_with fail
      refine HC.out.mono ?_
      rintro e w' ⟨rfl, rfl⟩
      go_wp2_with fail
      refine (clone_any (some a) m c (l.take m) w HL.out hrt (by omega) (by omega)).mono ?_
      rintro e w' ⟨v, rfl, ho, hb⟩
      go_wp2_with fail
      go_ret2
      exact ⟨v, rfl, ho, hb⟩
    · have hb0 : ((sum8 l : Int) != 0) = true := by simp; omega
      rw [if_pos hs0]
      have HC := Lib.hid hcall; clear hcall hm ho hs0 hlen
      go_enter Try.func97, Try.ntmps97
      go_wp2_with fail
      refine HC.out.mono ?_
      rintro e w' ⟨rfl, rfl⟩
      go_wp2_with fail
      go_ret2
      exact ⟨_, rfl, Own.nil, Below.refl _ _⟩
def opencrc8 (l : List UInt8) : Nat × List UInt8 :=
  if l.length = 0 then (4, []) else if UInt8.ofNat (crc8 (l.take (l.length - 1))) ≠ l.getD (l.length - 1) 0 then (5, []) else (0, l.take (l.length - 1))
def opencrc32 (l : List UInt8) : Nat × List UInt8 :=
  if l.length < 4 then (4, []) else if crc32 (l.take (l.length - 4)) ≠ num (l.drop (l.length - 4)) then (5, []) else (0, l.take (l.length - 4))
theorem four (l : List UInt8) (h : l.length = 4) : ∃ x0 x1 x2 x3, l = [x0, x1, x2, x3] := by
  match l, h with
  | [x0, x1, x2, x3], _ => exact ⟨x0, x1, x2, x3, rfl⟩
end Go.Proofs.Ytcnkiecdagjgmaa.Wc
