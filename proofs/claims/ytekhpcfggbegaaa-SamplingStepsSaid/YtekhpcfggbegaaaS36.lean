/- Walks: copies of bytes, sealed strings. -/
import Derived.Test.YtekhpcfggbegaaaS35
namespace Go.Proofs.Ytekhpcfggbegaaa.Wb
open Go.RowKit Go.Proofs.Ytekhpcfggbegaaa.Mem Go.Proofs.Ytekhpcfggbegaaa.Pl Go.Proofs.Ytekhpcfggbegaaa.Wa
set_option maxRecDepth 100000
set_option maxHeartbeats 400000

theorem info5 : (Try.prog.info? 5).map (fun i => (i.zero, i.size, i.bytes)) = some (some (.int .u8 0), 1, 1) := by kernel_rfl

theorem sum8_at (A : Option Addr) (n c : Nat) (l : List UInt8) (B : Nat) (w : World) (hn : n = l.length) (h : Row B w A l) (hl : n ≤ maxLen) :
    Calls Try.prog 102 #[.slice A n c] w fun e w' => e = .returned (.int .u8 (sum8 l)) ∧ w = w' := by
  subst hn
  exact sum8_any A c l B w h hl
theorem rsum8_at (A : Option Addr) (n c : Nat) (l : List UInt8) (B : Nat) (w : World) (hn : n = l.length) (h : Row B w A l) (hl : n ≤ maxLen) :
    Calls Try.prog 71 #[.slice A n c] w fun e w' => e = .returned (.int .u8 (sum8 l)) ∧ w = w' := by
  subst hn
  exact rsum8_any A c l B w h hl
theorem clone_any (A : Option Addr) (m c : Nat) (l : List UInt8) (w : World) (hm : m = l.length) (h : Row w.heap.size w A l) (hl : m ≤ 4611686018427387904) (hb : m ≤ 140737488355328) :
    Calls Try.prog 57 #[.slice A m c] w fun e w' => ∃ v, e = .returned v ∧ Own w.heap.size w' v l ∧ Below w.heap.size w w' := by
  subst hm
  obtain ⟨i0, hi, hz0, hz1, hz2⟩ := info_parts info5
  have hnil := fun w => Lib.run_eql_slice_nil (P := Try.prog) w 33 5 A l.length c 0 0 Try.underlying33
  rcases A with _ | a
  · go_enter Try.func57, Try.ntmps57
    go_wp2
    go_ret
    have hl0 := h.empty
    subst hl0
    exact ⟨_, rfl, Own.nil, Below.refl _ _⟩
  · go_enter Try.func57, Try.ntmps57
    go_wp2_with (at_builtin; (refine wpList_append_rd _ rfl (.tmp 5) (.tmp 6) _ rfl w.heap.size 5 i0 _ 1 Try.underlying33 hi hz0 hz1 hz2 rfl _ 0 [] rfl (World.ownsRow_lit w #[] 0 (Nat.le_refl _) (by unfold maxLen; omega) (by simp)) w.heap.size (some a) l.length c (bvs l) rfl (len_bvs l) (Rd.alloc h (Nat.le_refl _) _) (fun hh => by cases hh) (bvs_one l) (by unfold maxLen; omega) (by omega) (by simp) ?_); intro v' w1 hown1 hg1)
    go_ret
    exact ⟨_, rfl, own_of hown1 (by simp) (by simp), ((Below.refl _ _).alloc (Nat.le_refl _) _).grown hg1 (by simp) (fun k hk => by cases hk; exact Nat.le_refl _)⟩

theorem same_any (A A' : Option Addr) (n n' c c' : Nat) (l l' : List UInt8) (B : Nat) (w : World) (hn : n = l.length) (hn' : n' = l'.length) (h : Row B w A l) (h' : Row B w A' l') (hl : n ≤ maxLen) (hl' : n' ≤ maxLen) :
    Calls Try.prog 35 #[.slice A n c, .slice A' n' c'] w fun e w' => e = .returned (.bool (decide (l = l'))) ∧ ∃ k, w' = w.drewN k := by
  unfold maxLen at hl hl'
  subst hn hn'
  by_cases he : l.length = l'.length
  · have he' : ((l.length : Int) != (l'.length : Int)) = false := by simp [he]
    go_enter Try.func35, Try.ntmps35
    go_wp2
    go_loopw [5] (fun i wr => ∃ k : Nat, k ≤ l.length ∧ i = .int .i64 k ∧ (∃ q, wr = w.drewN q) ∧ l.take k = l'.take k) (fun i _ => l.length - (intOf i).toNat)
    case atStart => exact ⟨0, Nat.zero_le _, rfl, ⟨0, rfl⟩, rfl⟩
    case round =>
      obtain ⟨k, hk, rfl, ⟨q, rfl⟩, ht⟩ := hrel
      have HT := Lib.hid ht; clear ht
      have HE := Lib.hid he; clear he
      by_cases hlt : k < l.length
      · have hlt' : k < l'.length := HE.out ▸ hlt
        obtain ⟨a, rfl, hb, hc⟩ := row_at h hlt
        obtain ⟨a', rfl, hb', hc'⟩ := row_at h' hlt'
        go_wp2
        go_quiet (fail)
        go_wp2
        · have hne : (l[k].toNat : Int) ≠ (l'[k].toNat : Int) := by simpa using ‹((l[k].toNat : Int) != (l'[k].toNat : Int)) = true›
          go_ret
          refine ⟨ret_bool ?_, _, World.drewN_drewN _ _ _⟩
          simp
          rintro rfl
          exact hne rfl
        · have heq : (l[k].toNat : Int) = (l'[k].toNat : Int) := by simpa using ‹((l[k].toNat : Int) != (l'[k].toNat : Int)) = false›
          refine ⟨⟨k + 1, by omega, by go_num, ⟨_, rfl⟩, ?_⟩, by simp [intOf]; omega⟩
          rw [take_snoc hlt, take_snoc hlt', HT.out, UInt8.toNat_inj.1 (by omega : l[k].toNat = l'[k].toNat)]
      · go_wp2
        go_ret
        refine ⟨ret_bool ?_, _, rfl⟩
        have := HT.out
        rw [List.take_of_length_le (by omega), List.take_of_length_le (by have := HE.out; omega)] at this
        simp [this]
  · have he' : ((l.length : Int) != (l'.length : Int)) = true := by simp; omega
    go_enter Try.func35, Try.ntmps35
    go_wp2
    go_ret
    exact ⟨ret_bool (by simp; rintro rfl; exact he rfl), 0, rfl⟩

theorem copy_any (A : Option Addr) (n c : Nat) (l : List UInt8) (w : World) (hn : n = l.length) (h : Row w.heap.size w A l) (hb : n ≤ 140737488355328) :
    Calls Try.prog 56 #[.slice A n c] w fun e w' => ∃ v, e = .returned v ∧ Own w.heap.size w' v l ∧ Below w.heap.size w w' := by
  subst hn
  obtain ⟨i0, hi, hz0, hz1, hz2⟩ := info_parts info5
  go_enter Try.func56, Try.ntmps56
  go_wp2
  go_loopw [3, 4] (fun v i wr => ∃ k : Nat, k ≤ l.length ∧ i = .int .i64 k ∧ Own w.heap.size wr v (l.take k) ∧ Below w.heap.size w wr) (fun _ i _ => l.length - (intOf i).toNat)
  case atStart => exact ⟨0, Nat.zero_le _, rfl, ⟨by simp [bvs], .inl ⟨rfl, by simp⟩⟩, Below.refl _ _⟩
  case round =>
    obtain ⟨k, hk, rfl, hown, hbel⟩ := hrel
    by_cases hlt : k < l.length
    · obtain ⟨a, rfl, hb, hc⟩ := row_at (h.below hbel) hlt
      go_wp2_with (at_builtin; (refine wpList_append_rd _ rfl (.tmp 11) (.tmp 16) _ rfl w.heap.size 5 i0 _ 1 Try.underlying33 hi hz0 hz1 hz2 rfl _ (l.take k).length (bvs (l.take k)) rfl (World.ownsRow.alloc hown _) _ _ 1 1 (bvs [l[k]]) rfl rfl (Rd.new wr _ _) (fun hh => by cases hh) (bvs_one _) (by unfold maxLen; simp; omega) (by simp; omega) (by have := hbel.size; simp; omega) ?_); intro v' w1 hown1 hg1)
      have hbel1 : Below w.heap.size w w1 := below_grown (hbel.alloc hbel.size _) (World.ownsRow.alloc hown _) hg1 (by have := hbel.size; simp; omega)
      go_roundw
      case rel => exact ⟨k + 1, by omega, by go_num, by rw [take_snoc hlt]; exact own_app hown1, hbel1⟩
      case measure => simp [intOf]; omega
    · go_wp2
      go_ret
      exact ⟨_, rfl, by rw [List.take_of_length_le (by omega)] at hown; exact hown, hbel⟩

theorem join_any (A A' : Option Addr) (n n' c c' : Nat) (l l' : List UInt8) (w : World) (hn : n = l.length) (hn' : n' = l'.length) (h : Row w.heap.size w A l) (h' : Row w.heap.size w A' l')
   (hA : A = none → c = 0) (hA' : A' = none → c' = 0) (hb : n + n' ≤ 140737488355328) :
    Calls Try.prog 101 #[.slice A n c, .slice A' n' c'] w fun e w' => ∃ v, e = .returned v ∧ Own w.heap.size w' v (l ++ l') ∧ Below w.heap.size w w' := by
  subst hn hn'
  obtain ⟨i0, hi, hz0, hz1, hz2⟩ := info_parts info5
  go_enter Try.func101, Try.ntmps101
  go_wp2_with (first
    | (at_make; (refine wpList_make_own _ rfl _ _ 33 rfl w.heap.size 5 i0 _ 1 Try.underlying33 hi hz0 hz1 _ _ _ (l.length + l'.length) rfl rfl (by omega) (by rw [hz2]; omega) (by unfold maxLen; omega) (Nat.le_refl _) ?_); intro w1 hown1 hg1; have hbel1 : Below w.heap.size w w1 := (Below.refl _ _).grown hg1 (Nat.le_refl _) (fun k hk => by cases hk))
    | (at_builtin; (refine wpList_append_rd _ rfl (.tmp 12) (.tmp 13) _ rfl w.heap.size 5 i0 _ 1 Try.underlying33 hi hz0 hz1 hz2 rfl _ 0 [] rfl hown1 _ A l.length c (bvs l) rfl (len_bvs l) (Rd.below h hbel1) hA (bvs_one _) (by unfold maxLen; omega) (by omega) hbel1.size ?_); intro v2 w2 hown2 hg2; have hbel2 : Below w.heap.size w w2 := below_grown hbel1 hown1 hg2 hbel1.size)
    | (at_builtin; (refine wpList_append_rd _ rfl (.tmp 15) (.tmp 16) _ rfl w.heap.size 5 i0 _ 1 Try.underlying33 hi hz0 hz1 hz2 rfl _ (0 + l.length) ([] ++ bvs l) rfl hown2 _ A' l'.length c' (bvs l') rfl (len_bvs l') (Rd.below h' hbel2) hA' (bvs_one _) (by unfold maxLen; omega) (by omega) hbel2.size ?_); intro v3 w3 hown3 hg3; have hbel3 : Below w.heap.size w w3 := below_grown hbel2 hown2 hg3 hbel2.size))
  go_ret
  exact ⟨_, rfl, own_of hown3 (by simp) (by simp [bvs_app]), hbel3⟩
theorem or_step (a b : Nat) (i m : Nat) (hm : m = 2 ^ i) (ha : a < m) (hb : b < 256) (hs : m * 256 ≤ 4294967296) : bits .or .u32 (a : Int) ((b : Int) * (m : Int)) = ((a + m * b : Nat) : Int) := by
  have h1 : m * b < m * 256 := Nat.mul_lt_mul_of_pos_left hb (by omega)
  have e := u32_or_nat a (b * m) (by omega) (by rw [Nat.mul_comm]; omega)
  rw [Int.natCast_mul] at e
  rw [e, Nat.or_comm, Nat.mul_comm b m, Nat.add_comm, hm]
  congr 1
  exact (Nat.two_pow_add_eq_or_of_lt (hm ▸ ha) b).symm
theorem or_four (x0 x1 x2 x3 : Nat) (h0 : x0 < 256) (h1 : x1 < 256) (h2 : x2 < 256) (h3 : x3 < 256) :
    bits .or .u32 (bits .or .u32 (bits .or .u32 (x0 : Int) ((x1 : Int) * 256)) ((x2 : Int) * 65536)) ((x3 : Int) * 16777216) = ((x0 + 256 * (x1 + 256 * (x2 + 256 * x3)) : Nat) : Int) := by
  have e1 := or_step x0 x1 8 256 rfl h0 h1 (by omega)
  have e2 := or_step (x0 + 256 * x1) x2 16 65536 rfl (by omega) h2 (by omega)
  have e3 := or_step (x0 + 256 * x1 + 65536 * x2) x3 24 16777216 rfl (by omega) h3 (by omega)
  simp only [Int.cast_ofNat_Int] at e1 e2 e3
  rw [e1, e2, e3]
  omega
end Go.Proofs.Ytekhpcfggbegaaa.Wb
