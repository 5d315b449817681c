/- Walks: the reference's decoding of fields: six-bit texts. -/
import Derived.Test.YtkhdldemhaifpaaF2d
import Derived.Test.YtkhdldemhaifpaaFg
namespace Go.Proofs.Ytkhdldemhaifpaa.F2f
open Go.RowKit Go.Proofs.Ytkhdldemhaifpaa.Mem Go.Proofs.Ytkhdldemhaifpaa.F2p Go.Proofs.Ytkhdldemhaifpaa.Fa
set_option maxRecDepth 100000
set_option maxHeartbeats 3000000

theorem num_bit (l : List UInt8) (i : Nat) (h : i / 8 < l.length) : num l / 2 ^ i % 2 = l[i / 8].toNat / 2 ^ (i % 8) % 2 := by
  induction l generalizing i with
  | nil => simp at h
  | cons x l ih =>
    by_cases h8 : i < 8
    · have e1 : i / 8 = 0 := by omega
      have e2 : i % 8 = i := by omega
      simp only [e1, e2, num, List.getElem_cons_zero]
      have h256 : (256 : Nat) = 2 ^ i * 2 ^ (8 - i) := by rw [← Nat.pow_add, show i + (8 - i) = 8 by omega]
      have h2 : 2 ^ (8 - i) = 2 * 2 ^ (7 - i) := by rw [show 8 - i = 7 - i + 1 by omega, Nat.pow_succ, Nat.mul_comm]
      rw [h256, Nat.mul_assoc, Nat.add_mul_div_left _ _ (Nat.two_pow_pos i), h2, Nat.mul_assoc, Nat.add_mul_mod_self_left]
    · obtain ⟨b, rfl⟩ : ∃ b, i = b + 8 := ⟨i - 8, by omega⟩
      have e1 : (b + 8) / 8 = b / 8 + 1 := by omega
      have e2 : (b + 8) % 8 = b % 8 := by omega
      have hx := x.toNat_lt
      have := ih b (by simp only [e1, List.length_cons] at h; omega)
      simp only [e1, e2, num, List.getElem_cons_succ]
      rw [← this, show 2 ^ (b + 8) = 256 * 2 ^ b by rw [Nat.pow_add, Nat.mul_comm], ← Nat.div_div_eq_div_mul, show (x.toNat + 256 * num l) / 256 = num l by omega]
/-- The characters of the first i bits. -/
def part (N i : Nat) : List UInt8 := chars N (i / 6) ++ (if i % 6 = 0 then [] else [UInt8.ofNat (32 + N / 64 ^ (i / 6) % 2 ^ (i % 6))])
theorem part_zero {N i : Nat} (h : i % 6 = 0) : part N i = chars N (i / 6) := by unfold part; rw [if_pos h, List.append_nil]
theorem part_open {N i : Nat} (h : i % 6 ≠ 0) : part N i = chars N (i / 6) ++ [UInt8.ofNat (32 + N / 64 ^ (i / 6) % 2 ^ (i % 6))] := by unfold part; rw [if_neg h]
theorem part_succ (N i : Nat) : part N (i + 1) = chars N (i / 6) ++ [UInt8.ofNat (32 + N / 64 ^ (i / 6) % 2 ^ (i % 6 + 1))] := by
  by_cases h : i % 6 = 5
  · rw [part_zero (by omega), show (i + 1) / 6 = i / 6 + 1 by omega, chars_snoc, h]
    unfold chr6
    rw [Nat.add_comm 32]
  · rw [part_open (by omega), show (i + 1) / 6 = i / 6 by omega, show (i + 1) % 6 = i % 6 + 1 by omega]
theorem part_len (N i : Nat) : (part N i).length ≤ i / 6 + 1 := by
  unfold part
  rw [List.length_append, chars_len]
  split <;> simp
/-- The bit's own place. -/
theorem six_bit (N i : Nat) : N / 64 ^ (i / 6) % 2 ^ (i % 6 + 1) = N / 64 ^ (i / 6) % 2 ^ (i % 6) + 2 ^ (i % 6) * (N / 2 ^ i % 2) := by
  rw [bit_succ, pow64, Nat.div_div_eq_div_mul, ← Nat.pow_add, show 6 * (i / 6) + i % 6 = i by omega]
theorem six_small (N i : Nat) : N / 64 ^ (i / 6) % 2 ^ (i % 6) < 2 ^ (i % 6) := Nat.mod_lt _ (Nat.two_pow_pos _)
theorem set_last (a : List UInt8) (y z : UInt8) : (a ++ [y]).set a.length z = a ++ [z] := by
  rw [List.set_append_right _ _ (Nat.le_refl _), Nat.sub_self]; rfl

theorem last_facts {base : Nat} {w : World} {v : Value} {a : List UInt8} {y : UInt8} (h : Own base w v (a ++ [y])) (q : Nat) (hq : q = a.length) : ∃ g c, v = .slice (some ⟨g, 0, none⟩) (q + 1) c ∧ base ≤ g ∧ w.cell? ⟨g, q, none⟩ = some (.int .u8 (y.toNat : Int)) ∧ w.frozen? ⟨g, q, none⟩ = false ∧
    ∀ z, Own base (w.setCell ⟨g, q, none⟩ (bv z)) (.slice (some ⟨g, 0, none⟩) (q + 1) c) (a ++ [z]) ∧ w.grownBy (w.setCell ⟨g, q, none⟩ (bv z)) (some g) := by
  obtain ⟨A, n, c, rfl, hs⟩ := Sl.of_own h
  have hn : n = q + 1 := by rw [hs.len, List.length_append, hq]; rfl
  subst hn
  obtain ⟨g, rfl, hg, -⟩ := own_some h (by simp)
  have hl : q + 1 = (a ++ [y]).length := by rw [List.length_append, hq]; rfl
  have hc := own_cell h hl (i := q) (by rw [← hl]; omega)
  have e : (a ++ [y])[q]'(by rw [← hl]; omega) = y := by subst hq; simp
  rw [e] at hc
  refine ⟨g, c, rfl, hg, hc, own_frozen h hl q, fun z => ?_⟩
  have h2 := own_store h hl q z
  rw [hq, set_last] at h2
  rw [hq]
  exact h2
theorem bit_int (y e : Nat) : ((y : Int) / 2 ^ e).tmod 2 = ((y / 2 ^ e % 2 : Nat) : Int) := by
  have h1 : (y : Int) / 2 ^ e = ((y / 2 ^ e : Nat) : Int) := by push_cast; rfl
  rw [h1, Int.tmod_eq_emod_of_nonneg (Int.natCast_nonneg _)]
  generalize y / 2 ^ e = z
  omega
theorem high_bit {N c j : Nat} (hc : 6 * c ≤ j) (h : N / 2 ^ j % 2 = 1) : N / 64 ^ c ≠ 0 := fun h0 => by
  have h1 : N < 64 ^ c := by
    rcases Nat.div_eq_zero_iff.1 h0 with h | h
    · exact absurd h (by have := Nat.pow_pos (n := c) (show 0 < 64 by omega); omega)
    · exact h
  rw [pow64] at h1
  have h2 : 2 ^ (6 * c) ≤ 2 ^ j := Nat.pow_le_pow_right (by omega) hc
  rw [Nat.div_eq_of_lt (by omega)] at h
  simp at h
theorem zero_next {N c j : Nat} (hc : 6 * c ≤ j) (h0 : N / 64 ^ c % 2 ^ (j - 6 * c) = 0) (h : N / 2 ^ j % 2 = 0) : N / 64 ^ c % 2 ^ (j + 1 - 6 * c) = 0 := by
  rw [show j + 1 - 6 * c = (j - 6 * c) + 1 by omega, bit_succ, h0, pow64, Nat.div_div_eq_div_mul, ← Nat.pow_add, show 6 * c + (j - 6 * c) = j by omega, h, Nat.mul_zero]
theorem zero_all {N c n : Nat} (hN : N < 256 ^ n) (h0 : N / 64 ^ c % 2 ^ (8 * n - 6 * c) = 0) (hc : 6 * c ≤ 8 * n) : N / 64 ^ c = 0 := by
  have h1 : N / 64 ^ c < 2 ^ (8 * n - 6 * c) := by
    refine Nat.div_lt_of_lt_mul ?_
    rw [pow64, ← Nat.pow_add, show 6 * c + (8 * n - 6 * c) = 8 * n by omega, Nat.pow_mul]
    exact hN
  rwa [Nat.mod_eq_of_lt h1] at h0
theorem dec_six (A : Option Addr) (n c : Nat) (l : List UInt8) (w : World) (h : Sl w A n c l) (h0 : 0 < n) (_he : (l[0]?.getD 0).toNat ≠ 193) (hs : 1 + (l[0]?.getD 0).toNat % 64 ≤ n)
    (hk : (l[0]?.getD 0).toNat / 64 = 2) (hn : n ≤ 100000) (D : De) (hD : D = match und 2 ((l.drop 1).take ((l[0]?.getD 0).toNat % 64)) with
      | some v => ⟨2, v, 1 + (l[0]?.getD 0).toNat % 64, false, 0⟩
      | none => ⟨0, [], 0, false, 6⟩) :
    Calls Try.prog 23 #[.slice A n c] w fun e w' => e = out D.k D.v D.n D.z D.c ∧ Below w.heap.size w w' := by
  obtain ⟨a, rfl, hab, hc0⟩ := head_cell h h0
  obtain ⟨i0, hi, hz0, hz1, hz2⟩ := info_parts info5
  have hx := (l[0]?.getD 0).toNat_lt
  have hn0 : ((n : Int) == 0) = false := by rw [beq_eq_false_iff_ne]; omega
  have hn1 : ((((l[0]?.getD 0).toNat : Nat) : Int) == 193) = false := by rw [beq_eq_false_iff_ne]; omega
  have t1 : ((((l[0]?.getD 0).toNat : Nat) : Int) / 64 == 1) = false := by rw [beq_eq_false_iff_ne]; omega
  have t2 : ((((l[0]?.getD 0).toNat : Nat) : Int) / 64 == 2) = true := by rw [beq_iff_eq]; omega
  generalize (l[0]?.getD 0).toNat = x at *
  have hl : ((l.drop 1).take (x % 64)).length = x % 64 := by rw [List.length_take, List.length_drop, ← h.len]; omega
  have hcell : ∀ (W : World) (j : Nat) (_ : j < x % 64) (hj2 : j < ((l.drop 1).take (x % 64)).length), (∀ p : Addr, p.block < w.heap.size → W.cell? p = w.cell? p) → W.cell? (a.add (1 + j)) = some (.int .u8 ((((l.drop 1).take (x % 64))[j]'hj2).toNat : Int)) := fun W j hj hj2 hkeep => by
    obtain ⟨a', ea, hab', hc⟩ := row_at h.row (k := 1 + j) (by rw [← h.len]; omega)
    injection ea with ea
    subst ea
    rw [hkeep _ (by rw [add_block]; exact hab'), hc]
    simp only [List.getElem_take, List.getElem_drop]
  generalize (l.drop 1).take (x % 64) = m at *
  have hu : und 2 m = if num m / 64 ^ (8 * (x % 64) / 6) = 0 then some (chars (num m) (8 * (x % 64) / 6)) else none := by rw [← hl]; rfl
  have hDy : num m / 64 ^ (8 * (x % 64) / 6) = 0 → D = ⟨2, chars (num m) (8 * (x % 64) / 6), 1 + x % 64, false, 0⟩ := fun hh => by rw [hD, hu, if_pos hh]
  have hDn : num m / 64 ^ (8 * (x % 64) / 6) ≠ 0 → D = ⟨0, [], 0, false, 6⟩ := fun hh => by rw [hD, hu, if_neg hh]
  have DY := Lib.hid hDy
  have DN := Lib.hid hDn
  have HC := Lib.hid hcell
  have HM := Lib.hid hl
  have HK := Lib.hid hk
  have HNL := Lib.hid (num_lt m)
  have HNB := Lib.hid (num_bit m)
  generalize num m = N at *
  clear hD hu hDy hDn hcell _he hk h hl
  go_enter Try.func23, Try.ntmps23
  go_wp2_with fail
  have hbx : Below w.heap.size w (w.alloc (.cells #[.int .i64 0, .string ⟨#[]⟩] 23)) := (Below.refl _ _).alloc (Nat.le_refl _) _
  have hsz : (w.alloc (.cells #[.int .i64 0, .string ⟨#[]⟩] 23)).heap.size = w.heap.size + 1 := by simp
  have hst : (w.alloc (.cells #[.int .i64 0, .string ⟨#[]⟩] 23)).heap[w.heap.size]? = some (.cells #[.int .i64 0, .string ⟨#[]⟩] 23 (0, 0)) := heap_alloc_new w _
  generalize w.alloc (.cells #[.int .i64 0, .string ⟨#[]⟩] 23) = w1 at *
  have HST := Lib.hid hst
  have HBX := Lib.hid hbx
  clear hst hbx
  go_loopw [8, 14] (fun v i wr => ∃ j : Nat, j ≤ 8 * (x % 64) ∧ i = .int .i64 j ∧ N / 64 ^ (8 * (x % 64) / 6) % 2 ^ (j - 6 * (8 * (x % 64) / 6)) = 0 ∧ Own (w.heap.size + 1) wr v (part N (min j (6 * (8 * (x % 64) / 6)))) ∧ Below (w.heap.size + 1) w1 wr) (fun _ i _ => 8 * (x % 64) - (intOf i).toNat)
  case atStart => exact ⟨0, Nat.zero_le _, rfl, by simp [Nat.mod_one], by simpa [part, chars] using Own.nil, Below.refl _ _⟩
  case round =>
    obtain ⟨j, hj, rfl, hzero, hown, hbel⟩ := hrel
    have hz := hbel.size
    rw [hsz] at hz
    have HZ := Lib.hid hzero
    have hbw := Lib.hid (HBX.out.trans (hbel.mono (Nat.le_succ _)))
    clear hzero
    by_cases hlt : j < 8 * (x % 64)
    · have hj8 : j / 8 < x % 64 := by omega
      have hjl : j / 8 < m.length := by rw [HM.out]; exact hj8
      have hcell := HC.out wr (j / 8) hj8 hjl (fun p hp => hbw.out.cell hp)
      have hbit := Lib.hid (HNB.out j hjl)
      have hx1 := (m[j / 8]).toNat_lt
      obtain ⟨y, hy⟩ : ∃ y, y = (m[j / 8]).toNat := ⟨_, rfl⟩
      rw [← hy] at hcell hbit hx1
      clear hy
      have hbI := bit_int y (j % 8)
      rw [← hbit.out] at hbI
      have hB : N / 2 ^ j % 2 = 0 ∨ N / 2 ^ j % 2 = 1 := by omega
      by_cases hge : 6 * (8 * (x % 64) / 6) ≤ j
      · have hmin : min j (6 * (8 * (x % 64) / 6)) = 6 * (8 * (x % 64) / 6) := by omega
        rw [hmin] at hown
        rcases hB with hB | hB
        · rw [hB] at hbI
          have hnx := Lib.hid (zero_next hge HZ.out hB)
          clear hB hmin
          go_wp2_with fail
          exact ⟨⟨j + 1, by omega, by go_num, hnx.out, by rw [show min (j + 1) (6 * (8 * (x % 64) / 6)) = 6 * (8 * (x % 64) / 6) by omega]; exact hown, hbel⟩, by simp [intOf]; omega⟩
        · rw [hB] at hbI
          have hDD := DN.out (high_bit hge hB)
          subst hDD
          obtain ⟨c0, c1, hf⟩ := pair_cells ((hbel.block w.heap.size (by omega)).trans HST.out)
          have f0 := hf 0
          have f1 := hf 1
          have d1 : (wr.setCell ⟨w.heap.size, 0, none⟩ (.int .i64 0)).cell? ⟨w.heap.size, 1, none⟩ = some (.string ⟨#[]⟩) := by
            rw [World.cell?_setCell_other _ _ _ _ (by simp)]; exact c1
          clear hf hown hB hmin
          go_wp2_with fail
          refine bodyPost_ret (v := .tuple #[.agg #[.int .i64 0, .string ⟨#[]⟩], .int .i64 0, .bool false, .int .i64 6]) ?_ rfl ⟨rfl, ?_⟩
          · have e0 := World.cell?_setCell_same (v := .int .i64 0) wr _ c0
            have e1 := World.cell?_setCell_same (v := .string ⟨#[]⟩) _ _ d1
            simp [results, Try.results23, go_sem, e0, e1]
          · exact (hbw.out.setCell (p := ⟨w.heap.size, 0, none⟩) (Nat.le_refl _) _).setCell (p := ⟨w.heap.size, 1, none⟩) (Nat.le_refl _) _
      · have hmin : min j (6 * (8 * (x % 64) / 6)) = j := by omega
        rw [hmin] at hown
        have hps := part_succ N j
        rw [six_bit] at hps
        have hsm := six_small N j
        have hP32 : 2 ^ (j % 6) ≤ 2 ^ 5 := Nat.pow_le_pow_right (by omega) (by omega)
        have hPI : (2 : Int) ^ (j % 6) = ((2 ^ (j % 6) : Nat) : Int) := by push_cast; rfl
        have hend : ∀ (v : Value) (wy : World), Own (w.heap.size + 1) wy v (part N (j + 1)) → Below (w.heap.size + 1) w1 wy → ∃ j_1 : Nat, j_1 ≤ 8 * (x % 64) ∧ Value.int .i64 ((j : Int) + 1) = .int .i64 j_1 ∧ N / 64 ^ (8 * (x % 64) / 6) % 2 ^ (j_1 - 6 * (8 * (x % 64) / 6)) = 0 ∧ Own (w.heap.size + 1) wy v (part N (min j_1 (6 * (8 * (x % 64) / 6)))) ∧ Below (w.heap.size + 1) w1 wy := fun v wy h1 h2 => by
          refine ⟨j + 1, by omega, by go_num, ?_, ?_, h2⟩
          · rw [show j + 1 - 6 * (8 * (x % 64) / 6) = 0 by omega]; simp [Nat.mod_one]
          · rw [show min (j + 1) (6 * (8 * (x % 64) / 6)) = j + 1 by omega]; exact h1
        have HEND := Lib.hid hend
        clear hend hmin
        have hcl := chars_len N (j / 6)
        by_cases hr : j % 6 = 0
        · have t6 : (((j : Int) % 6) == 0) = true := by rw [beq_iff_eq]; omega
          rw [part_zero hr] at hown
          have hP1 : 2 ^ (j % 6) = 1 := by rw [hr]
          generalize N / 64 ^ (j / 6) % 2 ^ (j % 6) = Y at *
          generalize N / 2 ^ j % 2 = B at *
          generalize 2 ^ (j % 6) = P at *
          have hY0 : Y = 0 := by omega
          subst hY0 hP1
          have HPS := Lib.hid hps
          have HCL := Lib.hid hcl
          have hlen : 0 < j / 6 + 1 := by omega
          have hq6 : j / 6 < 500000 := by omega
          clear hps hcl hr hsm hP32
          rcases hB with rfl | rfl
          · go_wp2_with (at_builtin; (refine wpList_append_rd _ rfl _ _ _ rfl (w.heap.size + 1) 5 i0 _ 1 Try.underlying31 hi hz0 hz1 hz2 rfl _ _ _ rfl (World.ownsRow.alloc hown _) _ _ 1 1 (bvs [32]) rfl rfl (Rd.new wr _ _) (fun hh => by cases hh) (bvs_one _) (by rw [HCL.out]; unfold maxLen; omega) (by rw [HCL.out]; omega) (by simp; omega) ?_); intro v1 w2 hown1 hg1; have own1 : Own (w.heap.size + 1) w2 v1 (chars N (j / 6) ++ [32]) := own_app hown1; have hb1 : Below (w.heap.size + 1) w1 w2 := below_grown (hbel.alloc (by omega) _) (World.ownsRow.alloc hown _) hg1 (by simp; omega); obtain ⟨g, cc, rfl, hg, hce, hfz, hst⟩ := last_facts own1 (j / 6) HCL.out.symm; have hgl := (World.ownsRow.lt own1 g rfl).2; have HSTO := Lib.hid hst; clear hst own1 hown1 hg1)
            have e := HSTO.out (UInt8.ofNat (32 + (0 + 1 * 0)))
            rw [← HPS.out, show bv (UInt8.ofNat (32 + (0 + 1 * 0))) = Value.int .u8 32 from rfl] at e
            have hz1' := hb1.size
            exact ⟨HEND.out _ _ e.1 (hb1.grown e.2 (by omega) (fun k hk => by cases hk; omega)), by simp [intOf]; omega⟩
          · go_wp2_with (at_builtin; (refine wpList_append_rd _ rfl _ _ _ rfl (w.heap.size + 1) 5 i0 _ 1 Try.underlying31 hi hz0 hz1 hz2 rfl _ _ _ rfl (World.ownsRow.alloc hown _) _ _ 1 1 (bvs [32]) rfl rfl (Rd.new wr _ _) (fun hh => by cases hh) (bvs_one _) (by rw [HCL.out]; unfold maxLen; omega) (by rw [HCL.out]; omega) (by simp; omega) ?_); intro v1 w2 hown1 hg1; have own1 : Own (w.heap.size + 1) w2 v1 (chars N (j / 6) ++ [32]) := own_app hown1; have hb1 : Below (w.heap.size + 1) w1 w2 := below_grown (hbel.alloc (by omega) _) (World.ownsRow.alloc hown _) hg1 (by simp; omega); obtain ⟨g, cc, rfl, hg, hce, hfz, hst⟩ := last_facts own1 (j / 6) HCL.out.symm; have hgl := (World.ownsRow.lt own1 g rfl).2; have HSTO := Lib.hid hst; clear hst own1 hown1 hg1)
            have e := HSTO.out (UInt8.ofNat (32 + (0 + 1 * 1)))
            rw [← HPS.out, show bv (UInt8.ofNat (32 + (0 + 1 * 1))) = Value.int .u8 33 from rfl] at e
            have hz1' := hb1.size
            exact ⟨HEND.out _ _ e.1 (hb1.grown e.2 (by omega) (fun k hk => by cases hk; omega)), by simp [intOf]; omega⟩
        · have t6 : (((j : Int) % 6) == 0) = false := by rw [beq_eq_false_iff_ne]; omega
          rw [part_open hr] at hown
          obtain ⟨g, cc, rfl, hg, hce, hfz, hst⟩ := last_facts hown (j / 6) hcl.symm
          have hYn : (UInt8.ofNat (32 + N / 64 ^ (j / 6) % 2 ^ (j % 6))).toNat = 32 + N / 64 ^ (j / 6) % 2 ^ (j % 6) := by rw [UInt8.toNat_ofNat']; omega
          rw [hYn] at hce
          generalize N / 64 ^ (j / 6) % 2 ^ (j % 6) = Y at *
          generalize N / 2 ^ j % 2 = B at *
          generalize 2 ^ (j % 6) = P at *
          have HPS := Lib.hid hps
          have HSTO := Lib.hid hst
          have hlen : 0 < j / 6 + 1 := by omega
          have hP : P ≤ 32 := hP32
          clear hps hst hown hYn hcl hP32
          rcases hB with rfl | rfl
          · go_wp2_with fail
            have e := HSTO.out (UInt8.ofNat (32 + (Y + P * 0)))
            rw [← HPS.out, show bv (UInt8.ofNat (32 + (Y + P * 0))) = Value.int .u8 (32 + (Y : Int)) from (by rw [← bv_nat (by omega)]; exact vi (by omega))] at e
            exact ⟨HEND.out _ _ e.1 (hbel.grown e.2 (by omega) (fun k hk => by cases hk; omega)), by simp [intOf]; omega⟩
          · go_wp2_with fail
            have e := HSTO.out (UInt8.ofNat (32 + (Y + P * 1)))
            rw [← HPS.out, show bv (UInt8.ofNat (32 + (Y + P * 1))) = Value.int .u8 (32 + (Y : Int) + (P : Int)) from (by rw [← bv_nat (by omega)]; exact vi (by omega))] at e
            exact ⟨HEND.out _ _ e.1 (hbel.grown e.2 (by omega) (fun k hk => by cases hk; omega)), by simp [intOf]; omega⟩
    · have hjx : j = 8 * (x % 64) := by omega
      have hmin : min j (6 * (8 * (x % 64) / 6)) = 6 * (8 * (x % 64) / 6) := by omega
      have hzr := HZ.out
      have hNl := HNL.out
      rw [HM.out] at hNl
      rw [hjx] at hzr
      have hDD := DY.out (zero_all hNl hzr (by omega))
      subst hDD
      rw [hmin, part_zero (by omega), show 6 * (8 * (x % 64) / 6) / 6 = 8 * (x % 64) / 6 by omega] at hown
      have hcv := own_string hown
      generalize hU : (⟨(chars N (8 * (x % 64) / 6)).toArray⟩ : ByteArray) = U at *
      obtain ⟨c0, c1, hf⟩ := pair_cells ((hbel.block w.heap.size (by omega)).trans HST.out)
      have f0 := hf 0
      have f1 := hf 1
      have d1 : (wr.setCell ⟨w.heap.size, 0, none⟩ (.int .i64 ((x : Int) / 64))).cell? ⟨w.heap.size, 1, none⟩ = some (.string ⟨#[]⟩) := by
        rw [World.cell?_setCell_other _ _ _ _ (by simp)]; exact c1
      have HU := Lib.hid hU
      clear hf hown hU hjx hmin hzr hNl
      go_wp2_with fail
      refine bodyPost_ret (v := .tuple #[.agg #[.int .i64 ((x : Int) / 64), .string U], .int .i64 (1 + (x : Int) % 64), .bool false, .int .i64 0]) ?_ rfl ⟨?_, ?_⟩
      · have e0 := World.cell?_setCell_same (v := .int .i64 ((x : Int) / 64)) wr _ c0
        have e1 := World.cell?_setCell_same (v := .string U) _ _ d1
        simp [results, Try.results23, go_sem, e0, e1]
      · have hq : (x : Int) / 64 = 2 := by have := HK.out; omega
        unfold out
        rw [hq]
        simp only [HU.out]
        try simp
      · exact (hbw.out.setCell (p := ⟨w.heap.size, 0, none⟩) (Nat.le_refl _) _).setCell (p := ⟨w.heap.size, 1, none⟩) (Nat.le_refl _) _
end Go.Proofs.Ytkhdldemhaifpaa.F2f
