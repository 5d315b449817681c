/- Walks: the program's changes of a state. Walks: the program's thresholds: what a reading reaches. -/
import Derived.Test.YtafoaonkjcfbaaaK44
import Derived.Test.YtafoaonkjcfbaaaK18
namespace Go.Proofs.Ytafoaonkjcfbaaa.Ya
open Go.RowKit Go.Proofs.Ytafoaonkjcfbaaa.Mem
set_option maxRecDepth 100000
set_option maxHeartbeats 1000000

theorem tb_xor (a b j : Nat) : (a ^^^ b) / 2 ^ j % 2 = if a.testBit j = b.testBit j then 0 else 1 := by
  have h := Nat.testBit_xor a b j
  rw [Nat.testBit_eq_decide_div_mod_eq] at h
  have h2 : (a ^^^ b) / 2 ^ j % 2 < 2 := Nat.mod_lt _ (by omega)
  generalize (a ^^^ b) / 2 ^ j % 2 = q at *
  by_cases he : a.testBit j = b.testBit j
  · rw [if_pos he]
    rw [he] at h
    have : ¬ q = 1 := fun e => by rw [decide_eq_true e] at h; cases hb : b.testBit j <;> rw [hb] at h <;> cases h
    omega
  · rw [if_neg he]
    rcases (show q = 0 ∨ q = 1 by omega) with rfl | rfl
    · exfalso; apply he
      cases ha : a.testBit j <;> cases hb : b.testBit j <;> rw [ha, hb] at h <;> first | rfl | cases h
    · rfl
theorem tb_one (b j : Nat) : b / 2 ^ j % 2 = if b.testBit j = true then 1 else 0 := by
  rw [Nat.testBit_eq_decide_div_mod_eq]
  have h2 : b / 2 ^ j % 2 < 2 := Nat.mod_lt _ (by omega)
  by_cases h : b / 2 ^ j % 2 = 1
  · rw [decide_eq_true h, h]; rfl
  · rw [decide_eq_false h]; simp; omega
theorem and_one8 (x : Nat) (h : x < 256) : bits .and .u8 (x : Int) 1 = ((x % 2 : Nat) : Int) := by
  have := and_u8 x 1 h (by omega)
  rw [Nat.and_one_is_mod] at this
  exact this
theorem shr_n (x i : Nat) : (x : Int) / 2 ^ i = ((x / 2 ^ i : Nat) : Int) := by
  rw [Int.natCast_ediv, Int.natCast_pow]; rfl
theorem changes_q (a b : Nat) (ha : a < 256) (hb : b < 256) (w : World) :
    Calls Try.prog 86 #[.int .u8 (a : Int), .int .u8 (b : Int)] w fun e w' => ∃ v, e = .returned v ∧ KOwn w.heap.size w' v (chs a b 6) ∧ Below w.heap.size w w' := by
  have hx := xor_u8 a b ha hb
  have hxl : a ^^^ b < 256 := Nat.xor_lt_two_pow (n := 8) (by omega) (by omega)
  have h1 := fun j => tb_xor a b j
  have h2 := fun j => tb_one b j
  generalize a ^^^ b = X at *
  have hsh : ∀ j, X / 2 ^ j < 256 := fun j => Nat.lt_of_le_of_lt (Nat.div_le_self _ _) hxl
  have hsb : ∀ j, b / 2 ^ j < 256 := fun j => Nat.lt_of_le_of_lt (Nat.div_le_self _ _) hb
  have H1 := Lib.hid h1; have H2 := Lib.hid h2; have HSX := Lib.hid hsh; have HSB := Lib.hid hsb
  clear h1 h2 hsh hsb
  have hb0 : Below w.heap.size w w := Below.refl _ _
  go_enter Try.func86, Try.ntmps86
  go_wp2_with fail
  go_loopw [5, 6] (fun v i wr => ∃ j : Nat, j ≤ 6 ∧ i = .int .i64 (j : Int) ∧ KOwn w.heap.size wr v (chs a b j) ∧ Below w.heap.size w wr) (fun _ i _ => 6 - (intOf i).toNat)
  case atStart => exact ⟨0, by omega, rfl, KOwn.nil, hb0⟩
  case round =>
    clear hb0
    obtain ⟨j, hj, rfl, hown, hbel⟩ := hrel
    by_cases hj6 : j < 6
    · have k6 : decide ((j : Int) ≤ 5) = true := by simp; omega
      have e1 := and_one8 _ (HSX.out j)
      have e2 := and_one8 _ (HSB.out j)
      rw [H1.out j, ← shr_n] at e1
      rw [H2.out j, ← shr_n] at e2
      by_cases hd : a.testBit j = b.testBit j
      · rw [if_pos hd] at e1
        have HC := Lib.hid (chs_same hd)
        go_wp2_with fail
        refine ⟨⟨j + 1, by omega, by go_num, ?_, hbel⟩, by simp [intOf]; omega⟩
        rw [HC.out]; exact hown
      · rw [if_neg hd] at e1
        have HC := Lib.hid (chs_diff hd)
        have HL := Lib.hid (chs_len a b j)
        clear hd
        generalize b.testBit j = y at *
        cases y
        · rw [if_neg Bool.false_ne_true] at e2
          go_wp2_with (at_builtin; (refine wpList_append_k _ rfl (.tmp 18) (.tmp 26) rfl w.heap.size _ (chs a b j) rfl (World.ownsRow.alloc hown _) [⟨j, false⟩] ⟨wr.heap.size, 0, none⟩ 1 1 rfl rfl (KsAt.one (cell_of_row _ _ 0 _ _ _ (heap_alloc_new wr _)) (cell_of_row _ _ 1 _ _ _ (heap_alloc_new wr _))) (by have := HL.out; simp; omega) (by have := hbel.size; simp; omega) ?_); intro v8 w8 hown8 hg8 hv8)
          refine ⟨⟨j + 1, by omega, by go_num, ?_, ?_⟩, by simp [intOf]; omega⟩
          · rw [HC.out]; exact hown8
          · exact (hbel.alloc hbel.size _).grown hg8 (by have := hbel.size; simp; omega) (fun k hk => (KOwn.blk hown hk).1)
        · rw [if_pos rfl] at e2
          go_wp2_with (at_builtin; (refine wpList_append_k _ rfl (.tmp 18) (.tmp 26) rfl w.heap.size _ (chs a b j) rfl (World.ownsRow.alloc hown _) [⟨j, true⟩] ⟨wr.heap.size, 0, none⟩ 1 1 rfl rfl (KsAt.one (cell_of_row _ _ 0 _ _ _ (heap_alloc_new wr _)) (cell_of_row _ _ 1 _ _ _ (heap_alloc_new wr _))) (by have := HL.out; simp; omega) (by have := hbel.size; simp; omega) ?_); intro v8 w8 hown8 hg8 hv8)
          refine ⟨⟨j + 1, by omega, by go_num, ?_, ?_⟩, by simp [intOf]; omega⟩
          · rw [HC.out]; exact hown8
          · exact (hbel.alloc hbel.size _).grown hg8 (by have := hbel.size; simp; omega) (fun k hk => (KOwn.blk hown hk).1)
    · obtain rfl : j = 6 := by omega
      go_wp2_with fail
      go_ret
      exact ⟨_, rfl, hown, hbel⟩
end Go.Proofs.Ytafoaonkjcfbaaa.Ya
namespace Go.Proofs.Ytafoaonkjcfbaaa.Ya
open Go.RowKit Go.Proofs.Ytafoaonkjcfbaaa.Mem Go.Proofs.Ytafoaonkjcfbaaa.F2p Go.Proofs.Ytafoaonkjcfbaaa.C4l Go.Proofs.Ytafoaonkjcfbaaa.Ta Go.Proofs.Ytafoaonkjcfbaaa.Tb
set_option maxRecDepth 100000
set_option maxHeartbeats 1000000

theorem pow_mod (j : Nat) (h : 2 ^ j < 64) : (2 : Int) ^ j % 256 = ((2 ^ j : Nat) : Int) := by
  have e : (2 : Int) ^ j = ((2 ^ j : Nat) : Int) := by rw [Int.natCast_pow]; rfl
  rw [e]
  generalize 2 ^ j = q at *
  omega
theorem within_q (s : Sn) (V : Value) (raw lo hi : UInt8) (w : World) :
    Calls Try.prog 85 #[.agg (cells s V), .int .u8 (raw.toNat : Int), .int .u8 (lo.toNat : Int), .int .u8 (hi.toNat : Int)] w fun e w' => e = .returned (.int .u8 (wth s (C4p.num s.c.s raw) lo.toNat hi.toNat : Nat)) ∧ Below w.heap.size w w' := by
  have hHN := fun (j : Nat) (u : World) => P4.number_p s.c.s (s.raw.getD j 0) u
  have hHX := fun (u : World) => P4.number_p s.c.s raw u
  obtain ⟨x, hx⟩ : ∃ x, x = C4p.num s.c.s raw := ⟨_, rfl⟩
  rw [← hx]
  have hxb : -128 ≤ x ∧ x ≤ 255 := by
    rw [hx]; unfold C4p.num; have := raw.toNat_lt; split <;> omega
  have hnb : ∀ j, -128 ≤ C4p.num s.c.s (s.raw.getD j 0) ∧ C4p.num s.c.s (s.raw.getD j 0) ≤ 255 := fun j => by
    have := (s.raw.getD j 0).toNat_lt; unfold C4p.num; split <;> omega
  have hrch : ∀ j, rch s x lo.toNat hi.toNat j = (has s.mx.toNat j && (if j ≤ 2 then decide (x ≤ C4p.num s.c.s (s.raw.getD j 0) + (lo.toNat : Int)) else decide (C4p.num s.c.s (s.raw.getD j 0) - (hi.toNat : Int) ≤ x))) := fun j => rfl
  have hfin : wth s x lo.toNat hi.toNat = pk (rch s x lo.toNat hi.toNat) 6 := rfl
  have HFIN := Lib.hid hfin
  have hpk := fun j => pk_lt (rch s x lo.toNat hi.toNat) j
  have hpo := fun j => pk_or (rch s x lo.toNat hi.toNat) j
  have hps : ∀ j, pk (rch s x lo.toNat hi.toNat) (j + 1) = pk (rch s x lo.toNat hi.toNat) j + (if rch s x lo.toNat hi.toNat j = true then 2 ^ j else 0) := fun j => rfl
  have HX := Lib.hid hx
  generalize rch s x lo.toNat hi.toNat = f at *
  have HPK := Lib.hid hpk
  have HPO := Lib.hid hpo
  have HPS := Lib.hid hps
  have HRC := Lib.hid hrch
  have HNB := Lib.hid hnb
  have HN := Lib.hid hHN
  have HHX := Lib.hid hHX
  rw [hfin]
  clear hpk hpo hps hrch hnb hHN hHX hx hfin
  have hb0 : Below w.heap.size w (w.alloc (.cells (cells s V) 59)) := (Below.refl _ _).alloc (Nat.le_refl _) _
  have hx0 : Bx (w.alloc (.cells (cells s V) 59)) w.heap.size s V := heap_alloc_new w _
  have hd0 : s.raw = [s.r0, s.r1, s.r2, s.r3, s.r4, s.r5] := rfl
  have c8 : (w.alloc (.cells (cells s V) 59)).cell? ⟨w.heap.size, 8, none⟩ = some (.bool s.c.s) := hx0.c 8
  have c14 : (w.alloc (.cells (cells s V) 59)).cell? ⟨w.heap.size, 14, none⟩ = some (.int .u8 (s.mx.toNat : Int)) := hx0.c 14
  have c15 : (w.alloc (.cells (cells s V) 59)).cell? ⟨w.heap.size, 15, none⟩ = some (.int .u8 (s.r0.toNat : Int)) := hx0.c 15
  have c16 : (w.alloc (.cells (cells s V) 59)).cell? ⟨w.heap.size, 16, none⟩ = some (.int .u8 (s.r1.toNat : Int)) := hx0.c 16
  have c17 : (w.alloc (.cells (cells s V) 59)).cell? ⟨w.heap.size, 17, none⟩ = some (.int .u8 (s.r2.toNat : Int)) := hx0.c 17
  have c18 : (w.alloc (.cells (cells s V) 59)).cell? ⟨w.heap.size, 18, none⟩ = some (.int .u8 (s.r3.toNat : Int)) := hx0.c 18
  have c19 : (w.alloc (.cells (cells s V) 59)).cell? ⟨w.heap.size, 19, none⟩ = some (.int .u8 (s.r4.toNat : Int)) := hx0.c 19
  have c20 : (w.alloc (.cells (cells s V) 59)).cell? ⟨w.heap.size, 20, none⟩ = some (.int .u8 (s.r5.toNat : Int)) := hx0.c 20
  have hhx := HHX.out
  rw [← HX.out] at hhx
  have HHX := Lib.hid hhx
  have hn := HN.out; have hrc := HRC.out; have hnb := HNB.out
  rw [hd0] at hn hrc hnb
  have HN := Lib.hid hn; have HRC := Lib.hid hrc; have HNB := Lib.hid hnb
  clear hhx hx0 hn hrc hnb hd0 HX
  generalize s.r0 = r0 at *; generalize s.r1 = r1 at *; generalize s.r2 = r2 at *; generalize s.r3 = r3 at *; generalize s.r4 = r4 at *; generalize s.r5 = r5 at *
  generalize s.c.s = sg at *; generalize s.mx = mx at *
  generalize cells s V = CS at *
  clear HFIN
  have hlo := lo.toNat_lt
  have hhi := hi.toNat_lt
  have hmx := mx.toNat_lt
  have hix : ∀ j : Nat, j < 6 → ∀ W, Sem.run Try.prog (Instr.index 55 (.agg #[.int .u8 (r0.toNat : Int), .int .u8 (r1.toNat : Int), .int .u8 (r2.toNat : Int), .int .u8 (r3.toNat : Int), .int .u8 (r4.toNat : Int), .int .u8 (r5.toNat : Int)]) (.int .i64 (j : Int))) W = .ok (Value.int .u8 (([r0, r1, r2, r3, r4, r5].getD j 0).toNat : Int)) W := fun j hj W => by
    rcases (show j = 0 ∨ j = 1 ∨ j = 2 ∨ j = 3 ∨ j = 4 ∨ j = 5 by omega) with rfl | rfl | rfl | rfl | rfl | rfl <;> first | rfl | (go_simp; rfl) | go_simp
  have HIX := Lib.hid hix
  clear hix
  go_enter Try.func85, Try.ntmps85
  go_wp2_with fail
  refine (HHX.out _).mono ?_
  rintro e w2 ⟨rfl, rfl⟩
  go_wp2_with fail
  generalize w.alloc (.cells CS 59) = w1 at *
  go_loopw [10, 22] (fun v i wr => ∃ j : Nat, j ≤ 6 ∧ i = .int .i64 (j : Int) ∧ v = .int .u8 (pk f j : Nat) ∧ wr = w1) (fun _ i _ => 6 - (intOf i).toNat)
  case atStart => exact ⟨0, by omega, rfl, rfl, rfl⟩
  case round =>
    obtain ⟨j, hj, rfl, rfl, rfl⟩ := hrel
    by_cases hj6 : j < 6
    · have k6 : decide ((j : Int) < 6) = true := by simp; omega
      have e1 := Tb.and_one _ (Nat.lt_of_le_of_lt (Nat.div_le_self mx.toNat (2 ^ j)) hmx)
      rw [← shr_n] at e1
      have hix := HIX.out j hj6
      have hrc := HRC.out j
      have hnb := HNB.out j
      have HNJ := Lib.hid (HN.out j)
      have hps := HPS.out j
      unfold has at hrc
      have hq : mx.toNat / 2 ^ j % 2 < 2 := Nat.mod_lt _ (by omega)
      generalize [r0, r1, r2, r3, r4, r5].getD j 0 = xj at *
      generalize C4p.num sg xj = t at *
      generalize mx.toNat / 2 ^ j % 2 = q at *
      have hpj : pk f j < 64 := Nat.lt_of_lt_of_le (HPK.out j) (by have : 2 ^ j ≤ 2 ^ 6 := Nat.pow_le_pow_right (by omega) hj; omega)
      have HPS2 := Lib.hid hps
      have HRC2 := Lib.hid hrc
      clear hps hrc
      rcases (show q = 0 ∨ q = 1 by omega) with rfl | rfl
      · go_wp2_with fail
        refine ⟨⟨j + 1, by omega, by go_num, ?_, trivial⟩, by simp [intOf]; omega⟩
        have := HRC2.out
        rw [HPS2.out, this]; rfl
      · go_wp2_with fail
        refine (HNJ.out _).mono ?_
        rintro e w2 ⟨rfl, rfl⟩
        go_wp2_with fail
        all_goals
          refine ⟨⟨j + 1, by omega, by go_num, ?_, trivial⟩, by simp [intOf]; omega⟩
          have hr := HRC2.out
          have hs := HPS2.out
          simp only [decide_true, Bool.true_and] at hr
          rw [hs]
          cases hfj : f j
          · first
              | (rw [if_neg Bool.false_ne_true]; rfl)
              | (exfalso
                 rw [hfj] at hr
                 split at hr <;> (have hr := of_decide_eq_false hr.symm; omega))
          · first
              | (exfalso
                 rw [hfj] at hr
                 split at hr <;> (have hr := of_decide_eq_true hr.symm; omega))
              | (have h2 : 2 ^ j < 64 := by have : 2 ^ j ≤ 2 ^ 5 := Nat.pow_le_pow_right (by omega) (by omega); omega
                 rw [if_pos rfl, ← HPO.out j, pow_mod j h2, or_u8 _ _ (by omega) (by omega)])
    · obtain rfl : j = 6 := by omega
      go_wp2_with fail
      go_ret
      exact ⟨rfl, hb0⟩
end Go.Proofs.Ytafoaonkjcfbaaa.Ya
