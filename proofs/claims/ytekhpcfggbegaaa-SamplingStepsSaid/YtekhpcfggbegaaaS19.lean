/- Walks: the program's sensor records: limits. -/
import Derived.Test.YtekhpcfggbegaaaS18
namespace Go.Proofs.Ytekhpcfggbegaaa.Tb
open Go.RowKit Go.Proofs.Ytekhpcfggbegaaa.Mem Go.Proofs.Ytekhpcfggbegaaa.F2p Go.Proofs.Ytekhpcfggbegaaa.Ta
set_option maxRecDepth 100000
set_option maxHeartbeats 1000000

theorem limits_p (sg : Bool) (mx r0 r1 r2 r3 r4 r5 : UInt8) (w : World) :
    Calls Try.prog 132 #[.agg #[.int .u8 (mx.toNat : Int), .int .u8 (r0.toNat : Int), .int .u8 (r1.toNat : Int), .int .u8 (r2.toNat : Int), .int .u8 (r3.toNat : Int), .int .u8 (r4.toNat : Int), .int .u8 (r5.toNat : Int)], .bool sg] w fun e w' => e = .returned (.bool (lims sg mx.toNat [r0, r1, r2, r3, r4, r5])) ∧ Below w.heap.size w w' := by
  obtain ⟨R, hR⟩ : ∃ R, R = lims sg mx.toNat [r0, r1, r2, r3, r4, r5] := ⟨_, rfl⟩
  rw [← hR]
  have hb0 : Below w.heap.size w (w.alloc (.cells #[.int .u8 (mx.toNat : Int), .int .u8 (r0.toNat : Int), .int .u8 (r1.toNat : Int), .int .u8 (r2.toNat : Int), .int .u8 (r3.toNat : Int), .int .u8 (r4.toNat : Int), .int .u8 (r5.toNat : Int)] 29)) := (Below.refl _ _).alloc (Nat.le_refl _) _
  have hth0 : Th (w.alloc (.cells #[.int .u8 (mx.toNat : Int), .int .u8 (r0.toNat : Int), .int .u8 (r1.toNat : Int), .int .u8 (r2.toNat : Int), .int .u8 (r3.toNat : Int), .int .u8 (r4.toNat : Int), .int .u8 (r5.toNat : Int)] 29)) w.heap.size mx r0 r1 r2 r3 r4 r5 := heap_alloc_new w _
  by_cases h63 : mx.toNat ≤ 63
  case neg =>
    have hf : R = false := by rw [hR]; unfold lims; rw [decide_eq_false h63]; rfl
    subst hf
    clear hR
    have h64 : 63 < mx.toNat := by omega
    go_enter Try.func132, Try.ntmps132
    go_wp2_with fail
    go_ret
    exact ⟨rfl, hb0⟩
  have hyes : (∀ i, i < 6 → (has mx.toNat i || decide ([r0, r1, r2, r3, r4, r5].getD i 0 = 0)) = true) → R = ordd sg mx.toNat [r0, r1, r2, r3, r4, r5] := fun h => by
    have : zer mx.toNat [r0, r1, r2, r3, r4, r5] = true := by unfold zer; simp only [List.all_eq_true, List.mem_range]; exact h
    rw [hR]; unfold lims
    rw [decide_eq_true h63, this, Bool.true_and, Bool.true_and]
  have hno : ∀ i, i < 6 → (has mx.toNat i || decide ([r0, r1, r2, r3, r4, r5].getD i 0 = 0)) = false → R = false := fun i hi hp => by
    have : zer mx.toNat [r0, r1, r2, r3, r4, r5] = false := by unfold zer; rw [List.all_eq_false]; exact ⟨i, List.mem_range.2 hi, by rw [hp]; simp⟩
    rw [hR]; unfold lims
    rw [this, Bool.false_and, Bool.and_false]
  have HY := Lib.hid hyes
  have HN := Lib.hid hno
  clear hyes hno hR
  go_enter Try.func132, Try.ntmps132
  go_wp2_with fail
  generalize w.alloc (.cells #[.int .u8 (mx.toNat : Int), .int .u8 (r0.toNat : Int), .int .u8 (r1.toNat : Int), .int .u8 (r2.toNat : Int), .int .u8 (r3.toNat : Int), .int .u8 (r4.toNat : Int), .int .u8 (r5.toNat : Int)] 29) = w1 at *
  generalize hr0 : w.heap.size = r at *
  have HR0 := Lib.hid hr0
  clear hr0
  go_loopw [12] (fun v wr => ∃ j : Nat, j ≤ 6 ∧ v = .int .i64 (j : Int) ∧ Th wr r mx r0 r1 r2 r3 r4 r5 ∧ Below r w wr ∧ ∀ i, i < j → (has mx.toNat i || decide ([r0, r1, r2, r3, r4, r5].getD i 0 = 0)) = true) (fun v _ => 6 - (intOf v).toNat)
  case atStart => exact ⟨0, by omega, rfl, hth0, hb0, fun _ h => absurd h (Nat.not_lt_zero _)⟩
  case round =>
    clear hth0 hb0
    obtain ⟨j, hj, rfl, hth, hb, hok⟩ := hrel
    have HOK := Lib.hid hok
    clear hok
    by_cases hj6 : j < 6
    · have hix : ∀ W, Sem.run Try.prog (Instr.index 27 (.agg #[.int .u8 (r0.toNat : Int), .int .u8 (r1.toNat : Int), .int .u8 (r2.toNat : Int), .int .u8 (r3.toNat : Int), .int .u8 (r4.toNat : Int), .int .u8 (r5.toNat : Int)]) (.int .i64 (j : Int))) W = .ok (Value.int .u8 (([r0, r1, r2, r3, r4, r5].getD j 0).toNat : Int)) W := fun W => by
        rcases (show j = 0 ∨ j = 1 ∨ j = 2 ∨ j = 3 ∨ j = 4 ∨ j = 5 by omega) with rfl | rfl | rfl | rfl | rfl | rfl <;> first | rfl | (go_simp; rfl) | go_simp
      have kj6 : decide ((j : Int) < 6) = true := by simp; omega
      obtain ⟨bi, hbi⟩ : ∃ bi, bi = has mx.toNat j := ⟨_, rfl⟩
      have HI := Lib.hid fun (u : World) => by have := has_p mx r0 r1 r2 r3 r4 r5 j hj6 u; rw [← hbi] at this; exact this
      have hno := HN.out j hj6
      have hyy : (has mx.toNat j || decide ([r0, r1, r2, r3, r4, r5].getD j 0 = 0)) = (bi || decide ([r0, r1, r2, r3, r4, r5].getD j 0 = 0)) := by rw [hbi]
      rw [hyy] at hno
      generalize hxj : [r0, r1, r2, r3, r4, r5].getD j 0 = xj at *
      have HXJ := Lib.hid hxj
      clear hxj
      have HNO := Lib.hid hno
      have HYY := Lib.hid hyy
      obtain ⟨c0, c1, c2, c3, c4, c5, c6⟩ := hth.cells
      clear hno hyy hbi
      go_wp2_with fail
      refine (HI.out _).mono ?_
      rintro e w2 ⟨rfl, hb2⟩
      have hb' := hb.trans (hb2.mono (Nat.le_of_lt hth.lt))
      have hth' := hth.below hb2
      cases bi
      · by_cases hz : xj = 0
        · subst hz
          go_wp2_with fail
          refine ⟨⟨j + 1, by omega, by go_num, hth', hb', fun k hk => ?_⟩, by simp [intOf]; omega⟩
          rcases Nat.lt_or_ge k j with g | g
          · exact HOK.out k g
          · obtain rfl : k = j := by omega
            rw [HXJ.out]; first | rw [HYY.out]; rfl | exact HYY.out
        · have hnz : ((xj.toNat : Int) != 0) = true := by
            rw [bne_iff_ne]; intro h; exact hz (UInt8.toNat_inj.1 (by rw [show (0 : UInt8).toNat = 0 from rfl]; omega))
          have hf := HNO.out (by rw [decide_eq_false hz]; rfl)
          subst hf
          go_wp2_with fail
          go_ret
          exact ⟨rfl, by rw [HR0.out]; exact hb'⟩
      · go_wp2_with fail
        refine ⟨⟨j + 1, by omega, by go_num, hth', hb', fun k hk => ?_⟩, by simp [intOf]; omega⟩
        rcases Nat.lt_or_ge k j with g | g
        · exact HOK.out k g
        · obtain rfl : k = j := by omega
          rw [HXJ.out]; first | rw [HYY.out]; rfl | exact HYY.out
    · have hy := HY.out (fun i h => HOK.out i (by omega))
      have HO := Lib.hid fun (u : World) => by have := ordered_p sg mx r0 r1 r2 r3 r4 r5 u; rw [← hy] at this; exact this
      obtain ⟨c0, c1, c2, c3, c4, c5, c6⟩ := hth.cells
      clear hy
      go_wp2_with fail
      refine (HO.out _).mono ?_
      rintro e w2 ⟨rfl, hb2⟩
      go_wp2_with fail
      go_ret
      exact ⟨rfl, by rw [HR0.out]; exact hb.trans (hb2.mono (Nat.le_of_lt hth.lt))⟩
/-- A record's cells; V: the points. -/
def cells (s : Sn) (V : Value) : Array Value := #[.int .u8 (s.nu.toNat : Int), .int .u8 (s.ty.toNat : Int), .int .u8 (s.un.toNat : Int), .string s.nm, .int .u8 (s.ei.toNat : Int), .int .u8 (s.en.toNat : Int), .bool s.d, .int .i64 s.c.f, .bool s.c.s, .int .i64 s.c.m, .int .i64 s.c.b, .int .i64 s.c.k1, .int .i64 s.c.k2, V, .int .u8 (s.mx.toNat : Int), .int .u8 (s.r0.toNat : Int), .int .u8 (s.r1.toNat : Int), .int .u8 (s.r2.toNat : Int), .int .u8 (s.r3.toNat : Int), .int .u8 (s.r4.toNat : Int), .int .u8 (s.r5.toNat : Int), .int .u8 (s.hl.toNat : Int), .int .u8 (s.hu.toNat : Int), .int .u16 (s.st : Int), .int .u16 (s.av : Int), .int .u16 (s.dv : Int), .bool s.on, .int .i64 s.sm]

end Go.Proofs.Ytekhpcfggbegaaa.Tb
