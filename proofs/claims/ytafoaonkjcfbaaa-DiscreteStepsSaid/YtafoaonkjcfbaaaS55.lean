/- Walks: the reference's Step of discrete states, the law's awake. -/
import Derived.Test.YtafoaonkjcfbaaaS26
import Derived.Test.YtafoaonkjcfbaaaS54
namespace Go.Proofs.Ytafoaonkjcfbaaa.Ya
open Go.RowKit Go.Proofs.Ytafoaonkjcfbaaa.Mem Go.Proofs.Ytafoaonkjcfbaaa.F2p Go.Proofs.Ytafoaonkjcfbaaa.C4l Go.Proofs.Ytafoaonkjcfbaaa.Ta Go.Proofs.Ytafoaonkjcfbaaa.Tb
set_option maxRecDepth 100000
set_option maxHeartbeats 1000000

theorem andn_bit (a m i : Nat) : (andn a m).testBit i = (decide (i < 16) && (a.testBit i && !m.testBit i)) := by
  unfold andn
  rw [BitVec.testBit_toNat, BitVec.getLsbD_and, BitVec.getLsbD_not, BitVec.getLsbD_ofNat, BitVec.getLsbD_ofNat]
  cases decide (i < 16) <;> simp
theorem andn_or (a b m : Nat) : andn (a ||| b) m = andn a m ||| andn b m := by
  apply Nat.eq_of_testBit_eq
  intro i
  rw [Nat.testBit_or, andn_bit, andn_bit, andn_bit, Nat.testBit_or]
  cases decide (i < 16) <;> cases a.testBit i <;> cases b.testBit i <;> cases m.testBit i <;> rfl
theorem or_zero {a b : Nat} : a ||| b = 0 ↔ a = 0 ∧ b = 0 := by
  constructor
  · intro h
    have h1 : ∀ i, (a ||| b).testBit i = false := fun i => by rw [h, Nat.zero_testBit]
    refine ⟨Nat.eq_of_testBit_eq fun i => ?_, Nat.eq_of_testBit_eq fun i => ?_⟩ <;>
    · have := h1 i
      rw [Nat.testBit_or, Bool.or_eq_false_iff] at this
      rw [Nat.zero_testBit]
      first | exact this.1 | exact this.2
  · rintro ⟨rfl, rfl⟩; rfl
theorem step_rd (s : Sn) (A : Option Addr) (n cp : Nat) (st nx : Nat) (hst : st < 65536) (hnx : nx < 65536) (w : World) (hsl : PSl w A n cp s.c.p) (hnm : s.nm.size ≤ maxLen) :
    Calls Try.prog 44 #[.agg (cells s (.slice A n cp)), .int .u16 (st : Int), .int .u16 (nx : Int)] w fun e w' => DOut s st nx w e w' := by
  have hb0 : Below w.heap.size w (w.alloc (.cells (cells s (.slice A n cp)) 59)) := (Below.refl _ _).alloc (Nat.le_refl _) _
  have hx0 : Bx (w.alloc (.cells (cells s (.slice A n cp)) 59)) w.heap.size s (.slice A n cp) := heap_alloc_new w _
  have HV := Lib.hid (vld10 s A n cp _ (hsl.step hb0) hnm)
  unfold DOut
  have ha := bits_andn st s.st
  have hbn := bits_andn nx s.st
  have hor := andn_or st nx s.st
  have HS := Lib.hid fun i (hi : i ≤ 16) (u : World) => by have := Tl.has_r st i hst hi u; rw [has_tb] at this; exact this
  have HN := Lib.hid fun i (hi : i ≤ 16) (u : World) => by have := Tl.has_r nx i hnx hi u; rw [has_tb] at this; exact this
  rw [hor]
  clear hor
  generalize andn st s.st = AN at *
  generalize andn nx s.st = BN at *
  obtain ⟨Q, hQ⟩ : ∃ Q, Q = AN ||| BN := ⟨_, rfl⟩
  rw [← hQ]
  have HQ := Lib.hid hQ
  clear hQ
  generalize vs s = R at *
  have c6 : (w.alloc (.cells (cells s (.slice A n cp)) 59)).cell? ⟨w.heap.size, 6, none⟩ = some (.bool s.d) := hx0.c 6
  generalize s.d = d at *
  clear hsl hnm
  go_enter Try.func44, Try.ntmps44
  cases d
  · go_wp2_with fail
    go_ret3
    exact ⟨hb0, by first | rfl | (rw [Bool.false_and]; rfl)⟩
  rw [Bool.true_and]
  go_wp2_with (refine wpList_load_bx_w (by rfl) (.tmp 3) rfl _ _ _ rfl hx0 ?_)
  refine HV.out.mono ?_
  rintro e w2 ⟨rfl, hb2⟩
  have hx2 := hx0.below hb2
  have hbb := hb0.trans (hb2.mono hb0.size)
  clear hx0 hb0 hb2 HV c6
  cases R
  · go_wp2_with fail
    go_ret3
    exact ⟨hbb, rfl⟩
  have c23 : w2.cell? ⟨w.heap.size, 23, none⟩ = some (.int .u16 (s.st : Int)) := hx2.c 23
  by_cases hz : AN = 0
  case neg =>
    have hnz : ((AN : Int) != 0) = true := by rw [bne_iff_ne]; omega
    have HZ := Lib.hid (show Q ≠ 0 from fun h => hz (or_zero.1 (HQ.out.symm.trans h)).1)
    go_wp2_with fail
    go_ret3
    refine ⟨hbb, ?_⟩
    first | rfl | (rw [if_pos HZ.out]; done) | (rw [if_pos HZ.out]; rfl) | (rw [if_neg (by simp), if_pos HZ.out]; done) | (rw [if_neg (by simp), if_pos HZ.out]; rfl)
  subst hz
  by_cases hz : BN = 0
  case neg =>
    have hnz : ((BN : Int) != 0) = true := by rw [bne_iff_ne]; omega
    have HZ := Lib.hid (show Q ≠ 0 from fun h => hz (or_zero.1 (HQ.out.symm.trans h)).2)
    go_wp2_with fail
    go_ret3
    refine ⟨hbb, ?_⟩
    first | rfl | (rw [if_pos HZ.out]; done) | (rw [if_pos HZ.out]; rfl) | (rw [if_neg (by simp), if_pos HZ.out]; done) | (rw [if_neg (by simp), if_pos HZ.out]; rfl)
  subst hz
  obtain rfl : Q = 0 := HQ.out.trans (or_zero.2 ⟨rfl, rfl⟩)
  clear HQ
  go_wp2_with fail
  clear c23 ha hbn hx2
  go_loopw [9, 10, 11] (fun v i z wr => ∃ j : Nat, j ≤ 15 ∧ i = .int .i64 (j : Int) ∧ KOwn w.heap.size wr v (chs st nx j) ∧ Below w.heap.size w wr) (fun _ i _ _ => 15 - (intOf i).toNat)
  case atStart => exact ⟨0, by omega, rfl, KOwn.nil, hbb⟩
  case round =>
    clear hbb
    obtain ⟨j, hj, rfl, hown, hbel⟩ := hrel
    by_cases hj6 : j < 15
    · have HX := Lib.hid fun (u : World) => HS.out j (by omega) u
      have HB := Lib.hid fun (u : World) => HN.out j (by omega) u
      have hc1 := chs_same (a := st) (b := nx) (j := j)
      have hc2 := chs_diff (a := st) (b := nx) (j := j)
      have HC1 := Lib.hid hc1
      have HC2 := Lib.hid hc2
      have HL := Lib.hid (chs_len st nx j)
      clear hc1 hc2
      generalize st.testBit j = x at *
      generalize nx.testBit j = y at *
      go_wp2_with fail
      refine (HB.out _).mono ?_
      rintro e w3 ⟨rfl, rfl⟩
      by_cases hxy : x = y
      · have HC := Lib.hid (HC1.out hxy)
        subst hxy
        have e1 : (x != x) = false := by simp
        go_wp2_with fail
        refine (HX.out _).mono ?_
        rintro e w3 ⟨rfl, rfl⟩
        go_wp2_with fail
        refine ⟨⟨j + 1, by omega, by go_num, ?_, hbel⟩, by simp [intOf]; omega⟩
        rw [HC.out]; exact hown
      · have HC := Lib.hid (HC2.out hxy)
        rcases (show (x = true ∧ y = false) ∨ (x = false ∧ y = true) by cases x <;> cases y <;> first | exact absurd rfl hxy | simp) with ⟨rfl, rfl⟩ | ⟨rfl, rfl⟩
        · clear hxy
          go_wp2_with fail
          refine (HX.out _).mono ?_
          rintro e w3 ⟨rfl, rfl⟩
          go_wp2_with (at_builtin; (refine wpList_append_k _ rfl (.tmp 44) (.tmp 48) rfl w.heap.size _ (chs st nx j) rfl (World.ownsRow.alloc hown _) [⟨j, false⟩] ⟨_, 0, none⟩ 1 1 rfl rfl (KsAt.one (cell_of_row _ _ 0 _ _ _ (heap_alloc_new _ _)) (cell_of_row _ _ 1 _ _ _ (heap_alloc_new _ _))) (by have := HL.out; simp; omega) (by have := hbel.size; simp; omega) ?_); intro v8 w8 hown8 hg8 hv8)
          refine ⟨⟨j + 1, by omega, by go_num, ?_, ?_⟩, by simp [intOf]; omega⟩
          · rw [HC.out]; exact hown8
          · exact (hbel.alloc hbel.size _).grown hg8 (by have := hbel.size; simp; omega) (fun k hk => (KOwn.blk hown hk).1)
        · clear hxy
          go_wp2_with fail
          refine (HX.out _).mono ?_
          rintro e w3 ⟨rfl, rfl⟩
          go_wp2_with (at_builtin; (refine wpList_append_k _ rfl (.tmp 44) (.tmp 48) rfl w.heap.size _ (chs st nx j) rfl (World.ownsRow.alloc hown _) [⟨j, true⟩] ⟨_, 0, none⟩ 1 1 rfl rfl (KsAt.one (cell_of_row _ _ 0 _ _ _ (heap_alloc_new _ _)) (cell_of_row _ _ 1 _ _ _ (heap_alloc_new _ _))) (by have := HL.out; simp; omega) (by have := hbel.size; simp; omega) ?_); intro v8 w8 hown8 hg8 hv8)
          refine ⟨⟨j + 1, by omega, by go_num, ?_, ?_⟩, by simp [intOf]; omega⟩
          · rw [HC.out]; exact hown8
          · exact (hbel.alloc hbel.size _).grown hg8 (by have := hbel.size; simp; omega) (fun k hk => (KOwn.blk hown hk).1)
    · obtain rfl : j = 15 := by omega
      go_wp2_with fail
      go_ret3
      refine ⟨hbel, ?_⟩
      first | exact ⟨_, rfl, hown⟩ | (rw [if_neg (by simp), if_neg (by simp)]; exact ⟨_, rfl, hown⟩)
end Go.Proofs.Ytafoaonkjcfbaaa.Ya
