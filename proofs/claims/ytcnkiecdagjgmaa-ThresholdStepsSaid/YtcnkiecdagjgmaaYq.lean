/- Walks: the reference of thresholds: Analog, Reached, Step. -/
import Derived.Test.YtcnkiecdagjgmaaYn
import Derived.Test.YtcnkiecdagjgmaaYo
import Derived.Test.YtcnkiecdagjgmaaYr
namespace Go.Proofs.Ytcnkiecdagjgmaa.Ya
open Go.RowKit Go.Proofs.Ytcnkiecdagjgmaa.Mem Go.Proofs.Ytcnkiecdagjgmaa.F2p Go.Proofs.Ytcnkiecdagjgmaa.C4l Go.Proofs.Ytcnkiecdagjgmaa.Ta Go.Proofs.Ytcnkiecdagjgmaa.Tb
set_option maxRecDepth 100000
set_option maxHeartbeats 1000000

theorem analog_r (s : Sn) (A : Option Addr) (n cp : Nat) (w : World) (hsl : PSl w A n cp s.c.p) (hnm : s.nm.size ≤ maxLen) :
    Calls Try.prog 75 #[.agg (cells s (.slice A n cp))] w fun e w' => e = .returned (.bool (vs s && !s.d)) ∧ Below w.heap.size w w' := by
  have hb0 : Below w.heap.size w (w.alloc (.cells (cells s (.slice A n cp)) 32)) := (Below.refl _ _).alloc (Nat.le_refl _) _
  have hx0 : Bx (w.alloc (.cells (cells s (.slice A n cp)) 32)) w.heap.size s (.slice A n cp) := heap_alloc_new w _
  have HV := Lib.hid (vld10 s A n cp _ (hsl.step hb0) hnm)
  generalize vs s = R at *
  have c6 : (w.alloc (.cells (cells s (.slice A n cp)) 32)).cell? ⟨w.heap.size, 6, none⟩ = some (.bool s.d) := hx0.c 6
  generalize s.d = d at *
  clear hsl hnm
  go_enter Try.func75, Try.ntmps75
  cases d
  · go_wp2_with (refine wpList_load_bx_w (by rfl) (.tmp 1) rfl _ _ _ rfl hx0 ?_)
    refine HV.out.mono ?_
    rintro e w2 ⟨rfl, hb2⟩
    go_wp2_with fail
    go_ret
    exact ⟨by cases R <;> rfl, hb0.trans (hb2.mono hb0.size)⟩
  · go_wp2_with fail
    go_ret
    exact ⟨by cases R <;> rfl, hb0⟩
theorem pk_add (f : Nat → Bool) (j : Nat) (h : j < 6) : ((pk f j : Nat) : Int) + 2 ^ j % 256 = ((pk f j + 2 ^ j : Nat) : Int) := by
  have h1 : 2 ^ j < 64 := Nat.pow_lt_pow_right (n := 6) (by omega) h
  rw [pow_mod j h1]
  rfl
theorem reached_r (s : Sn) (A : Option Addr) (n cp : Nat) (raw : UInt8) (w : World) (hsl : PSl w A n cp s.c.p) (hnm : s.nm.size ≤ maxLen) :
    Calls Try.prog 24 #[.agg (cells s (.slice A n cp)), .int .u8 (raw.toNat : Int)] w fun e w' => ReachedOut s raw w e w' := by
  have hb0 : Below w.heap.size w (w.alloc (.cells (cells s (.slice A n cp)) 32)) := (Below.refl _ _).alloc (Nat.le_refl _) _
  have hx0 : Bx (w.alloc (.cells (cells s (.slice A n cp)) 32)) w.heap.size s (.slice A n cp) := heap_alloc_new w _
  have HV := Lib.hid (analog_r s A n cp _ (hsl.step hb0) hnm)
  unfold ReachedOut
  generalize (vs s && !s.d) = R at *
  have HN := Lib.hid fun (u : World) => C4v.number_r s.c.s raw u
  obtain ⟨x, hx⟩ : ∃ x, x = C4p.num s.c.s raw := ⟨_, rfl⟩
  rw [← hx] at HN ⊢
  have hfin : wth s x 0 0 = pk (wth s x 0 0).testBit 6 := by
    apply Nat.eq_of_testBit_eq
    intro i
    rw [pk_bit]
    rcases Nat.lt_or_ge i 6 with h | h
    · rw [decide_eq_true h, Bool.true_and]
    · rw [decide_eq_false (by omega), Bool.false_and, wth_out _ _ _ _ _ h]
  have hbit := fun i (hi : i < 6) => wth_ref (s := s) (x := x) hi
  generalize wth s x 0 0 = W at *
  have HBIT := Lib.hid hbit
  have HFIN := Lib.hid hfin
  have HREA := Lib.hid fun i (hi : i < 6) (u : World) => reaches_r s A n cp i hi x u
  have HHAS := Lib.hid fun i (hi : i ≤ 16) (u : World) => by have := Tl.has_r s.mx.toNat i (by have := s.mx.toNat_lt; omega) hi u; rw [has_tb] at this; exact this
  have hmx := s.mx.toNat_lt
  clear hsl hnm hx hbit hfin
  go_enter Try.func24, Try.ntmps24
  go_wp2_with (refine wpList_load_bx rfl (.tmp 2) rfl _ _ _ rfl hx0 ?_)
  refine HV.out.mono ?_
  rintro e w2 ⟨rfl, hb2⟩
  have hx2 := hx0.below hb2
  have hbb := hb0.trans (hb2.mono hb0.size)
  clear hx0 hb0 hb2 HV
  cases R
  · go_wp2_with fail
    go_ret2
    exact ⟨hbb, rfl⟩
  have c8 : w2.cell? ⟨w.heap.size, 8, none⟩ = some (.bool s.c.s) := hx2.c 8
  go_wp2_with fail
  refine (HN.out _).mono ?_
  rintro e w3 ⟨rfl, rfl⟩
  clear c8
  go_wp2_with fail
  go_loopw [7, 8] (fun v i wr => ∃ j : Nat, j ≤ 6 ∧ i = .int .i64 (j : Int) ∧ v = .int .u8 (pk W.testBit j : Nat) ∧ Bx wr w.heap.size s (.slice A n cp) ∧ Below w.heap.size w wr) (fun _ i _ => 6 - (intOf i).toNat)
  case atStart => exact ⟨0, by omega, rfl, rfl, hx2, hbb⟩
  case round =>
    clear hx2 hbb
    obtain ⟨j, hj, rfl, rfl, hx, hb⟩ := hrel
    by_cases hj6 : j < 6
    · have k6 : decide ((j : Int) < 6) = true := decide_eq_true (by omega)
      have c14 : wr.cell? ⟨w.heap.size, 14, none⟩ = some (.int .u8 (s.mx.toNat : Int)) := hx.c 14
      have hb1 := HBIT.out j hj6
      have hps : pk W.testBit (j + 1) = pk W.testBit j + (if W.testBit j = true then 2 ^ j else 0) := rfl
      have hpl : pk W.testBit j < 64 := Nat.lt_of_lt_of_le (pk_lt _ j) (by have : 2 ^ j ≤ 2 ^ 6 := Nat.pow_le_pow_right (by omega) hj; omega)
      have HQ : Hid ((2 : Int) ^ j = ((2 ^ j : Nat) : Int)) := Lib.hid (by rw [Int.natCast_pow]; rfl)
      have hpl2 : pk W.testBit j + 2 ^ j < 256 := by have : 2 ^ j < 2 ^ 6 := Nat.pow_lt_pow_right (by omega) hj6; omega
      have HH := Lib.hid fun u => HHAS.out j (by omega) u
      have HR := Lib.hid fun u => HREA.out j hj6 u
      rw [hb1] at hps
      have HPS := Lib.hid hps
      clear hb1 hps
      generalize s.mx.toNat.testBit j = bm at *
      generalize rea s j x = br at *
      go_wp2_with fail
      refine (HH.out _).mono ?_
      rintro e w4 ⟨rfl, rfl⟩
      cases bm
      · go_wp2_with fail
        exact ⟨⟨j + 1, by omega, by go_num, by rw [HPS.out]; rfl, hx, hb⟩, by simp [intOf]; omega⟩
      · go_wp2_with (refine wpList_load_bx_w (by rfl) (.tmp 2) rfl _ _ _ rfl hx ?_)
        refine (HR.out _).mono ?_
        rintro e w4 ⟨rfl, hb4⟩
        have hx4 := hx.below hb4
        have hbb4 := hb.trans (hb4.mono hb.size)
        clear hx hb hb4 c14
        cases br
        · go_wp2_with fail
          exact ⟨⟨j + 1, by omega, by go_num, by rw [HPS.out]; rfl, hx4, hbb4⟩, by simp [intOf]; omega⟩
        · go_wp2_with fail
          refine ⟨⟨j + 1, by omega, by go_num, ?_, hx4, hbb4⟩, by simp [intOf]; omega⟩
          refine vi ?_
          rw [HPS.out, if_pos (by rfl), HQ.out]
          generalize (2 : Nat) ^ j = P at *
          omega
    · obtain rfl : j = 6 := by omega
      go_wp2_with fail
      go_ret2
      exact ⟨hb, by rw [← HFIN.out]; rfl⟩
theorem kown_below {base : Nat} {w w' : World} {v : Value} {l : List Ch} (h : KOwn base w v l) (hb : Below w.heap.size w w') : KOwn base w' v l := by
  refine ⟨h.1, ?_⟩
  rcases h.2 with h1 | ⟨g, cap, cur, h1, h2, h3, h4⟩
  · exact .inl h1
  · refine .inr ⟨g, cap, cur, h1, h2, (hb.block g ?_).trans h3, h4⟩
    rcases Nat.lt_or_ge g w.heap.size with h5 | h5
    · exact h5
    · rw [Array.getElem?_eq_none h5] at h3; cases h3
theorem step_r (s : Sn) (A : Option Addr) (n cp : Nat) (st : Nat) (hst : st < 256) (raw : UInt8) (w : World) (hsl : PSl w A n cp s.c.p) (hnm : s.nm.size ≤ maxLen) :
    Calls Try.prog 22 #[.agg (cells s (.slice A n cp)), .int .u8 (st : Int), .int .u8 (raw.toNat : Int)] w fun e w' => StepOut s st raw w e w' := by
  have hb0 : Below w.heap.size w (w.alloc (.cells (cells s (.slice A n cp)) 32)) := (Below.refl _ _).alloc (Nat.le_refl _) _
  have hx0 : Bx (w.alloc (.cells (cells s (.slice A n cp)) 32)) w.heap.size s (.slice A n cp) := heap_alloc_new w _
  have HV := Lib.hid (analog_r s A n cp _ (hsl.step hb0) hnm)
  unfold StepOut
  obtain ⟨N, hN⟩ : ∃ N, N = nxt s (C4p.num s.c.s raw) st := ⟨_, rfl⟩
  have HNU := Lib.hid fun (u : World) => C4v.number_r s.c.s raw u
  obtain ⟨x, hx⟩ : ∃ x, x = C4p.num s.c.s raw := ⟨_, rfl⟩
  rw [← hx] at HNU hN
  have HNN := Lib.hid (show N = nxt s (C4p.num s.c.s raw) st by rw [← hx]; exact hN)
  have hN2 : N < 64 := by rw [hN]; exact nxt_lt _ _ _
  have hfin : N = pk N.testBit 6 := by
    apply Nat.eq_of_testBit_eq
    intro i
    rw [pk_bit]
    rcases Nat.lt_or_ge i 6 with h | h
    · rw [decide_eq_true h, Bool.true_and]
    · rw [decide_eq_false (by omega), Bool.false_and, hN, nxt_out _ _ _ _ h]
  have HFIN := Lib.hid hfin
  have HB1 := Lib.hid fun i (hi : i < 6) hm => (congrArg (fun y => y.testBit i) hN).trans (nxt_ref (s := s) (x := x) (st := st) hi hm)
  have HB0 := Lib.hid fun i (hi : i < 6) hm => (congrArg (fun y => y.testBit i) hN).trans (nxt_none (s := s) (x := x) (st := st) hi hm)
  have HIN := Lib.hid fun (h : andn8 st s.mx.toNat = 0) i (hi : i < 6) (hb : st.testBit i = true) => of_andn8 h (by omega : i < 8) hb
  have ha := andn_u8 st s.mx.toNat
  have HREA := Lib.hid fun i (hi : i < 6) (u : World) => reaches_r s A n cp i hi x u
  have HLEA := Lib.hid fun i (hi : i < 6) (u : World) => leaves_r s A n cp i hi x u
  have HHAS := Lib.hid fun i (hi : i ≤ 16) (u : World) => by have := Tl.has_r s.mx.toNat i (by have := s.mx.toNat_lt; omega) hi u; rw [has_tb] at this; exact this
  have HHST := Lib.hid fun i (hi : i ≤ 16) (u : World) => by have := Tl.has_r st i (by omega) hi u; rw [has_tb] at this; exact this
  have hmx := s.mx.toNat_lt
  generalize hAN : andn8 st s.mx.toNat = AN at *
  generalize (vs s && !s.d) = R at *
  clear hsl hnm hx hN hfin hAN
  go_enter Try.func22, Try.ntmps22
  go_wp2_with (refine wpList_load_bx rfl (.tmp 3) rfl _ _ _ rfl hx0 ?_)
  refine HV.out.mono ?_
  rintro e w2 ⟨rfl, hb2⟩
  have hx2 := hx0.below hb2
  have hbb := hb0.trans (hb2.mono hb0.size)
  clear hx0 hb0 hb2 HV
  cases R
  · go_wp2_with fail
    go_ret3
    exact ⟨hbb, rfl⟩
  have c14 : w2.cell? ⟨w.heap.size, 14, none⟩ = some (.int .u8 (s.mx.toNat : Int)) := hx2.c 14
  have c8 : w2.cell? ⟨w.heap.size, 8, none⟩ = some (.bool s.c.s) := hx2.c 8
  by_cases hz : AN = 0
  case neg =>
    have hnz : ((AN : Int) != 0) = true := by rw [bne_iff_ne]; omega
    go_wp2_with fail
    go_ret3
    refine ⟨hbb, ?_⟩
    first | rfl | (rw [if_neg (by simp), if_pos hz])
  subst hz
  have HIN2 := Lib.hid (HIN.out rfl)
  clear HIN
  go_wp2_with fail
  refine (HNU.out _).mono ?_
  rintro e w3 ⟨rfl, rfl⟩
  clear c8 c14 ha
  go_wp2_with fail
  go_loopw [10, 11, 12] (fun v l i wr => ∃ j : Nat, j ≤ 6 ∧ i = .int .i64 (j : Int) ∧ v = .int .u8 (pk N.testBit j : Nat) ∧ KOwn w.heap.size wr l (chs st N j) ∧ Bx wr w.heap.size s (.slice A n cp) ∧ Below w.heap.size w wr) (fun _ _ i _ => 6 - (intOf i).toNat)
  case atStart => exact ⟨0, by omega, rfl, rfl, KOwn.nil, hx2, hbb⟩
  case round =>
    clear hx2 hbb
    obtain ⟨j, hj, rfl, rfl, hown, hx, hb⟩ := hrel
    by_cases hj6 : j < 6
    · have k6 : decide ((j : Int) < 6) = true := decide_eq_true (by omega)
      have c14 : wr.cell? ⟨w.heap.size, 14, none⟩ = some (.int .u8 (s.mx.toNat : Int)) := hx.c 14
      have hps : pk N.testBit (j + 1) = pk N.testBit j + (if N.testBit j = true then 2 ^ j else 0) := rfl
      have hpl : pk N.testBit j < 64 := Nat.lt_of_lt_of_le (pk_lt _ j) (by have : 2 ^ j ≤ 2 ^ 6 := Nat.pow_le_pow_right (by omega) hj; omega)
      have HQ : Hid ((2 : Int) ^ j = ((2 ^ j : Nat) : Int)) := Lib.hid (by rw [Int.natCast_pow]; rfl)
      have hpl2 : pk N.testBit j + 2 ^ j < 256 := by have : 2 ^ j < 2 ^ 6 := Nat.pow_lt_pow_right (by omega) hj6; omega
      have hlen := chs_len st N j
      have HH := Lib.hid fun u => HHAS.out j (by omega) u
      have HS := Lib.hid fun u => HHST.out j (by omega) u
      have HR := Lib.hid fun u => HREA.out j hj6 u
      have HL := Lib.hid fun u => HLEA.out j hj6 u
      have h1 := HB1.out j hj6
      have h0 := HB0.out j hj6
      have hin := HIN2.out j hj6
      have hsame := chs_same (a := st) (b := N) (j := j)
      have hdiff := chs_diff (a := st) (b := N) (j := j)
      have HPT := Lib.hid (fun h : N.testBit j = true => hps.trans (by rw [if_pos h]))
      have HPF := Lib.hid (fun h : N.testBit j = false => hps.trans (by rw [h, if_neg Bool.false_ne_true, Nat.add_zero]))
      have HLEN := Lib.hid hlen
      have hlt := hx.lt
      clear hps hlen
      generalize s.mx.toNat.testBit j = bm at *
      generalize rea s j x = br at *
      generalize lea s j x = bl at *
      generalize N.testBit j = bn at *
      generalize st.testBit j = bs at *
      go_wp2_with fail
      refine (HH.out _).mono ?_
      rintro e w4 ⟨rfl, rfl⟩
      cases bm
      · have hn : bn = false := h0 rfl
        have hs0 : bs = false := by cases bs; rfl; exact absurd (hin rfl) (by simp)
        subst hn hs0
        have hc : chs st N (j + 1) = chs st N j := by first | exact hsame rfl | exact hsame trivial
        have hpe := HPF.out rfl
        go_wp2_with fail
        exact ⟨⟨j + 1, by omega, by go_num, by rw [hpe], by rw [hc]; exact hown, hx, hb⟩, by simp [intOf]; omega⟩
      have hn := h1 rfl
      clear h1 h0 hin c14
      go_wp2_with fail
      refine (HS.out _).mono ?_
      rintro e w4 ⟨rfl, rfl⟩
      go_wp2_with (refine wpList_load_bx rfl (.tmp 3) rfl _ _ _ rfl hx ?_)
      refine (HR.out _).mono ?_
      rintro e w4 ⟨rfl, hb4⟩
      have hx4 := hx.below hb4
      have hbb4 := hb.trans (hb4.mono hb.size)
      have hown4 := kown_below hown hb4
      clear hx hb hb4 hown
      cases br
      · go_wp2_with (refine wpList_load_bx rfl (.tmp 3) rfl _ _ _ rfl hx4 ?_)
        refine (HL.out _).mono ?_
        rintro e w5 ⟨rfl, hb5⟩
        have hx5 := hx4.below hb5
        have hbb5 := hbb4.trans (hb5.mono hbb4.size)
        have hown5 := kown_below hown4 hb5
        clear hx4 hbb4 hb5 hown4
        cases bl
        · cases bs
          · obtain rfl : bn = false := hn
            have hc : chs st N (j + 1) = chs st N j := by first | exact hsame rfl | exact hsame trivial
            have hpe := HPF.out rfl
            go_wp2_with fail
            exact ⟨⟨j + 1, by omega, by go_num, by rw [hpe], by rw [hc]; exact hown5, hx5, hbb5⟩, by simp [intOf]; omega⟩
          · obtain rfl : bn = true := hn
            have hc : chs st N (j + 1) = chs st N j := by first | exact hsame rfl | exact hsame trivial
            have hpe := HPT.out rfl
            go_wp2_with fail
            refine ⟨⟨j + 1, by omega, by go_num, ?_, by rw [hc]; exact hown5, hx5, hbb5⟩, by simp [intOf]; omega⟩
            refine vi ?_
            rw [hpe, HQ.out]
            generalize (2 : Nat) ^ j = P at *
            omega
        · cases bs
          · obtain rfl : bn = false := hn
            have hc : chs st N (j + 1) = chs st N j := by first | exact hsame rfl | exact hsame trivial
            have hpe := HPF.out rfl
            go_wp2_with fail
            exact ⟨⟨j + 1, by omega, by go_num, by rw [hpe], by rw [hc]; exact hown5, hx5, hbb5⟩, by simp [intOf]; omega⟩
          · obtain rfl : bn = false := hn
            have hd : chs st N (j + 1) = chs st N j ++ [⟨j, false⟩] := by first | exact hdiff (by decide) | exact hdiff trivial | exact hdiff (by simp)
            have hpe := HPF.out rfl
            go_wp2_with (at_builtin; (refine wpList_append_k _ rfl (.tmp 62) (.tmp 66) rfl w.heap.size _ (chs st N j) rfl (World.ownsRow.alloc hown5 _) [⟨j, false⟩] ⟨w5.heap.size, 0, none⟩ 1 1 rfl rfl (KsAt.one (cell_of_row _ _ 0 _ _ _ (heap_alloc_new w5 _)) (cell_of_row _ _ 1 _ _ _ (heap_alloc_new w5 _))) (by have := HLEN.out; simp; omega) (by have := hbb5.size; simp; omega) ?_); intro v8 w8 hown8 hg8 hv8)
            have hbl8 : Below w.heap.size w w8 := (hbb5.alloc hbb5.size _).grown hg8 (by have := hbb5.size; simp; omega) (fun k hk => (KOwn.blk hown5 hk).1)
            have hx8 : Bx w8 w.heap.size s (.slice A n cp) := (hx5.alloc _).kept hg8 (fun e => by obtain ⟨_, c', z', hk⟩ := KOwn.blk hown5 e.symm; have hq := hx5; unfold Bx at hq; rw [hk] at hq; injection hq with hq; injection hq with _ hq; revert hq; decide)
            exact ⟨⟨j + 1, by omega, by go_num, by rw [hpe], by rw [hd]; exact hown8, hx8, hbl8⟩, by simp [intOf]; omega⟩
      · obtain rfl : bn = true := hn
        cases bs
        · skip
          have hd : chs st N (j + 1) = chs st N j ++ [⟨j, true⟩] := by first | exact hdiff (by decide) | exact hdiff trivial | exact hdiff (by simp)
          have hpe := HPT.out rfl
          go_wp2_with (at_builtin; (refine wpList_append_k _ rfl (.tmp 62) (.tmp 66) rfl w.heap.size _ (chs st N j) rfl (World.ownsRow.alloc hown4 _) [⟨j, true⟩] ⟨w4.heap.size, 0, none⟩ 1 1 rfl rfl (KsAt.one (cell_of_row _ _ 0 _ _ _ (heap_alloc_new w4 _)) (cell_of_row _ _ 1 _ _ _ (heap_alloc_new w4 _))) (by have := HLEN.out; simp; omega) (by have := hbb4.size; simp; omega) ?_); intro v8 w8 hown8 hg8 hv8)
          have hbl8 : Below w.heap.size w w8 := (hbb4.alloc hbb4.size _).grown hg8 (by have := hbb4.size; simp; omega) (fun k hk => (KOwn.blk hown4 hk).1)
          have hx8 : Bx w8 w.heap.size s (.slice A n cp) := (hx4.alloc _).kept hg8 (fun e => by obtain ⟨_, c', z', hk⟩ := KOwn.blk hown4 e.symm; have hq := hx4; unfold Bx at hq; rw [hk] at hq; injection hq with hq; injection hq with _ hq; revert hq; decide)
          refine ⟨⟨j + 1, by omega, by go_num, ?_, by rw [hd]; exact hown8, hx8, hbl8⟩, by simp [intOf]; omega⟩
          refine vi ?_
          rw [hpe, HQ.out]
          generalize (2 : Nat) ^ j = P at *
          omega
        · skip
          have hc : chs st N (j + 1) = chs st N j := by first | exact hsame rfl | exact hsame trivial
          have hpe := HPT.out rfl
          go_wp2_with fail
          refine ⟨⟨j + 1, by omega, by go_num, ?_, by rw [hc]; exact hown4, hx4, hbb4⟩, by simp [intOf]; omega⟩
          refine vi ?_
          rw [hpe, HQ.out]
          generalize (2 : Nat) ^ j = P at *
          omega
    · obtain rfl : j = 6 := by omega
      go_wp2_with fail
      go_ret3
      exact ⟨hb, _, by rw [← HNN.out, HFIN.out.symm]; rfl, by rw [← HNN.out]; exact hown⟩
end Go.Proofs.Ytcnkiecdagjgmaa.Ya
