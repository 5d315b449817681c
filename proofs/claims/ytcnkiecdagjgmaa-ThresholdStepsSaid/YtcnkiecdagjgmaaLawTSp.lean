/- ThresholdSteps holds for every input: the next state of any sensor, and its changes, are those of the document. No condition. -/
import Derived.Test.YtcnkiecdagjgmaaYs
import Derived.Test.YtcnkiecdagjgmaaLaw2
import Derived.Test.YtcnkiecdagjgmaaLaw4
namespace Go.Proofs.Ytcnkiecdagjgmaa.thresholdSteps
open Go.RowKit Go.ChangeShapes Go.WideShapes Go.ChangeAt Go.Proofs.Ytcnkiecdagjgmaa.Mem Go.Proofs.Ytcnkiecdagjgmaa.F2p Go.Proofs.Ytcnkiecdagjgmaa.C4l Go.Proofs.Ytcnkiecdagjgmaa.Ta Go.Proofs.Ytcnkiecdagjgmaa.Tb Go.Proofs.Ytcnkiecdagjgmaa.Law Go.Proofs.Ytcnkiecdagjgmaa.Made Go.Proofs.Ytcnkiecdagjgmaa.D5 Go.Proofs.Ytcnkiecdagjgmaa.Tl Go.Proofs.Ytcnkiecdagjgmaa.Ya
set_option maxRecDepth 100000
set_option maxHeartbeats 4000000

theorem walk (s0 : Sn) (SA : Option Addr) (sn sc : Nat) (hnm0 : s0.nm.size ≤ maxLen) (_hfit0 : s0.Fit) (A : Option Addr) (n c : Nat) (l : List Int) (hn : n = l.length) (hw : ∀ x ∈ l, -9223372036854775808 ≤ x ∧ x ≤ 9223372036854775807) (hc : n ≤ c) (hm : c ≤ maxLen) (_hA : A = none → c = 0)
    (st : Int) (hst : 0 ≤ st ∧ st ≤ 255) (raw : Int) (hraw : 0 ≤ raw ∧ raw ≤ 255) (w : World) (hsl : PSl w SA sn sc s0.c.p) (hr : IRow w.heap.size w A l) :
    Calls Try.prog 3 #[.agg (cells s0 (.slice SA sn sc)), .slice A n c, .int .u8 st, .int .u8 raw] w fun e w' => e = .returned (.bool true) ∧ Below w.heap.size w w' := by
  have hnm : n ≤ maxLen := by omega
  have hsnm : sn ≤ maxLen := Nat.le_trans hsl.cap hsl.max
  obtain ⟨st, rfl⟩ := Int.eq_ofNat_of_zero_le hst.1
  have hst8 : st < 256 := by omega
  obtain ⟨raw, rfl⟩ : ∃ x : UInt8, raw = (x.toNat : Int) := by
    obtain ⟨k, rfl⟩ := Int.eq_ofNat_of_zero_le hraw.1
    exact Tl.u8_int k (by omega)
  have HN := Lib.hid hn
  have HW := Lib.hid hw
  have HSL := Lib.hid hsl
  clear hn hw hc hm _hA hst hraw _hfit0 hsl
  have haw := Lib.hid (fun u => awake_q u)
  have hb0 : Below w.heap.size w (w.alloc (.cells (cells s0 (.slice SA sn sc)) 32)) := (Below.refl _ _).alloc (Nat.le_refl _) _
  have hx0 : Bx (w.alloc (.cells (cells s0 (.slice SA sn sc)) 32)) w.heap.size s0 (.slice SA sn sc) := heap_alloc_new w _
  have c3 : (w.alloc (.cells (cells s0 (.slice SA sn sc)) 32)).cell? ⟨w.heap.size, 3, none⟩ = some (.string s0.nm) := hx0.c 3
  have c13 : (w.alloc (.cells (cells s0 (.slice SA sn sc)) 32)).cell? ⟨w.heap.size, 13, none⟩ = some (.slice SA sn sc) := hx0.c 13
  have hsz0 : w.heap.size < (w.alloc (.cells (cells s0 (.slice SA sn sc)) 32)).heap.size := by rw [World.size_alloc]; omega
  go_enter Try.func3, Try.ntmps3
  have hmn : s0.nm.size ≤ 2 ^ 63 - 1 := by unfold maxLen at hnm0; omega
  by_cases h100 : s0.nm.size ≤ 100
  case neg =>
    have d1 : decide (100 < (s0.nm.size : Int)) = true := decide_eq_true (by omega)
    go_wp2_with fail
    refine (haw.out _).mono ?_
    rintro e w3 ⟨rfl, hb3⟩
    go_wp2_with fail
    go_ret
    exact ⟨rfl, hb0.trans (hb3.mono hb0.size)⟩
  have d1 : decide (100 < (s0.nm.size : Int)) = false := decide_eq_false (by omega)
  by_cases h40 : sn ≤ 40
  case neg =>
    have d2 : decide (40 < (sn : Int)) = true := decide_eq_true (by omega)
    go_wp2_with fail
    refine (haw.out _).mono ?_
    rintro e w3 ⟨rfl, hb3⟩
    go_wp2_with fail
    go_ret
    exact ⟨rfl, hb0.trans (hb3.mono hb0.size)⟩
  have d2 : decide (40 < (sn : Int)) = false := decide_eq_false (by omega)
  by_cases h6 : n ≤ 600
  case neg =>
    have d6 : decide (n ≤ 600) = false := decide_eq_false h6
    go_wp2_with fail
    refine (Made.lightmade_any A n c _ hnm).mono ?_
    rintro e w' ⟨rfl, rfl⟩
    rw [d6]
    go_wp2_with fail
    refine (haw.out _).mono ?_
    rintro e w3 ⟨rfl, hb3⟩
    go_wp2_with fail
    go_ret
    exact ⟨rfl, hb0.trans (hb3.mono hb0.size)⟩
  have d6 : decide (n ≤ 600) = true := decide_eq_true h6
  go_wp2_with fail
  generalize w.alloc (.cells (cells s0 (.slice SA sn sc)) 32) = w0 at *
  refine (Made.lightmade_any A n c _ hnm).mono ?_
  rintro e w' ⟨rfl, rfl⟩
  rw [d6]
  clear c3 c13
  go_wp2_with fail
  refine (Made.roll_any A n c w0).mono ?_
  rintro e w1 ⟨rfl, rfl⟩
  have hdz := Dz.start A n c l w0 ((hr.below hb0).more hb0.size) HN.out HW.out (by omega)
  have hx1 := hx0.alloc (.cells #[.slice A n c, .int .i64 0] 104)
  have hb1 := hb0.alloc hb0.size (.cells #[.slice A n c, .int .i64 0] 104)
  have hs1 : w0.heap.size < (w0.alloc (.cells #[.slice A n c, .int .i64 0] 104)).heap.size := by rw [World.size_alloc]; omega
  generalize w0.alloc (.cells #[.slice A n c, .int .i64 0] 104) = w1 at *
  clear hx0
  go_wp2_with fail
  refine (analog_any 1 hdz).mono ?_
  rintro e w2 ⟨s, V, rfl, hv, -, -, hd, hown, hdz2, hg2⟩
  obtain ⟨PA, pn, pc, rfl, -⟩ := hown.sl
  have hnms := name_le hv
  have hx2 := hx1.kept hg2 (fun e => by injection e; omega)
  have hb2 : Below w.heap.size w w2 := hb1.grown hg2 hb1.size (fun k hk => by injection hk; have := hb0.size; omega)
  have hz := Bx.zero w2
  have hba := (Below.refl w2.heap.size w2).alloc (Nat.le_refl _) (.cells #[.int .u8 0, .int .u8 0, .int .u8 0, .string ⟨#[]⟩, .int .u8 0, .int .u8 0, .bool false, .int .i64 0, .bool false, .int .i64 0, .int .i64 0, .int .i64 0, .int .i64 0, .slice none 0 0, .int .u8 0, .int .u8 0, .int .u8 0, .int .u8 0, .int .u8 0, .int .u8 0, .int .u8 0, .int .u8 0, .int .u8 0, .int .u16 0, .int .u16 0, .int .u16 0, .bool false, .int .i64 0] 32)
  have hx3 := hx2.alloc (.cells #[.int .u8 0, .int .u8 0, .int .u8 0, .string ⟨#[]⟩, .int .u8 0, .int .u8 0, .bool false, .int .i64 0, .bool false, .int .i64 0, .int .i64 0, .int .i64 0, .int .i64 0, .slice none 0 0, .int .u8 0, .int .u8 0, .int .u8 0, .int .u8 0, .int .u8 0, .int .u8 0, .int .u8 0, .int .u8 0, .int .u8 0, .int .u16 0, .int .u16 0, .int .u16 0, .bool false, .int .i64 0] 32)
  have hlt2 := hdz2.lt
  have hsw : w.heap.size < w2.heap.size := hx2.lt
  clear hv hd hg2 hb1 hdz hx1 hx2
  go_wp2_with (refine wpList_store_bx rfl (.tmp 10) (.tmp 48) rfl w2.heap.size s noSn (.slice PA pn pc) (.slice none 0 0) rfl rfl rfl hz ?_; intro w3 hy3 hg3; refine Hid.out ?_)
  refine Lib.hid ?_
  have hx3 := hx3.kept hg3 (fun e => by injection e; omega)
  have hown3 := Tl.pown_far (World.ownsRow.alloc hown _) hz hg3
  have hba := hba.grown hg3 hba.size (fun k hk => by injection hk; omega)
  have hdz3 := hdz2.below hba hlt2
  have hb3 := hb2.trans (hba.mono hb2.size)
  clear hba hg3 hz hdz2 hb2 hown
  go_wp2_with (refine wpList_load_bx rfl (.tmp 10) rfl _ _ _ rfl hy3 ?_)
  refine (near_q s (.slice PA pn pc) hdz3).mono ?_
  rintro e w4 ⟨X, rfl, hdz4, hg4⟩
  have hx4 := hx3.kept hg4 (fun e => by injection e; omega)
  have hy4 := hy3.kept hg4 (fun e => by injection e; omega)
  have hown4 := D5.pown_kept hown3 hg4 hs1
  have hb4 := hb3.grown hg4 hb3.size (fun k hk => by injection hk; have := hb0.size; omega)
  clear hx3 hy3 hown3 hb3 hg4 hdz3
  go_wp2_with fail
  have hx5 : Bx w4.drew w.heap.size s0 (.slice SA sn sc) := hx4
  have hy5 : Bx w4.drew w2.heap.size s (.slice PA pn pc) := hy4
  have hdz5 := dz_drew hdz4
  have hown5 : POwn w1.heap.size w4.drew (.slice PA pn pc) s.c.p := hown4
  have hb5 := below_drew hb4
  clear hx4 hy4 hdz4 hown4 hb4
  refine wp_region_held_drew (S := (fun W => Bx W w.heap.size s0 (.slice SA sn sc) ∧ Bx W w2.heap.size s (.slice PA pn pc))) (by kernel_rfl) ?_ (fun hHeld => ?_)
  · (try dsimp only); exact ⟨hx5, hy5⟩
  refine wpAnyH_take (i := 0) (oi := _) (v := ?vq1_0) rfl (by kernel_rfl) (by kernel_rfl) (by kernel_rfl) (fun _ _ _ h => h) (Or.inl ⟨rfl, ?yq1_0⟩) (by assumption) ?_
  case yq1_0 => intro w hSw; (try dsimp only at hSw); ((refine exec_load_bx2 (.tmp 4) ?_ ?_ hSw.1) <;> rfl)
  (try simp only [Act.put, List.getElem_toArray, List.getElem_cons_zero, List.setIfInBounds_toArray, List.set_cons_zero, List.set_cons_succ])
  refine wpAnyH_take (i := 1) (oi := _) (v := ?vq2_1) rfl (by kernel_rfl) (by kernel_rfl) (by kernel_rfl) (fun _ _ _ h => h) (Or.inl ⟨rfl, ?yq2_1⟩) (by assumption) ?_
  case yq2_1 => intro w hSw; (try dsimp only at hSw); ((refine exec_load_bx2 (.tmp 10) ?_ ?_ hSw.2) <;> rfl)
  (try simp only [Act.put, List.getElem_toArray, List.getElem_cons_succ, List.getElem_cons_zero, List.setIfInBounds_toArray, List.set_cons_zero, List.set_cons_succ])
  refine wpAnyH_take (i := 2) (oi := _) (v := ?vq3_2) rfl (by kernel_rfl) (by kernel_rfl) (by kernel_rfl) (fun _ _ _ h => h) (Or.inl ⟨rfl, ?yq3_2⟩) (by assumption) ?_
  case yq3_2 => intro w hSw; (try dsimp only at hSw); go_simp; (try with_reducible rfl)
  (try simp only [Act.put, List.getElem_toArray, List.getElem_cons_succ, List.getElem_cons_zero, List.setIfInBounds_toArray, List.set_cons_zero, List.set_cons_succ])
  refine wpAnyH_take (i := 6) (oi := _) (v := ?vq4_6) rfl (by kernel_rfl) (by kernel_rfl) (by kernel_rfl) (fun _ _ _ h => h) (Or.inl ⟨rfl, ?yq4_6⟩) (by assumption) ?_
  case yq4_6 => intro w hSw; (try dsimp only at hSw); go_simp; (try with_reducible rfl)
  (try simp only [Act.put, List.getElem_toArray, List.getElem_cons_succ, List.getElem_cons_zero, List.setIfInBounds_toArray, List.set_cons_zero, List.set_cons_succ])
  refine wpAnyH_ready (rs := [3]) (by kernel_rfl) (by simp) ?_
  refine AllReadyH.cons (o := _) rfl (fun K hK => ?_) AllReadyH.nil
  go_simp
  go_at_call 20; refine (Tl.oddsensor_any hdz5).mono ?_; rintro e u ⟨so, VO, rfl, hnmo, howno, -, hgu⟩
  refine hK.out _ _ ?_ (fun hHeld => ?_)
  · (try dsimp only); exact ⟨hx5.kept hgu (fun e => by injection e; omega), hy5.kept hgu (fun e => by injection e; omega)⟩
  clear hK K
  (try simp only [Act.put, List.getElem_toArray, List.getElem_cons_succ, List.getElem_cons_zero, List.setIfInBounds_toArray, List.set_cons_zero, List.set_cons_succ])
  obtain ⟨OA, on, oc, rfl, hpo⟩ := howno.sl
  refine wpAnyH_ready (rs := [4]) (by kernel_rfl) (by simp) ?_
  refine AllReadyH.cons (o := _) rfl (fun K hK => ?_) AllReadyH.nil
  refine step_build3 rfl (.tmp 52) (.tmp 53) (.tmp 55) rfl s0 s so (.slice SA sn sc) (.slice PA pn pc) (.slice OA on oc) rfl rfl rfl ?_
  refine hK.out _ _ ?_ (fun hHeld => ?_)
  · (try dsimp only); exact ⟨(hx5.kept hgu (fun e => by injection e; omega)).alloc _, (hy5.kept hgu (fun e => by injection e; omega)).alloc _⟩
  clear hK K
  (try simp only [Act.put, List.getElem_toArray, List.getElem_cons_succ, List.getElem_cons_zero, List.setIfInBounds_toArray, List.set_cons_zero, List.set_cons_succ])
  refine wpAnyH_take (i := 5) (oi := _) (v := ?vq5_5) rfl (by kernel_rfl) (by kernel_rfl) (by kernel_rfl) (fun _ _ _ h => h) (Or.inl ⟨rfl, ?yq5_5⟩) (by assumption) ?_
  case yq5_5 => intro w hSw; (try dsimp only at hSw); go_simp; (try with_reducible rfl)
  (try simp only [Act.put, List.getElem_toArray, List.getElem_cons_succ, List.getElem_cons_zero, List.setIfInBounds_toArray, List.set_cons_zero, List.set_cons_succ])
  refine wpAnyH_done (by kernel_rfl) ?_ _
  have hbu := hb5.grown hgu hb5.size (fun k hk => by injection hk; have := hb0.size; omega)
  have hbB := hbu.alloc hbu.size (.cells (cells s0 (.slice SA sn sc) ++ cells s (.slice PA pn pc) ++ cells so (.slice OA on oc)) 32)
  have hrow : (u.alloc (.cells (cells s0 (.slice SA sn sc) ++ cells s (.slice PA pn pc) ++ cells so (.slice OA on oc)) 32)).heap[u.heap.size]? = some (.cells (cells s0 (.slice SA sn sc) ++ cells s (.slice PA pn pc) ++ cells so (.slice OA on oc)) 32 (0, 0)) := heap_alloc_new u _
  have p0 := HSL.out.step hbB
  have p1 : PSl (u.alloc (.cells (cells s0 (.slice SA sn sc) ++ cells s (.slice PA pn pc) ++ cells so (.slice OA on oc)) 32)) PA pn pc s.c.p := psl_own (World.ownsRow.alloc (D5.pown_kept hown5 hgu hs1) _)
  have p2 : PSl (u.alloc (.cells (cells s0 (.slice SA sn sc) ++ cells s (.slice PA pn pc) ++ cells so (.slice OA on oc)) 32)) OA on oc so.c.p := psl_own (World.ownsRow.alloc howno _)
  have HREC := Lib.hid (rec_at hrow p0 p1 p2 hnm0 hnms (by unfold maxLen; omega))
  clear p0 p1 p2 hrow hpo howno hgu hown5 hx5 hy5 hdz5 hHeld hbu hb5
  go_wp2_with fail
  obtain ⟨gr, hgr⟩ : ∃ gr, gr = u.heap.size := ⟨_, rfl⟩
  rw [← hgr] at HREC ⊢
  clear hgr
  generalize u.alloc (.cells (cells s0 (.slice SA sn sc) ++ cells s (.slice PA pn pc) ++ cells so (.slice OA on oc)) 32) = wB at *
  go_loopw [58] (fun i wr => ∃ k : Nat, k ≤ 3 ∧ i = .int .i64 (k : Int) ∧ Below wB.heap.size wB wr) (fun i _ => 3 - (intOf i).toNat)
  case atStart => exact ⟨0, by omega, rfl, Below.refl _ _⟩
  case round =>
    obtain ⟨k, hk, rfl, hbr⟩ := hrel
    by_cases hk3 : k < 3
    · obtain ⟨x, XA, xn, xc, hrg, hpx, hmx⟩ := HREC.out wr hbr k hk3
      have hzb := Bx.zero wr
      have hba := (Below.refl wr.heap.size wr).alloc (Nat.le_refl _) (.cells #[.int .u8 0, .int .u8 0, .int .u8 0, .string ⟨#[]⟩, .int .u8 0, .int .u8 0, .bool false, .int .i64 0, .bool false, .int .i64 0, .int .i64 0, .int .i64 0, .int .i64 0, .slice none 0 0, .int .u8 0, .int .u8 0, .int .u8 0, .int .u8 0, .int .u8 0, .int .u8 0, .int .u8 0, .int .u8 0, .int .u8 0, .int .u16 0, .int .u16 0, .int .u16 0, .bool false, .int .i64 0] 32)
      go_wp2_with (first
        | (refine wpList_load_mid rfl _ (.tmp 60) rfl gr (k * 28) (by simp [Act.eval]) (cells x (.slice XA xn xc)).toList _ hrg Try.underlying32 rfl (by kernel_rfl) ?_)
        | (refine wpList_store_bx rfl (.tmp 13) (.tmp 61) rfl wr.heap.size x noSn (.slice XA xn xc) (.slice none 0 0) rfl rfl rfl hzb ?_; intro w6 hx6 hg6; refine Hid.out ?_))
      refine Lib.hid ?_
      have HPX := Lib.hid hpx
      have hsm := and_u8 st x.mx.toNat hst8 (by have := x.mx.toNat_lt; omega)
      have hsl8 : st &&& x.mx.toNat < 256 := Nat.and_lt_two_pow (n := 8) _ (by have := x.mx.toNat_lt; omega)
      have c14 : w6.cell? ⟨wr.heap.size, 14, none⟩ = some (.int .u8 (x.mx.toNat : Int)) := hx6.c 14
      have hb6 := hba.grown hg6 hba.size (fun k hk => by injection hk; omega)
      clear hba hg6 hzb hrg
      obtain ⟨SM, hSM⟩ : ∃ SM, SM = st &&& x.mx.toNat := ⟨_, rfl⟩
      rw [← hSM] at hsm hsl8
      clear hSM
      have hrow2 : (w6.alloc (.cells #[.int .u8 (st : Int), .int .u8 (SM : Int)] 5)).heap[w6.heap.size]? = some (.cells #[.int .u8 (st : Int), .int .u8 (SM : Int)] 5 (0, 0)) := heap_alloc_new w6 _
      have hb7 := hb6.alloc hb6.size (.cells #[.int .u8 (st : Int), .int .u8 (SM : Int)] 5)
      have hx7 := hx6.alloc (.cells #[.int .u8 (st : Int), .int .u8 (SM : Int)] 5)
      go_wp2_with fail
      clear c14 hsm hx6 hb6
      obtain ⟨g2, hg2e⟩ : ∃ g2, g2 = w6.heap.size := ⟨_, rfl⟩
      rw [← hg2e] at hrow2 ⊢
      clear hg2e
      generalize w6.alloc (.cells #[.int .u8 (st : Int), .int .u8 (SM : Int)] 5) = w7 at *
      obtain ⟨F, hF⟩ : ∃ F, F = wr.heap.size := ⟨_, rfl⟩
      rw [← hF] at hx7 ⊢
      have hbB7 := hbr.trans (hb7.mono hbr.size)
      have hpx7 := hpx.step hb7
      clear hF hb7 hbr
      have HR2 := Lib.hid hrow2
      have HX7 := Lib.hid hx7
      clear hrow2 hx7
      go_loopw [70] (fun i wq => ∃ j : Nat, j ≤ 2 ∧ i = .int .i64 (j : Int) ∧ Below w7.heap.size w7 wq) (fun i _ => 2 - (intOf i).toNat)
      case atStart => exact ⟨0, by omega, rfl, Below.refl _ _⟩
      case round =>
        obtain ⟨j, hj, rfl, hbq⟩ := hrel
        by_cases hj2 : j < 2
        · have hrw := (hbq.block g2 (lt_of_some HR2.out)).trans HR2.out
          obtain ⟨Y, hY8, cY⟩ : ∃ Y : Nat, Y < 256 ∧ wr.cell? ⟨g2, j, none⟩ = some (.int .u8 (Y : Int)) := by
            rcases (show j = 0 ∨ j = 1 by omega) with rfl | rfl
            · exact ⟨st, hst8, cell_of_row wr g2 0 _ _ _ hrw⟩
            · exact ⟨SM, hsl8, cell_of_row wr g2 1 _ _ _ hrw⟩
          have b1 : (0 : Int) ≤ (j : Int) := by omega
          have b2 : (j : Int) < 2 := by omega
          clear hrw
          have hrow3 : (wr.alloc (.cells #[.int .u8 (raw.toNat : Int), .int .u8 (X.toNat : Int)] 5)).heap[wr.heap.size]? = some (.cells #[.int .u8 (raw.toNat : Int), .int .u8 (X.toNat : Int)] 5 (0, 0)) := heap_alloc_new wr _
          have hb8 := hbq.alloc hbq.size (.cells #[.int .u8 (raw.toNat : Int), .int .u8 (X.toNat : Int)] 5)
          have hx8 := (HX7.out.below hbq).alloc (.cells #[.int .u8 (raw.toNat : Int), .int .u8 (X.toNat : Int)] 5)
          have hp8 := hpx7.step hb8
          go_wp2_with fail
          clear cY b1 b2
          obtain ⟨g3, hg3e⟩ : ∃ g3, g3 = wr.heap.size := ⟨_, rfl⟩
          rw [← hg3e] at hrow3 ⊢
          clear hg3e
          generalize wr.alloc (.cells #[.int .u8 (raw.toNat : Int), .int .u8 (X.toNat : Int)] 5) = w8 at *
          have HR3 := Lib.hid hrow3
          have HX8 := Lib.hid hx8
          have HP8 := Lib.hid hp8
          have HB8 := Lib.hid hb8
          clear hrow3 hx8 hp8 hb8 hbq
          go_loopw [78] (fun i wq => ∃ m : Nat, m ≤ 2 ∧ i = .int .i64 (m : Int) ∧ Below w8.heap.size w8 wq) (fun i _ => 2 - (intOf i).toNat)
          case atStart => exact ⟨0, by omega, rfl, Below.refl _ _⟩
          case round =>
            obtain ⟨m, hm, rfl, hbz⟩ := hrel
            by_cases hm2 : m < 2
            · have hrw := (hbz.block g3 (lt_of_some HR3.out)).trans HR3.out
              obtain ⟨Zr, cZ⟩ : ∃ Zr : UInt8, wr.cell? ⟨g3, m, none⟩ = some (.int .u8 (Zr.toNat : Int)) := by
                rcases (show m = 0 ∨ m = 1 by omega) with rfl | rfl
                · exact ⟨raw, cell_of_row wr g3 0 _ _ _ hrw⟩
                · exact ⟨X, cell_of_row wr g3 1 _ _ _ hrw⟩
              have b1 : (0 : Int) ≤ (m : Int) := by omega
              have b2 : (m : Int) < 2 := by omega
              have hx9 := HX8.out.below hbz
              have hp9 := HP8.out.step hbz
              have HS := Lib.hid fun (u : World) (hu : PSl u XA xn xc x.c.p) => (step_q x XA xn xc Y hY8 Zr u hu hmx).mono fun _ _ h => step_out h
              have HSR := Lib.hid fun (u : World) (hu : PSl u XA xn xc x.c.p) => (step_r x XA xn xc Y hY8 Zr u hu hmx).mono fun _ _ h => step_out h
              have HRE := Lib.hid fun (u : World) (hu : PSl u XA xn xc x.c.p) => (reached_q x XA xn xc Zr u hu hmx).mono fun _ _ h => reached_out h
              have HRR := Lib.hid fun (u : World) (hu : PSl u XA xn xc x.c.p) => (reached_r x XA xn xc Zr u hu hmx).mono fun _ _ h => reached_out h
              have h3l := so3_len x Y Zr
              generalize so1 x Y Zr = P1 at *
              generalize so2 x Y = P2 at *
              generalize so3 x Y Zr = P3 at *
              generalize ro1 x Zr = R1 at *
              generalize ro2 x = R2 at *
              have e1 : (((P1 : Nat) : Int) != ((P1 : Nat) : Int)) = false := by simp
              have e2 : (P2 != P2) = false := by simp
              have e3 : (((R1 : Nat) : Int) != ((R1 : Nat) : Int)) = false := by simp
              have e4 : (R2 != R2) = false := by simp
              clear hrw
              go_wp2_with (refine wpList_load_bx rfl (.tmp 13) rfl _ _ _ rfl hx9 ?_)
              refine (HS.out _ hp9).mono ?_
              rintro e u1 ⟨A1, n1, c1, rfl, k1, hu1⟩
              have hx1 := hx9.below hu1
              have hp1 := hp9.step hu1
              have hbz1 := hbz.trans (hu1.mono hbz.size)
              clear hx9 hp9 hu1 cZ b1 b2 hbz
              go_wp2_with (refine wpList_load_bx rfl (.tmp 13) rfl _ _ _ rfl hx1 ?_)
              refine (HSR.out _ hp1).mono ?_
              rintro e u2 ⟨A2, n2, c2, rfl, k2, hu2⟩
              have hx2 := hx1.below hu2
              have hp2 := hp1.step hu2
              have k12 := k1.step hu2
              have hbz2 := hbz1.trans (hu2.mono hbz1.size)
              clear hx1 hp1 hu2 k1 hbz1
              go_wp2_with (refine wpList_load_bx rfl (.tmp 13) rfl _ _ _ rfl hx2 ?_)
              refine (HRE.out _ hp2).mono ?_
              rintro e u3 ⟨rfl, hu3⟩
              have hx3 := hx2.below hu3
              have hp3 := hp2.step hu3
              have k13 := k12.step hu3
              have k23 := k2.step hu3
              have hbz3 := hbz2.trans (hu3.mono hbz2.size)
              clear hx2 hp2 hu3 k12 k2 hbz2
              go_wp2_with (refine wpList_load_bx rfl (.tmp 13) rfl _ _ _ rfl hx3 ?_)
              refine (HRR.out _ hp3).mono ?_
              rintro e u4 ⟨rfl, hu4⟩
              have k14 := k13.step hu4
              have k24 := k23.step hu4
              have hbz4 := hbz3.trans (hu4.mono hbz3.size)
              have HSM := Lib.hid (same_chs k14 k24 (by rw [k14.len]; omega))
              clear hx3 hp3 hu4 k13 k23 hbz3 k14 k24
              go_wp2_with fail
              refine HSM.out.mono ?_
              rintro e u5 ⟨rfl, hu5⟩
              have hbz5 := hbz4.trans (hu5.mono hbz4.size)
              clear hbz4 hu5 HSM
              go_wp2_with fail
              exact ⟨⟨m + 1, by omega, by go_num, hbz5⟩, by simp [intOf]; omega⟩
            · obtain rfl : m = 2 := by omega
              have hb10 := HB8.out.trans (hbz.mono HB8.out.size)
              go_wp2_with fail
              exact ⟨⟨j + 1, by omega, by go_num, hb10⟩, by simp [intOf]; omega⟩
        · obtain rfl : j = 2 := by omega
          go_wp2_with fail
          exact ⟨⟨k + 1, by omega, by go_num, hbB7.trans (hbq.mono hbB7.size)⟩, by simp [intOf]; omega⟩
    · obtain rfl : k = 3 := by omega
      go_wp2_with fail
      refine (sev_q st hst8 _).mono ?_
      rintro e w9 ⟨rfl, rfl⟩
      go_wp2_with fail
      refine (sev_r st hst8 _).mono ?_
      rintro e w9 ⟨rfl, rfl⟩
      go_wp2_with fail
      refine (haw.out _).mono ?_
      rintro e w9 ⟨rfl, hb9⟩
      go_wp2_with fail
      go_ret
      exact ⟨rfl, (hbB.trans (hbr.mono hbB.size)).trans (hb9.mono (Nat.le_trans hbB.size hbr.size))⟩

theorem cells_u8 : Try.prog.cellsOf 5 = 1 := by kernel_rfl
theorem cells_int : Try.prog.cellsOf 3 = 1 := by kernel_rfl
theorem own : ownKnob Try.prog.godebug = none := by kernel_rfl
theorem laidOut : laidOutB Try.prog = true := by kernel_rfl
theorem contract (H : Type) (enc : TypeId × Value → H) (W : World) (base : Nat) (args : Array Value) (ds gs : List (DataW H)) (before : List MemPlace)
    (hval : ∀ (j : Nat) t v, Try.f3.params[j]? = some t → args[j]? = some v → Value.okWide Try.prog W .any base t v)
    (hW : DataW.Whole enc Try.prog Try.f3.params.toList Rows.thresholdStepsSpec.vars false W args.toList ds gs before) :
    Calls Try.prog 3 args W fun e W' => ∃ v, e = .returned v ∧ Rows.thresholdStepsSpec.post enc Try.prog Try.f3 false true false false W args v W' := by
  have hW' := hW
  obtain ⟨p, q, hA0, hV, rfl, hfz, hnd⟩ := hW
  have hA : DataW.TrodAll enc Try.prog W 0 (fun _ => true) true Try.f3.params.toList args.toList ds p := hA0
  rw [Try.params3] at hA hval
  obtain ⟨v0, vs0, d0, ds0, p0, q0, hargs, rfl, rfl, h0, r0⟩ := trodAll_cons hA
  obtain ⟨v1, vs1, d1, ds1, p1, q1, rfl, rfl, rfl, h1, r1⟩ := trodAll_cons r0
  obtain ⟨v2, vs2, d2, ds2, p2, q2, rfl, rfl, rfl, h2, r2⟩ := trodAll_cons r1
  obtain ⟨v3, vs3, d3, ds3, p3, q3, rfl, rfl, rfl, h3, r3⟩ := trodAll_cons r2
  obtain ⟨rfl, rfl, rfl⟩ := trodAll_nil r3
  obtain rfl : args = #[v0, v1, v2, v3] := by cases args; simp_all
  obtain ⟨s0, A0, n0, c0, rfl, hr0, hf0, hg0⟩ := open_sensor Try.underlying32 (by kernel_rfl) ⟨rfl, rfl, rfl, rfl, rfl, rfl, rfl, rfl, rfl, rfl, rfl, rfl, rfl, rfl, rfl⟩ ⟨by kernel_rfl, by kernel_rfl, by kernel_rfl, by kernel_rfl, by kernel_rfl, by kernel_rfl, by kernel_rfl, by kernel_rfl, by kernel_rfl, by kernel_rfl, by kernel_rfl, by kernel_rfl, by kernel_rfl, by kernel_rfl, by kernel_rfl⟩ Try.underlying5 Try.underlying5 Try.underlying5 Try.underlying9 (fun h => trod_ent Try.underlying23 (by kernel_rfl) ⟨rfl, rfl⟩ ⟨by kernel_rfl, by kernel_rfl⟩ Try.underlying5 Try.underlying5 h) Try.underlying4 (fun h => trod_conv Try.underlying26 (by kernel_rfl) ⟨rfl, rfl, rfl, rfl, rfl, rfl, rfl⟩ ⟨by kernel_rfl, by kernel_rfl, by kernel_rfl, by kernel_rfl, by kernel_rfl, by kernel_rfl, by kernel_rfl⟩ Try.underlying3 Try.underlying4 Try.underlying3 Try.underlying3 Try.underlying3 Try.underlying3 Try.underlying24 Try.underlying143 (by kernel_rfl) rfl rfl (by kernel_rfl) (by kernel_rfl) Try.underlying5 Try.underlying3 h) (fun h => trod_lim Try.underlying29 (by kernel_rfl) ⟨rfl, rfl⟩ ⟨by kernel_rfl, by kernel_rfl⟩ Try.underlying5 Try.underlying27 (by kernel_rfl) Try.underlying5 h) Try.underlying5 Try.underlying5 Try.underlying30 Try.underlying30 Try.underlying30 Try.underlying4 Try.underlying3 (hval 0 32 v0 rfl rfl) h0
  obtain ⟨A1, n1, c1, l1, rfl, hn1, hr1, hw1, hc1, hm1, hk1⟩ := open_int_list Try.underlying33 Try.underlying3 cells_int (hval 1 33 v1 rfl rfl) h1
  obtain ⟨a2, rfl, -, -, w2⟩ := open_int Try.underlying5 (hval 2 5 v2 rfl rfl) h2
  obtain ⟨a3, rfl, -, -, w3⟩ := open_int Try.underlying5 (hval 3 5 v3 rfl rfl) h3
  clear hA0
  refine (walk s0 A0 n0 c0 hf0 hg0 A1 n1 c1 l1 hn1 hw1 hc1 hm1 hk1 a2 (bounds_u8 w2) a3 (bounds_u8 w3) W hr0 hr1).mono fun e W' ⟨he, hb⟩ => ?_
  subst he
  exact ⟨_, rfl, law_post laidOut (types_fit (by kernel_rfl)) (by kernel_rfl) Try.underlying4 rfl (fun xs hx => by
    match xs, hx with
    | [_, _, _, _], _ => rfl) hW' hb⟩

theorem lifted (os : Os) (started : os.Started) (H : Type) (enc : TypeId × Value → H) :
    ReturnsInHanded {} Try.checked os 3 .any (Rows.thresholdStepsSpec.pre6 enc Try.prog Try.f3 Rows.thresholdStepsRow.domain false) (Rows.thresholdStepsSpec.post enc Try.prog Try.f3 false true false false) := by
  refine returnsInHanded_of_change (C := Try.checked) own started (by kernel_rfl) Try.func3
    (ChangeSpec.witness6 (enc := enc) (C := Try.checked) false ⟨#[], #[.agg #[.int .u8 0, .int .u8 0, .int .u8 0, .string ⟨#[]⟩, .int .u8 0, .int .u8 0, .bool false, .int .i64 0, .bool false, .int .i64 0, .int .i64 0, .int .i64 0, .int .i64 0, .slice none 0 0, .int .u8 0, .int .u8 0, .int .u8 0, .int .u8 0, .int .u8 0, .int .u8 0, .int .u8 0, .int .u8 0, .int .u8 0, .int .u16 0, .int .u16 0, .int .u16 0, .bool false, .int .i64 0], .slice none 0 0, .int .u8 0, .int .u8 0], []⟩ 8 (by kernel_rfl) (by kernel_rfl) (by kernel_rfl) (by kernel_rfl)) ?_
  intro W base args ds gs before hval hW _ _
  exact contract H enc W base args ds gs before hval hW

theorem proved : Rows.ThresholdStepsSaid :=
  OpenClaim.holds_of_wide 3 Try.f3 rfl rfl rfl rfl rfl rfl rfl ⟨rfl, rfl, rfl, rfl, rfl⟩ rfl rfl rfl rfl rfl (by kernel_rfl) Try.func3 (by kernel_rfl)
    (of_decide_eq_true (by kernel_rfl)) (by unfold Func.isWrapper; first | (rw [if_pos (by decide +kernel)]; kernel_rfl) | (rw [if_neg (by decide +kernel)]; exact ⟨rfl, rfl⟩))
    (fun os started H enc _ => lifted os started H enc)
end Go.Proofs.Ytcnkiecdagjgmaa.thresholdSteps
