/- DiscreteSteps holds for every input: the next discrete state of any sensor, and its changes, are those of the document. No condition. -/
import Derived.Test.YtafoaonkjcfbaaaS55
import Derived.Test.YtafoaonkjcfbaaaS40
import Derived.Test.YtafoaonkjcfbaaaS41
import Derived.Test.YtafoaonkjcfbaaaS58
namespace Go.Proofs.Ytafoaonkjcfbaaa.discreteSteps
open Go.RowKit Go.ChangeShapes Go.WideShapes Go.ChangeAt Go.Proofs.Ytafoaonkjcfbaaa.Mem Go.Proofs.Ytafoaonkjcfbaaa.F2p Go.Proofs.Ytafoaonkjcfbaaa.C4l Go.Proofs.Ytafoaonkjcfbaaa.Ta Go.Proofs.Ytafoaonkjcfbaaa.Tb Go.Proofs.Ytafoaonkjcfbaaa.Law Go.Proofs.Ytafoaonkjcfbaaa.Made Go.Proofs.Ytafoaonkjcfbaaa.D5 Go.Proofs.Ytafoaonkjcfbaaa.Tl Go.Proofs.Ytafoaonkjcfbaaa.Ya
set_option maxRecDepth 100000
set_option maxHeartbeats 4000000

theorem walk (s0 : Sn) (SA : Option Addr) (sn sc : Nat) (hnm0 : s0.nm.size ≤ maxLen) (_hfit0 : s0.Fit) (A : Option Addr) (n c : Nat) (l : List Int) (hn : n = l.length) (hw : ∀ x ∈ l, -9223372036854775808 ≤ x ∧ x ≤ 9223372036854775807) (hc : n ≤ c) (hm : c ≤ maxLen) (_hA : A = none → c = 0)
    (st : Int) (hst : 0 ≤ st ∧ st ≤ 65535) (nx : Int) (hnx : 0 ≤ nx ∧ nx ≤ 65535) (w : World) (hsl : PSl w SA sn sc s0.c.p) (hr : IRow w.heap.size w A l) :
    Calls Try.prog 8 #[.agg (cells s0 (.slice SA sn sc)), .slice A n c, .int .u16 st, .int .u16 nx] w fun e w' => e = .returned (.bool true) ∧ Below w.heap.size w w' := by
  have hnm : n ≤ maxLen := by omega
  have hsnm : sn ≤ maxLen := Nat.le_trans hsl.cap hsl.max
  obtain ⟨st, rfl⟩ := Int.eq_ofNat_of_zero_le hst.1
  have hst8 : st < 65536 := by omega
  obtain ⟨nx, rfl⟩ := Int.eq_ofNat_of_zero_le hnx.1
  have hnx8 : nx < 65536 := by omega
  have HN := Lib.hid hn
  have HW := Lib.hid hw
  have HSL := Lib.hid hsl
  clear hn hw hc hm _hA hst hnx _hfit0 hsl
  have haw := Lib.hid (fun u => awake13 u)
  have hb0 : Below w.heap.size w (w.alloc (.cells (cells s0 (.slice SA sn sc)) 59)) := (Below.refl _ _).alloc (Nat.le_refl _) _
  have hx0 : Bx (w.alloc (.cells (cells s0 (.slice SA sn sc)) 59)) w.heap.size s0 (.slice SA sn sc) := heap_alloc_new w _
  have c3 : (w.alloc (.cells (cells s0 (.slice SA sn sc)) 59)).cell? ⟨w.heap.size, 3, none⟩ = some (.string s0.nm) := hx0.c 3
  have c13 : (w.alloc (.cells (cells s0 (.slice SA sn sc)) 59)).cell? ⟨w.heap.size, 13, none⟩ = some (.slice SA sn sc) := hx0.c 13
  have hsz0 : w.heap.size < (w.alloc (.cells (cells s0 (.slice SA sn sc)) 59)).heap.size := by rw [World.size_alloc]; omega
  go_enter Try.func8, Try.ntmps8
  have hmn : s0.nm.size ≤ 2 ^ 63 - 1 := by unfold maxLen at hnm0; omega
  by_cases h100 : s0.nm.size ≤ 100
  case neg =>
    have d1 : decide (100 < (s0.nm.size : Int)) = true := decide_eq_true (by omega)
    go_wp2_with fail
    refine (haw.out _).mono ?_
    rintro e w3 ⟨rfl, hb3⟩
    go_wp2_with fail
    go_ret
    exact ⟨rfl, hb0.trans (hb3.mono hb0.size)⟩
  have d1 : decide (100 < (s0.nm.size : Int)) = false := decide_eq_false (by omega)
  by_cases h40 : sn ≤ 40
  case neg =>
    have d2 : decide (40 < (sn : Int)) = true := decide_eq_true (by omega)
    go_wp2_with fail
    refine (haw.out _).mono ?_
    rintro e w3 ⟨rfl, hb3⟩
    go_wp2_with fail
    go_ret
    exact ⟨rfl, hb0.trans (hb3.mono hb0.size)⟩
  have d2 : decide (40 < (sn : Int)) = false := decide_eq_false (by omega)
  by_cases h6 : n ≤ 600
  case neg =>
    have d6 : decide (n ≤ 600) = false := decide_eq_false h6
    go_wp2_with fail
    refine (Made.lightmade_any A n c _ hnm).mono ?_
    rintro e w' ⟨rfl, rfl⟩
    rw [d6]
    go_wp2_with fail
    refine (haw.out _).mono ?_
    rintro e w3 ⟨rfl, hb3⟩
    go_wp2_with fail
    go_ret
    exact ⟨rfl, hb0.trans (hb3.mono hb0.size)⟩
  have d6 : decide (n ≤ 600) = true := decide_eq_true h6
  go_wp2_with fail
  generalize w.alloc (.cells (cells s0 (.slice SA sn sc)) 59) = w0 at *
  refine (Made.lightmade_any A n c _ hnm).mono ?_
  rintro e w' ⟨rfl, rfl⟩
  rw [d6]
  clear c3 c13
  go_wp2_with fail
  refine (Made.roll_any A n c w0).mono ?_
  rintro e w1 ⟨rfl, rfl⟩
  have hdz := Dz.start A n c l w0 ((hr.below hb0).more hb0.size) HN.out HW.out (by omega)
  have hx1 := hx0.alloc (.cells #[.slice A n c, .int .i64 0] 105)
  have hb1 := hb0.alloc hb0.size (.cells #[.slice A n c, .int .i64 0] 105)
  have hs1 : w0.heap.size < (w0.alloc (.cells #[.slice A n c, .int .i64 0] 105)).heap.size := by rw [World.size_alloc]; omega
  generalize w0.alloc (.cells #[.slice A n c, .int .i64 0] 105) = w1 at *
  go_wp2_with fail
  have hx5 : Bx w1.drew w.heap.size s0 (.slice SA sn sc) := hx1
  have hdz5 := dz_drew hdz
  have hb5 := below_drew hb1
  have hsw : w.heap.size < w1.heap.size := hx1.lt
  have hww := hb0.size
  have hsw0 : w.heap.size < w0.heap.size := hx0.lt
  clear hx0 hx1 hdz hb1
  refine wp_region_held_drew (S := (fun W => Bx W w.heap.size s0 (.slice SA sn sc))) (by kernel_rfl) ?_ (fun hHeld => ?_)
  · (try dsimp only); exact hx5
  refine wpAnyH_take (i := 0) (oi := _) (v := ?vq1_0) rfl (by kernel_rfl) (by kernel_rfl) (by kernel_rfl) (fun _ _ _ h => h) (Or.inl ⟨rfl, ?yq1_0⟩) (by assumption) ?_
  case yq1_0 => intro w hSw; (try dsimp only at hSw); ((refine exec_load_bx2 (.tmp 4) ?_ ?_ hSw) <;> rfl)
  (try simp only [Act.put, List.getElem_toArray, List.getElem_cons_zero, List.setIfInBounds_toArray, List.set_cons_zero, List.set_cons_succ])
  refine wpAnyH_take (i := 1) (oi := _) (v := ?vq2_1) rfl (by kernel_rfl) (by kernel_rfl) (by kernel_rfl) (fun _ _ _ h => h) (Or.inl ⟨rfl, ?yq2_1⟩) (by assumption) ?_
  case yq2_1 => intro w hSw; (try dsimp only at hSw); go_simp; (try with_reducible rfl)
  (try simp only [Act.put, List.getElem_toArray, List.getElem_cons_succ, List.getElem_cons_zero, List.setIfInBounds_toArray, List.set_cons_zero, List.set_cons_succ])
  refine wpAnyH_take (i := 3) (oi := _) (v := ?vq3_3) rfl (by kernel_rfl) (by kernel_rfl) (by kernel_rfl) (fun _ _ _ h => h) (Or.inl ⟨rfl, ?yq3_3⟩) (by assumption) ?_
  case yq3_3 => intro w hSw; (try dsimp only at hSw); go_simp; (try with_reducible rfl)
  (try simp only [Act.put, List.getElem_toArray, List.getElem_cons_succ, List.getElem_cons_zero, List.setIfInBounds_toArray, List.set_cons_zero, List.set_cons_succ])
  refine wpAnyH_take (i := 7) (oi := _) (v := ?vq4_7) rfl (by kernel_rfl) (by kernel_rfl) (by kernel_rfl) (fun _ _ _ h => h) (Or.inl ⟨rfl, ?yq4_7⟩) (by assumption) ?_
  case yq4_7 => intro w hSw; (try dsimp only at hSw); go_simp; (try with_reducible rfl)
  (try simp only [Act.put, List.getElem_toArray, List.getElem_cons_succ, List.getElem_cons_zero, List.setIfInBounds_toArray, List.set_cons_zero, List.set_cons_succ])
  refine wpAnyH_ready (rs := [2]) (by kernel_rfl) (by simp) ?_
  refine AllReadyH.cons (o := _) rfl (fun K hK => ?_) AllReadyH.nil
  go_simp
  go_at_call 41; refine (Tl.digital_any 1 hdz5).mono ?_; rintro e u1 ⟨s, V, rfl, hv, hfb, -, hd, hown, hdz6, hgu1⟩
  have hx6 := hx5.kept hgu1 (fun e => by injection e; omega)
  refine hK.out _ _ ?_ (fun hHeld => ?_)
  · (try dsimp only); exact hx6
  clear hK K
  (try simp only [Act.put, List.getElem_toArray, List.getElem_cons_succ, List.getElem_cons_zero, List.setIfInBounds_toArray, List.set_cons_zero, List.set_cons_succ])
  obtain ⟨PA, pn, pc, rfl, -⟩ := hown.sl
  have hnms := name_le hv
  clear hv hd
  refine wpAnyH_ready (rs := [4]) (by kernel_rfl) (by simp) ?_
  refine AllReadyH.cons (o := _) rfl (fun K hK => ?_) AllReadyH.nil
  go_simp
  go_at_call 28; refine (Tl.oddsensor_any hdz6).mono ?_; rintro e u ⟨so, VO, rfl, hnmo, howno, -, hgu⟩
  have hx7 := hx6.kept hgu (fun e => by injection e; omega)
  refine hK.out _ _ ?_ (fun hHeld => ?_)
  · (try dsimp only); exact hx7
  clear hK K
  (try simp only [Act.put, List.getElem_toArray, List.getElem_cons_succ, List.getElem_cons_zero, List.setIfInBounds_toArray, List.set_cons_zero, List.set_cons_succ])
  obtain ⟨OA, on, oc, rfl, hpo⟩ := howno.sl
  refine wpAnyH_ready (rs := [5]) (by kernel_rfl) (by simp) ?_
  refine AllReadyH.cons (o := _) rfl (fun K hK => ?_) AllReadyH.nil
  refine step_build3 rfl (.tmp 41) (.tmp 43) (.tmp 45) rfl s0 s so (.slice SA sn sc) (.slice PA pn pc) (.slice OA on oc) rfl rfl rfl ?_
  refine hK.out _ _ ?_ (fun hHeld => ?_)
  · (try dsimp only); exact hx7.alloc _
  clear hK K
  (try simp only [Act.put, List.getElem_toArray, List.getElem_cons_succ, List.getElem_cons_zero, List.setIfInBounds_toArray, List.set_cons_zero, List.set_cons_succ])
  refine wpAnyH_take (i := 6) (oi := _) (v := ?vq5_6) rfl (by kernel_rfl) (by kernel_rfl) (by kernel_rfl) (fun _ _ _ h => h) (Or.inl ⟨rfl, ?yq5_6⟩) (by assumption) ?_
  case yq5_6 => intro w hSw; (try dsimp only at hSw); go_simp; (try with_reducible rfl)
  (try simp only [Act.put, List.getElem_toArray, List.getElem_cons_succ, List.getElem_cons_zero, List.setIfInBounds_toArray, List.set_cons_zero, List.set_cons_succ])
  refine wpAnyH_done (by kernel_rfl) ?_ _
  have hbu1 := hb5.grown hgu1 hb5.size (fun k hk => by injection hk; omega)
  have hbu := hbu1.grown hgu hbu1.size (fun k hk => by injection hk; omega)
  have hbB := hbu.alloc hbu.size (.cells (cells s0 (.slice SA sn sc) ++ cells s (.slice PA pn pc) ++ cells so (.slice OA on oc)) 59)
  have hrow : (u.alloc (.cells (cells s0 (.slice SA sn sc) ++ cells s (.slice PA pn pc) ++ cells so (.slice OA on oc)) 59)).heap[u.heap.size]? = some (.cells (cells s0 (.slice SA sn sc) ++ cells s (.slice PA pn pc) ++ cells so (.slice OA on oc)) 59 (0, 0)) := heap_alloc_new u _
  have p0 := HSL.out.step hbB
  have p1 : PSl (u.alloc (.cells (cells s0 (.slice SA sn sc) ++ cells s (.slice PA pn pc) ++ cells so (.slice OA on oc)) 59)) PA pn pc s.c.p := psl_own (World.ownsRow.alloc (D5.pown_kept hown hgu hs1) _)
  have p2 : PSl (u.alloc (.cells (cells s0 (.slice SA sn sc) ++ cells s (.slice PA pn pc) ++ cells so (.slice OA on oc)) 59)) OA on oc so.c.p := psl_own (World.ownsRow.alloc howno _)
  have HREC := Lib.hid (rec_at hrow p0 p1 p2 hnm0 hnms (by unfold maxLen; omega))
  clear p0 p1 p2 hrow hpo howno hgu hgu1 hbu1 hown hx5 hx6 hx7 hdz5 hdz6 hHeld hbu hb5 hfb
  go_wp2_with fail
  obtain ⟨gr, hgr⟩ : ∃ gr, gr = u.heap.size := ⟨_, rfl⟩
  rw [← hgr] at HREC ⊢
  clear hgr
  generalize u.alloc (.cells (cells s0 (.slice SA sn sc) ++ cells s (.slice PA pn pc) ++ cells so (.slice OA on oc)) 59) = wB at *
  go_loopw [48] (fun i wr => ∃ k : Nat, k ≤ 3 ∧ i = .int .i64 (k : Int) ∧ Below wB.heap.size wB wr) (fun i _ => 3 - (intOf i).toNat)
  case atStart => exact ⟨0, by omega, rfl, Below.refl _ _⟩
  case round =>
    obtain ⟨k, hk, rfl, hbr⟩ := hrel
    by_cases hk3 : k < 3
    · obtain ⟨x, XA, xn, xc, hrg, hpx, hmx⟩ := HREC.out wr hbr k hk3
      have hzb := Bx.zero wr
      have hba := (Below.refl wr.heap.size wr).alloc (Nat.le_refl _) (.cells #[.int .u8 0, .int .u8 0, .int .u8 0, .string ⟨#[]⟩, .int .u8 0, .int .u8 0, .bool false, .int .i64 0, .bool false, .int .i64 0, .int .i64 0, .int .i64 0, .int .i64 0, .slice none 0 0, .int .u8 0, .int .u8 0, .int .u8 0, .int .u8 0, .int .u8 0, .int .u8 0, .int .u8 0, .int .u8 0, .int .u8 0, .int .u16 0, .int .u16 0, .int .u16 0, .bool false, .int .i64 0] 59)
      go_wp2_with (first
        | (refine wpList_load_mid rfl _ (.tmp 50) rfl gr (k * 28) (by simp [Act.eval]) (cells x (.slice XA xn xc)).toList _ hrg Try.underlying59 rfl (by kernel_rfl) ?_)
        | (refine wpList_store_bx rfl (.tmp 11) (.tmp 51) rfl wr.heap.size x noSn (.slice XA xn xc) (.slice none 0 0) rfl rfl rfl hzb ?_; intro w6 hx6 hg6; refine Hid.out ?_))
      refine Lib.hid ?_
      have HPX := Lib.hid hpx
      have hsm := and_u16m st x.st hst8
      have hsl8 : st &&& (x.st % 65536) < 65536 := Nat.and_lt_two_pow (n := 16) _ (by omega)
      have hsn := and_u16m nx x.st hnx8
      have hsnl : nx &&& (x.st % 65536) < 65536 := Nat.and_lt_two_pow (n := 16) _ (by omega)
      have c14 : w6.cell? ⟨wr.heap.size, 23, none⟩ = some (.int .u16 (x.st : Int)) := hx6.c 23
      have hb6 := hba.grown hg6 hba.size (fun k hk => by injection hk; omega)
      clear hba hg6 hzb hrg
      obtain ⟨SM, hSM⟩ : ∃ SM, SM = st &&& (x.st % 65536) := ⟨_, rfl⟩
      rw [← hSM] at hsm hsl8
      clear hSM
      obtain ⟨SN, hSN⟩ : ∃ SN, SN = nx &&& (x.st % 65536) := ⟨_, rfl⟩
      rw [← hSN] at hsn hsnl
      clear hSN
      have HSN := Lib.hid hsn
      clear hsn
      have hrow2 : (w6.alloc (.cells #[.int .u16 (st : Int), .int .u16 (SM : Int)] 38)).heap[w6.heap.size]? = some (.cells #[.int .u16 (st : Int), .int .u16 (SM : Int)] 38 (0, 0)) := heap_alloc_new w6 _
      have hb7 := hb6.alloc hb6.size (.cells #[.int .u16 (st : Int), .int .u16 (SM : Int)] 38)
      have hx7 := hx6.alloc (.cells #[.int .u16 (st : Int), .int .u16 (SM : Int)] 38)
      go_wp2_with fail
      clear c14 hsm hx6 hb6
      obtain ⟨g2, hg2e⟩ : ∃ g2, g2 = w6.heap.size := ⟨_, rfl⟩
      rw [← hg2e] at hrow2 ⊢
      clear hg2e
      generalize w6.alloc (.cells #[.int .u16 (st : Int), .int .u16 (SM : Int)] 38) = w7 at *
      obtain ⟨F, hF⟩ : ∃ F, F = wr.heap.size := ⟨_, rfl⟩
      rw [← hF] at hx7 ⊢
      have hbB7 := hbr.trans (hb7.mono hbr.size)
      have hpx7 := hpx.step hb7
      clear hF hb7 hbr
      have HR2 := Lib.hid hrow2
      have HX7 := Lib.hid hx7
      clear hrow2 hx7
      go_loopw [59] (fun i wq => ∃ j : Nat, j ≤ 2 ∧ i = .int .i64 (j : Int) ∧ Below w7.heap.size w7 wq) (fun i _ => 2 - (intOf i).toNat)
      case atStart => exact ⟨0, by omega, rfl, Below.refl _ _⟩
      case round =>
        obtain ⟨j, hj, rfl, hbq⟩ := hrel
        by_cases hj2 : j < 2
        · have hrw := (hbq.block g2 (lt_of_some HR2.out)).trans HR2.out
          obtain ⟨Y, hY8, cY⟩ : ∃ Y : Nat, Y < 65536 ∧ wr.cell? ⟨g2, j, none⟩ = some (.int .u16 (Y : Int)) := by
            rcases (show j = 0 ∨ j = 1 by omega) with rfl | rfl
            · exact ⟨st, hst8, cell_of_row wr g2 0 _ _ _ hrw⟩
            · exact ⟨SM, hsl8, cell_of_row wr g2 1 _ _ _ hrw⟩
          have b1 : (0 : Int) ≤ (j : Int) := by omega
          have b2 : (j : Int) < 2 := by omega
          clear hrw
          have c23 : wr.cell? ⟨F, 23, none⟩ = some (.int .u16 (x.st : Int)) := (HX7.out.below hbq).c 23
          have hsn := HSN.out
          have hrow3 : (wr.alloc (.cells #[.int .u16 (nx : Int), .int .u16 (SN : Int)] 38)).heap[wr.heap.size]? = some (.cells #[.int .u16 (nx : Int), .int .u16 (SN : Int)] 38 (0, 0)) := heap_alloc_new wr _
          have hb8 := hbq.alloc hbq.size (.cells #[.int .u16 (nx : Int), .int .u16 (SN : Int)] 38)
          have hx8 := (HX7.out.below hbq).alloc (.cells #[.int .u16 (nx : Int), .int .u16 (SN : Int)] 38)
          have hp8 := hpx7.step hb8
          go_wp2_with fail
          clear cY b1 b2 c23 hsn
          obtain ⟨g3, hg3e⟩ : ∃ g3, g3 = wr.heap.size := ⟨_, rfl⟩
          rw [← hg3e] at hrow3 ⊢
          clear hg3e
          generalize wr.alloc (.cells #[.int .u16 (nx : Int), .int .u16 (SN : Int)] 38) = w8 at *
          have HR3 := Lib.hid hrow3
          have HX8 := Lib.hid hx8
          have HP8 := Lib.hid hp8
          have HB8 := Lib.hid hb8
          clear hrow3 hx8 hp8 hb8 hbq
          go_loopw [70] (fun i wq => ∃ m : Nat, m ≤ 2 ∧ i = .int .i64 (m : Int) ∧ Below w8.heap.size w8 wq) (fun i _ => 2 - (intOf i).toNat)
          case atStart => exact ⟨0, by omega, rfl, Below.refl _ _⟩
          case round =>
            obtain ⟨m, hm, rfl, hbz⟩ := hrel
            by_cases hm2 : m < 2
            · have hrw := (hbz.block g3 (lt_of_some HR3.out)).trans HR3.out
              obtain ⟨Zr, hZ8, cZ⟩ : ∃ Zr : Nat, Zr < 65536 ∧ wr.cell? ⟨g3, m, none⟩ = some (.int .u16 (Zr : Int)) := by
                rcases (show m = 0 ∨ m = 1 by omega) with rfl | rfl
                · exact ⟨nx, hnx8, cell_of_row wr g3 0 _ _ _ hrw⟩
                · exact ⟨SN, hsnl, cell_of_row wr g3 1 _ _ _ hrw⟩
              have b1 : (0 : Int) ≤ (m : Int) := by omega
              have b2 : (m : Int) < 2 := by omega
              have hx9 := HX8.out.below hbz
              have hp9 := HP8.out.step hbz
              have HS := Lib.hid fun (u : World) (hu : PSl u XA xn xc x.c.p) => (step_d x XA xn xc Y Zr hY8 hZ8 u hu hmx).mono fun _ _ h => dstep_out h
              have HSR := Lib.hid fun (u : World) (hu : PSl u XA xn xc x.c.p) => (step_rd x XA xn xc Y Zr hY8 hZ8 u hu hmx).mono fun _ _ h => dstep_out h
              have h3l := do3_len x Y Zr
              generalize do1 x Y Zr = P1 at *
              generalize do2 x Y Zr = P2 at *
              generalize do3 x Y Zr = P3 at *
              have e1 : (((P1 : Nat) : Int) != ((P1 : Nat) : Int)) = false := by simp
              have e2 : (P2 != P2) = false := by simp
              clear hrw
              go_wp2_with (refine wpList_load_bx rfl (.tmp 11) rfl _ _ _ rfl hx9 ?_)
              refine (HS.out _ hp9).mono ?_
              rintro e u1 ⟨A1, n1, c1, rfl, k1, hu1⟩
              have hx1 := hx9.below hu1
              have hp1 := hp9.step hu1
              have hbz1 := hbz.trans (hu1.mono hbz.size)
              clear hx9 hp9 hu1 cZ b1 b2 hbz
              go_wp2_with (refine wpList_load_bx rfl (.tmp 11) rfl _ _ _ rfl hx1 ?_)
              refine (HSR.out _ hp1).mono ?_
              rintro e u2 ⟨A2, n2, c2, rfl, k2, hu2⟩
              have hx2 := hx1.below hu2
              have hp2 := hp1.step hu2
              have k12 := k1.step hu2
              have hbz2 := hbz1.trans (hu2.mono hbz1.size)
              clear hx1 hp1 hu2 k1 hbz1
              have HSM := Lib.hid (same_chs k12 k2 (by rw [k12.len]; omega))
              clear hx2 hp2 k12 k2
              go_wp2_with fail
              refine HSM.out.mono ?_
              rintro e u5 ⟨rfl, hu5⟩
              have hbz5 := hbz2.trans (hu5.mono hbz2.size)
              clear hbz2 hu5 HSM
              go_wp2_with fail
              exact ⟨⟨m + 1, by omega, by go_num, hbz5⟩, by simp [intOf]; omega⟩
            · obtain rfl : m = 2 := by omega
              have hb10 := HB8.out.trans (hbz.mono HB8.out.size)
              go_wp2_with fail
              exact ⟨⟨j + 1, by omega, by go_num, hb10⟩, by simp [intOf]; omega⟩
        · obtain rfl : j = 2 := by omega
          go_wp2_with fail
          exact ⟨⟨k + 1, by omega, by go_num, hbB7.trans (hbq.mono hbB7.size)⟩, by simp [intOf]; omega⟩
    · obtain rfl : k = 3 := by omega
      go_wp2_with fail
      refine (haw.out _).mono ?_
      rintro e w9 ⟨rfl, hb9⟩
      go_wp2_with fail
      go_ret
      exact ⟨rfl, (hbB.trans (hbr.mono hbB.size)).trans (hb9.mono (Nat.le_trans hbB.size hbr.size))⟩

theorem cells_u8 : Try.prog.cellsOf 5 = 1 := by kernel_rfl
theorem cells_int : Try.prog.cellsOf 3 = 1 := by kernel_rfl
theorem own : ownKnob Try.prog.godebug = none := by kernel_rfl
theorem laidOut : laidOutB Try.prog = true := by kernel_rfl
theorem contract (H : Type) (enc : TypeId × Value → H) (W : World) (base : Nat) (args : Array Value) (ds gs : List (DataW H)) (before : List MemPlace)
    (hval : ∀ (j : Nat) t v, Try.f8.params[j]? = some t → args[j]? = some v → Value.okWide Try.prog W .any base t v)
    (hW : DataW.Whole enc Try.prog Try.f8.params.toList Rows.discreteStepsSpec.vars false W args.toList ds gs before) :
    Calls Try.prog 8 args W fun e W' => ∃ v, e = .returned v ∧ Rows.discreteStepsSpec.post enc Try.prog Try.f8 false true false false W args v W' := by
  have hW' := hW
  obtain ⟨p, q, hA0, hV, rfl, hfz, hnd⟩ := hW
  have hA : DataW.TrodAll enc Try.prog W 0 (fun _ => true) true Try.f8.params.toList args.toList ds p := hA0
  rw [Try.params8] at hA hval
  obtain ⟨v0, vs0, d0, ds0, p0, q0, hargs, rfl, rfl, h0, r0⟩ := trodAll_cons hA
  obtain ⟨v1, vs1, d1, ds1, p1, q1, rfl, rfl, rfl, h1, r1⟩ := trodAll_cons r0
  obtain ⟨v2, vs2, d2, ds2, p2, q2, rfl, rfl, rfl, h2, r2⟩ := trodAll_cons r1
  obtain ⟨v3, vs3, d3, ds3, p3, q3, rfl, rfl, rfl, h3, r3⟩ := trodAll_cons r2
  obtain ⟨rfl, rfl, rfl⟩ := trodAll_nil r3
  obtain rfl : args = #[v0, v1, v2, v3] := by cases args; simp_all
  obtain ⟨s0, A0, n0, c0, rfl, hr0, hf0, hg0⟩ := open_sensor Try.underlying59 (by kernel_rfl) ⟨rfl, rfl, rfl, rfl, rfl, rfl, rfl, rfl, rfl, rfl, rfl, rfl, rfl, rfl, rfl⟩ ⟨by kernel_rfl, by kernel_rfl, by kernel_rfl, by kernel_rfl, by kernel_rfl, by kernel_rfl, by kernel_rfl, by kernel_rfl, by kernel_rfl, by kernel_rfl, by kernel_rfl, by kernel_rfl, by kernel_rfl, by kernel_rfl, by kernel_rfl⟩ Try.underlying5 Try.underlying5 Try.underlying5 Try.underlying9 (fun h => trod_ent Try.underlying51 (by kernel_rfl) ⟨rfl, rfl⟩ ⟨by kernel_rfl, by kernel_rfl⟩ Try.underlying5 Try.underlying5 h) Try.underlying4 (fun h => trod_conv Try.underlying54 (by kernel_rfl) ⟨rfl, rfl, rfl, rfl, rfl, rfl, rfl⟩ ⟨by kernel_rfl, by kernel_rfl, by kernel_rfl, by kernel_rfl, by kernel_rfl, by kernel_rfl, by kernel_rfl⟩ Try.underlying3 Try.underlying4 Try.underlying3 Try.underlying3 Try.underlying3 Try.underlying3 Try.underlying52 Try.underlying150 (by kernel_rfl) rfl rfl (by kernel_rfl) (by kernel_rfl) Try.underlying5 Try.underlying3 h) (fun h => trod_lim Try.underlying57 (by kernel_rfl) ⟨rfl, rfl⟩ ⟨by kernel_rfl, by kernel_rfl⟩ Try.underlying5 Try.underlying55 (by kernel_rfl) Try.underlying5 h) Try.underlying5 Try.underlying5 Try.underlying38 Try.underlying38 Try.underlying38 Try.underlying4 Try.underlying3 (hval 0 59 v0 rfl rfl) h0
  obtain ⟨A1, n1, c1, l1, rfl, hn1, hr1, hw1, hc1, hm1, hk1⟩ := open_int_list Try.underlying22 Try.underlying3 cells_int (hval 1 22 v1 rfl rfl) h1
  obtain ⟨a2, rfl, -, -, w2⟩ := open_int Try.underlying38 (hval 2 38 v2 rfl rfl) h2
  obtain ⟨a3, rfl, -, -, w3⟩ := open_int Try.underlying38 (hval 3 38 v3 rfl rfl) h3
  clear hA0
  refine (walk s0 A0 n0 c0 hf0 hg0 A1 n1 c1 l1 hn1 hw1 hc1 hm1 hk1 a2 (bounds_u16 w2) a3 (bounds_u16 w3) W hr0 hr1).mono fun e W' ⟨he, hb⟩ => ?_
  subst he
  exact ⟨_, rfl, law_post laidOut (types_fit (by kernel_rfl)) (by kernel_rfl) Try.underlying4 rfl (fun xs hx => by
    match xs, hx with
    | [_, _, _, _], _ => rfl) hW' hb⟩

theorem lifted (os : Os) (started : os.Started) (H : Type) (enc : TypeId × Value → H) :
    ReturnsInHanded {} Try.checked os 8 .any (Rows.discreteStepsSpec.pre6 enc Try.prog Try.f8 Rows.discreteStepsRow.domain false) (Rows.discreteStepsSpec.post enc Try.prog Try.f8 false true false false) := by
  refine returnsInHanded_of_change (C := Try.checked) own started (by kernel_rfl) Try.func8
    (ChangeSpec.witness6 (enc := enc) (C := Try.checked) false ⟨#[], #[.agg #[.int .u8 0, .int .u8 0, .int .u8 0, .string ⟨#[]⟩, .int .u8 0, .int .u8 0, .bool false, .int .i64 0, .bool false, .int .i64 0, .int .i64 0, .int .i64 0, .int .i64 0, .slice none 0 0, .int .u8 0, .int .u8 0, .int .u8 0, .int .u8 0, .int .u8 0, .int .u8 0, .int .u8 0, .int .u8 0, .int .u8 0, .int .u16 0, .int .u16 0, .int .u16 0, .bool false, .int .i64 0], .slice none 0 0, .int .u16 0, .int .u16 0], []⟩ 8 (by kernel_rfl) (by kernel_rfl) (by kernel_rfl) (by kernel_rfl)) ?_
  intro W base args ds gs before hval hW _ _
  exact contract H enc W base args ds gs before hval hW

theorem proved : Rows.DiscreteStepsSaid :=
  OpenClaim.holds_of_wide 8 Try.f8 rfl rfl rfl rfl rfl rfl rfl ⟨rfl, rfl, rfl, rfl, rfl⟩ rfl rfl rfl rfl rfl (by kernel_rfl) Try.func8 (by kernel_rfl)
    (of_decide_eq_true (by kernel_rfl)) (by unfold Func.isWrapper; first | (rw [if_pos (by decide +kernel)]; kernel_rfl) | (rw [if_neg (by decide +kernel)]; exact ⟨rfl, rfl⟩))
    (fun os started H enc _ => lifted os started H enc)
end Go.Proofs.Ytafoaonkjcfbaaa.discreteSteps
