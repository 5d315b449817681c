/- SensorValid holds for every input: which records are valid is what the document says. No condition. -/
import Derived.Test.YtcnkiecdagjgmaaYv
import Derived.Test.YtcnkiecdagjgmaaTj
import Derived.Test.YtcnkiecdagjgmaaLaw2
import Derived.Test.YtcnkiecdagjgmaaLaw4
namespace Go.Proofs.Ytcnkiecdagjgmaa.sensorValid
open Go.RowKit Go.ChangeShapes Go.WideShapes Go.ChangeAt Go.Proofs.Ytcnkiecdagjgmaa.Mem Go.Proofs.Ytcnkiecdagjgmaa.F2p Go.Proofs.Ytcnkiecdagjgmaa.C4l Go.Proofs.Ytcnkiecdagjgmaa.Ta Go.Proofs.Ytcnkiecdagjgmaa.Tb Go.Proofs.Ytcnkiecdagjgmaa.Law Go.Proofs.Ytcnkiecdagjgmaa.Made Go.Proofs.Ytcnkiecdagjgmaa.D5 Go.Proofs.Ytcnkiecdagjgmaa.Tl Go.Proofs.Ytcnkiecdagjgmaa.Ya Go.Proofs.Ytcnkiecdagjgmaa.Yv
set_option maxRecDepth 100000
set_option maxHeartbeats 4000000

theorem walk (s0 : Sn) (SA : Option Addr) (sn sc : Nat) (hnm0 : s0.nm.size ≤ maxLen) (_hfit0 : s0.Fit) (A : Option Addr) (n c : Nat) (l : List Int) (hn : n = l.length) (hw : ∀ x ∈ l, -9223372036854775808 ≤ x ∧ x ≤ 9223372036854775807) (hc : n ≤ c) (hm : c ≤ maxLen) (_hA : A = none → c = 0)
    (w : World) (hsl : PSl w SA sn sc s0.c.p) (hr : IRow w.heap.size w A l) :
    Calls Try.prog 10 #[.agg (cells s0 (.slice SA sn sc)), .slice A n c] w fun e w' => e = .returned (.bool true) ∧ Below w.heap.size w w' := by
  have hnm : n ≤ maxLen := by omega
  have hsnm : sn ≤ maxLen := Nat.le_trans hsl.cap hsl.max
  have HN := Lib.hid hn
  have HW := Lib.hid hw
  have HSL := Lib.hid hsl
  clear hn hw hc hm _hA _hfit0 hsl
  have haw := Lib.hid (fun u => Tb.awake_any u)
  have hb0 : Below w.heap.size w (w.alloc (.cells (cells s0 (.slice SA sn sc)) 32)) := (Below.refl _ _).alloc (Nat.le_refl _) _
  have hx0 : Bx (w.alloc (.cells (cells s0 (.slice SA sn sc)) 32)) w.heap.size s0 (.slice SA sn sc) := heap_alloc_new w _
  have hsz0 : w.heap.size < (w.alloc (.cells (cells s0 (.slice SA sn sc)) 32)).heap.size := by rw [World.size_alloc]; omega
  have HLI := Lib.hid fun (u : World) => Yv.light10 s0 SA sn sc u hsnm hnm0
  generalize (decide (s0.nm.size ≤ 100) && decide (sn ≤ 40)) = R at *
  go_enter Try.func10, Try.ntmps10
  go_wp2_with (refine wpList_load_bx rfl (.tmp 2) rfl _ _ _ rfl hx0 ?_)
  refine (HLI.out _).mono ?_
  rintro e w0 ⟨rfl, hb00⟩
  have hx0 := hx0.below hb00
  have hb0 := hb0.trans (hb00.mono hb0.size)
  have hsz0 : w.heap.size < w0.heap.size := hx0.lt
  clear HLI hb00
  cases R
  · skip
    go_wp2_with fail
    refine (haw.out _).mono ?_
    rintro e w3 ⟨rfl, hb3⟩
    go_wp2_with fail
    go_ret
    exact ⟨rfl, hb0.trans (hb3.mono hb0.size)⟩
  by_cases h6 : n ≤ 600
  case neg =>
    have d6 : decide (n ≤ 600) = false := decide_eq_false h6
    go_wp2_with fail
    refine (Made.lightmade_any A n c _ hnm).mono ?_
    rintro e w' ⟨rfl, rfl⟩
    rw [d6]
    go_wp2_with fail
    refine (haw.out _).mono ?_
    rintro e w3 ⟨rfl, hb3⟩
    go_wp2_with fail
    go_ret
    exact ⟨rfl, hb0.trans (hb3.mono hb0.size)⟩
  have d6 : decide (n ≤ 600) = true := decide_eq_true h6
  go_wp2_with fail
  refine (Made.lightmade_any A n c _ hnm).mono ?_
  rintro e w' ⟨rfl, rfl⟩
  rw [d6]
  go_wp2_with fail
  refine (Made.roll_any A n c w0).mono ?_
  rintro e w1 ⟨rfl, rfl⟩
  have hdz := Dz.start A n c l w0 ((hr.below hb0).more hb0.size) HN.out HW.out (by omega)
  have hx1 := hx0.alloc (.cells #[.slice A n c, .int .i64 0] 104)
  have hb1 := hb0.alloc hb0.size (.cells #[.slice A n c, .int .i64 0] 104)
  have hs1 : w0.heap.size < (w0.alloc (.cells #[.slice A n c, .int .i64 0] 104)).heap.size := by rw [World.size_alloc]; omega
  generalize w0.alloc (.cells #[.slice A n c, .int .i64 0] 104) = w1 at *
  clear hx0
  go_wp2_with fail
  have hx5 : Bx w1.drew w.heap.size s0 (.slice SA sn sc) := hx1
  have hdz5 := dz_drew hdz
  have hb5 := below_drew hb1
  have hs5 : w0.heap.size < w1.drew.heap.size := hs1
  clear hx1 hdz hb1 hs1
  refine wp_region_held_drew (S := (fun W => Bx W w.heap.size s0 (.slice SA sn sc))) (by kernel_rfl) ?_ (fun hHeld => ?_)
  · (try dsimp only); exact hx5
  refine wpAnyH_take (i := 0) (oi := _) (v := ?vq1_0) rfl (by kernel_rfl) (by kernel_rfl) (by kernel_rfl) (fun _ _ _ h => h) (Or.inl ⟨rfl, ?yq1_0⟩) (by assumption) ?_
  case yq1_0 => intro w hSw; (try dsimp only at hSw); ((refine exec_load_bx2 (.tmp 2) ?_ ?_ hSw) <;> rfl)
  (try simp only [Act.put, List.getElem_toArray, List.getElem_cons_zero, List.setIfInBounds_toArray, List.set_cons_zero, List.set_cons_succ])
  refine wpAnyH_take (i := 1) (oi := _) (v := ?vq2_1) rfl (by kernel_rfl) (by kernel_rfl) (by kernel_rfl) (fun _ _ _ h => h) (Or.inl ⟨rfl, ?yq2_1⟩) (by assumption) ?_
  case yq2_1 => intro w hSw; (try dsimp only at hSw); go_simp; (try with_reducible rfl)
  (try simp only [Act.put, List.getElem_toArray, List.getElem_cons_succ, List.getElem_cons_zero, List.setIfInBounds_toArray, List.set_cons_zero, List.set_cons_succ])
  refine wpAnyH_take (i := 3) (oi := _) (v := ?vq3_3) rfl (by kernel_rfl) (by kernel_rfl) (by kernel_rfl) (fun _ _ _ h => h) (Or.inl ⟨rfl, ?yq3_3⟩) (by assumption) ?_
  case yq3_3 => intro w hSw; (try dsimp only at hSw); go_simp; (try with_reducible rfl)
  (try simp only [Act.put, List.getElem_toArray, List.getElem_cons_succ, List.getElem_cons_zero, List.setIfInBounds_toArray, List.set_cons_zero, List.set_cons_succ])
  refine wpAnyH_take (i := 5) (oi := _) (v := ?vq4_5) rfl (by kernel_rfl) (by kernel_rfl) (by kernel_rfl) (fun _ _ _ h => h) (Or.inl ⟨rfl, ?yq4_5⟩) (by assumption) ?_
  case yq4_5 => intro w hSw; (try dsimp only at hSw); go_simp; (try with_reducible rfl)
  (try simp only [Act.put, List.getElem_toArray, List.getElem_cons_succ, List.getElem_cons_zero, List.setIfInBounds_toArray, List.set_cons_zero, List.set_cons_succ])
  refine wpAnyH_take (i := 9) (oi := _) (v := ?vq5_9) rfl (by kernel_rfl) (by kernel_rfl) (by kernel_rfl) (fun _ _ _ h => h) (Or.inl ⟨rfl, ?yq5_9⟩) (by assumption) ?_
  case yq5_9 => intro w hSw; (try dsimp only at hSw); go_simp; (try with_reducible rfl)
  (try simp only [Act.put, List.getElem_toArray, List.getElem_cons_succ, List.getElem_cons_zero, List.setIfInBounds_toArray, List.set_cons_zero, List.set_cons_succ])
  refine wpAnyH_ready (rs := [2]) (by kernel_rfl) (by simp) ?_
  refine AllReadyH.cons (o := _) rfl (fun K hK => ?_) AllReadyH.nil
  go_simp
  go_at_call 32; refine (Tl.sensor_any 1 hdz5).mono ?_; rintro e u1 ⟨s1, V1, rfl, hv1, -, -, hown1, hd1, hg1⟩; have hx6 := hx5.kept hg1 (fun e => by injection e; omega)
  refine hK.out _ _ ?_ (fun hHeld => ?_)
  · (try dsimp only); exact hx6
  clear hK K
  (try simp only [Act.put, List.getElem_toArray, List.getElem_cons_succ, List.getElem_cons_zero, List.setIfInBounds_toArray, List.set_cons_zero, List.set_cons_succ])
  have hnm1 := name_le hv1
  obtain ⟨A1, n1, c1, rfl, -⟩ := hown1.sl
  refine wpAnyH_ready (rs := [4]) (by kernel_rfl) (by simp) ?_
  refine AllReadyH.cons (o := _) rfl (fun K hK => ?_) AllReadyH.nil
  go_simp
  go_at_call 20; refine (Tl.oddsensor_any hd1).mono ?_; rintro e u2 ⟨s2, V2, rfl, hnm2, hown2, hd2, hg2⟩; have hx7 := hx6.kept hg2 (fun e => by injection e; omega)
  refine hK.out _ _ ?_ (fun hHeld => ?_)
  · (try dsimp only); exact hx7
  clear hK K
  (try simp only [Act.put, List.getElem_toArray, List.getElem_cons_succ, List.getElem_cons_zero, List.setIfInBounds_toArray, List.set_cons_zero, List.set_cons_succ])
  obtain ⟨A2, n2, c2, rfl, -⟩ := hown2.sl
  refine wpAnyH_ready (rs := [6]) (by kernel_rfl) (by simp) ?_
  refine AllReadyH.cons (o := _) rfl (fun K hK => ?_) AllReadyH.nil
  go_simp
  go_at_call 20; refine (Tl.oddsensor_any hd2).mono ?_; rintro e u3 ⟨s3, V3, rfl, hnm3, hown3, -, hg3⟩; have hx8 := hx7.kept hg3 (fun e => by injection e; omega)
  refine hK.out _ _ ?_ (fun hHeld => ?_)
  · (try dsimp only); exact hx8
  clear hK K
  (try simp only [Act.put, List.getElem_toArray, List.getElem_cons_succ, List.getElem_cons_zero, List.setIfInBounds_toArray, List.set_cons_zero, List.set_cons_succ])
  obtain ⟨A3, n3, c3', rfl, -⟩ := hown3.sl
  refine wpAnyH_ready (rs := [7]) (by kernel_rfl) (by simp) ?_
  refine AllReadyH.cons (o := _) rfl (fun K hK => ?_) AllReadyH.nil
  refine Yv.step_build4 rfl (.tmp 19) (.tmp 21) (.tmp 23) (.tmp 25) rfl s0 s1 s2 s3 (.slice SA sn sc) (.slice A1 n1 c1) (.slice A2 n2 c2) (.slice A3 n3 c3') rfl rfl rfl rfl ?_
  refine hK.out _ _ ?_ (fun hHeld => ?_)
  · (try dsimp only); exact hx8.alloc _
  clear hK K
  (try simp only [Act.put, List.getElem_toArray, List.getElem_cons_succ, List.getElem_cons_zero, List.setIfInBounds_toArray, List.set_cons_zero, List.set_cons_succ])
  refine wpAnyH_take (i := 8) (oi := _) (v := ?vq6_8) rfl (by kernel_rfl) (by kernel_rfl) (by kernel_rfl) (fun _ _ _ h => h) (Or.inl ⟨rfl, ?yq6_8⟩) (by assumption) ?_
  case yq6_8 => intro w hSw; (try dsimp only at hSw); go_simp; (try with_reducible rfl)
  (try simp only [Act.put, List.getElem_toArray, List.getElem_cons_succ, List.getElem_cons_zero, List.setIfInBounds_toArray, List.set_cons_zero, List.set_cons_succ])
  refine wpAnyH_done (by kernel_rfl) ?_ _
  have hs6 : w0.heap.size < u1.heap.size := Nat.lt_of_lt_of_le hs5 hg1.size
  have hs7 : w0.heap.size < u2.heap.size := Nat.lt_of_lt_of_le hs6 hg2.size
  have hb6 := hb5.grown hg1 hb5.size (fun k hk => by injection hk; have := hb0.size; omega)
  have hb7 := hb6.grown hg2 hb6.size (fun k hk => by injection hk; have := hb0.size; omega)
  have hb8 := hb7.grown hg3 hb7.size (fun k hk => by injection hk; have := hb0.size; omega)
  have hbB := hb8.alloc hb8.size (.cells ((cells s0 (.slice SA sn sc) ++ cells s1 (.slice A1 n1 c1)) ++ (cells s2 (.slice A2 n2 c2) ++ cells s3 (.slice A3 n3 c3'))) 32)
  have hrow : (u3.alloc (.cells ((cells s0 (.slice SA sn sc) ++ cells s1 (.slice A1 n1 c1)) ++ (cells s2 (.slice A2 n2 c2) ++ cells s3 (.slice A3 n3 c3'))) 32)).heap[u3.heap.size]? = some (.cells ((cells s0 (.slice SA sn sc) ++ cells s1 (.slice A1 n1 c1)) ++ (cells s2 (.slice A2 n2 c2) ++ cells s3 (.slice A3 n3 c3'))) 32 (0, 0)) := heap_alloc_new u3 _
  have p0 : Yv.Rec (u3.alloc (.cells ((cells s0 (.slice SA sn sc) ++ cells s1 (.slice A1 n1 c1)) ++ (cells s2 (.slice A2 n2 c2) ++ cells s3 (.slice A3 n3 c3'))) 32)) s0 SA sn sc := ⟨HSL.out.step hbB, hnm0⟩
  have p1 : Yv.Rec (u3.alloc (.cells ((cells s0 (.slice SA sn sc) ++ cells s1 (.slice A1 n1 c1)) ++ (cells s2 (.slice A2 n2 c2) ++ cells s3 (.slice A3 n3 c3'))) 32)) s1 A1 n1 c1 := ⟨psl_own (World.ownsRow.alloc (D5.pown_kept (D5.pown_kept hown1 hg2 hs5) hg3 hs5) _), hnm1⟩
  have p2 : Yv.Rec (u3.alloc (.cells ((cells s0 (.slice SA sn sc) ++ cells s1 (.slice A1 n1 c1)) ++ (cells s2 (.slice A2 n2 c2) ++ cells s3 (.slice A3 n3 c3'))) 32)) s2 A2 n2 c2 := ⟨psl_own (World.ownsRow.alloc (D5.pown_kept hown2 hg3 hs6) _), by unfold maxLen; omega⟩
  have p3 : Yv.Rec (u3.alloc (.cells ((cells s0 (.slice SA sn sc) ++ cells s1 (.slice A1 n1 c1)) ++ (cells s2 (.slice A2 n2 c2) ++ cells s3 (.slice A3 n3 c3'))) 32)) s3 A3 n3 c3' := ⟨psl_own (World.ownsRow.alloc hown3 _), by unfold maxLen; omega⟩
  have HREC := Lib.hid (Yv.rec_at hrow p0 p1 p2 p3)
  clear p0 p1 p2 p3 hrow hown1 hown2 hown3 hg1 hg2 hg3 hd1 hd2 hx5 hx6 hx7 hx8 hdz5 hHeld hb5 hb6 hb7 hb8 hv1 hs5 hs6 hs7
  go_wp2_with fail
  obtain ⟨gr, hgr⟩ : ∃ gr, gr = u3.heap.size := ⟨_, rfl⟩
  rw [← hgr] at HREC ⊢
  clear hgr
  generalize u3.alloc (.cells ((cells s0 (.slice SA sn sc) ++ cells s1 (.slice A1 n1 c1)) ++ (cells s2 (.slice A2 n2 c2) ++ cells s3 (.slice A3 n3 c3'))) 32) = wB at *
  go_loopw [28] (fun i wr => ∃ k : Nat, k ≤ 4 ∧ i = .int .i64 (k : Int) ∧ Below wB.heap.size wB wr) (fun i _ => 4 - (intOf i).toNat)
  case atStart => exact ⟨0, by omega, rfl, Below.refl _ _⟩
  case round =>
    obtain ⟨k, hk, rfl, hbr⟩ := hrel
    by_cases hk3 : k < 4
    · obtain ⟨x, XA, xn, xc, hrg, hpx, hmx⟩ := HREC.out wr hbr k hk3
      have hzb := Bx.zero wr
      have hba := (Below.refl wr.heap.size wr).alloc (Nat.le_refl _) (.cells #[.int .u8 0, .int .u8 0, .int .u8 0, .string ⟨#[]⟩, .int .u8 0, .int .u8 0, .bool false, .int .i64 0, .bool false, .int .i64 0, .int .i64 0, .int .i64 0, .int .i64 0, .slice none 0 0, .int .u8 0, .int .u8 0, .int .u8 0, .int .u8 0, .int .u8 0, .int .u8 0, .int .u8 0, .int .u8 0, .int .u8 0, .int .u16 0, .int .u16 0, .int .u16 0, .bool false, .int .i64 0] 32)
      go_wp2_with (first
        | (refine wpList_load_mid rfl _ (.tmp 30) rfl gr (k * 28) (by simp [Act.eval]) (cells x (.slice XA xn xc)).toList _ hrg Try.underlying32 rfl (by kernel_rfl) ?_)
        | (refine wpList_store_bx rfl (.tmp 7) (.tmp 31) rfl wr.heap.size x noSn (.slice XA xn xc) (.slice none 0 0) rfl rfl rfl hzb ?_; intro w6 hx6 hg6; refine Hid.out ?_))
      refine Lib.hid ?_
      have hb6 := hba.grown hg6 hba.size (fun k hk => by injection hk; omega)
      have hp6 := hpx.step hb6
      have HV := Lib.hid fun (u : World) (hu : PSl u XA xn xc x.c.p) => valid_p x XA xn xc u hu hmx
      have HR := Lib.hid fun (u : World) (hu : PSl u XA xn xc x.c.p) => vld10 x XA xn xc u hu hmx
      generalize vs x = R at *
      have eR : (R != R) = false := by cases R <;> rfl
      clear hba hg6 hzb hrg hpx
      go_wp2_with fail
      have hx7 : Bx w6.drew wr.heap.size x (.slice XA xn xc) := hx6
      have hp7 : PSl w6.drew XA xn xc x.c.p := ⟨hp6.len, hp6.row, hp6.cap, hp6.max, hp6.nil⟩
      have hb7 := below_drew hb6
      clear hx6 hp6 hb6
      refine wp_region_held_drew (S := (fun W => Bx W wr.heap.size x (.slice XA xn xc))) (by kernel_rfl) ?_ (fun hHeld => ?_)
      · (try dsimp only); exact hx7
      refine wpAnyH_take (i := 0) (oi := _) (v := ?vq7_0) rfl (by kernel_rfl) (by kernel_rfl) (by kernel_rfl) (fun _ _ _ h => h) (Or.inl ⟨rfl, ?yq7_0⟩) (by assumption) ?_
      case yq7_0 => intro w hSw; (try dsimp only at hSw); ((refine exec_load_bx2 (.tmp 7) ?_ ?_ hSw) <;> rfl)
      (try simp only [Act.put, List.getElem_toArray, List.getElem_cons_zero, List.setIfInBounds_toArray, List.set_cons_zero, List.set_cons_succ])
      refine wpAnyH_take (i := 2) (oi := _) (v := ?vq8_2) rfl (by kernel_rfl) (by kernel_rfl) (by kernel_rfl) (fun _ _ _ h => h) (Or.inl ⟨rfl, ?yq8_2⟩) (by assumption) ?_
      case yq8_2 => intro w hSw; (try dsimp only at hSw); ((refine exec_load_bx2 (.tmp 7) ?_ ?_ hSw) <;> rfl)
      (try simp only [Act.put, List.getElem_toArray, List.getElem_cons_succ, List.getElem_cons_zero, List.setIfInBounds_toArray, List.set_cons_zero, List.set_cons_succ])
      refine wpAnyH_ready (rs := [1]) (by kernel_rfl) (by simp) ?_
      refine AllReadyH.cons (o := _) rfl (fun K hK => ?_) AllReadyH.nil
      go_simp
      go_at_call 33; refine (HV.out _ hp7).mono ?_; rintro e u1 ⟨rfl, hu1⟩; have hx8 := hx7.below hu1
      refine hK.out _ _ ?_ (fun hHeld => ?_)
      · (try dsimp only); exact hx8
      clear hK K
      (try simp only [Act.put, List.getElem_toArray, List.getElem_cons_succ, List.getElem_cons_zero, List.setIfInBounds_toArray, List.set_cons_zero, List.set_cons_succ])
      refine wpAnyH_ready (rs := [3]) (by kernel_rfl) (by simp) ?_
      refine AllReadyH.cons (o := _) rfl (fun K hK => ?_) AllReadyH.nil
      go_simp
      go_at_call 34; refine (HR.out _ (hp7.step hu1)).mono ?_; rintro e u2 ⟨rfl, hu2⟩; have hx9 := hx8.below hu2
      refine hK.out _ _ ?_ (fun hHeld => ?_)
      · (try dsimp only); exact hx9
      clear hK K
      (try simp only [Act.put, List.getElem_toArray, List.getElem_cons_succ, List.getElem_cons_zero, List.setIfInBounds_toArray, List.set_cons_zero, List.set_cons_succ])
      refine wpAnyH_take (i := 4) (oi := _) (v := ?vq9_4) rfl (by kernel_rfl) (by kernel_rfl) (by kernel_rfl) (fun _ _ _ h => h) (Or.inl ⟨rfl, ?yq9_4⟩) (by assumption) ?_
      case yq9_4 => intro w hSw; (try dsimp only at hSw); go_simp; (try with_reducible rfl)
      (try simp only [Act.put, List.getElem_toArray, List.getElem_cons_succ, List.getElem_cons_zero, List.setIfInBounds_toArray, List.set_cons_zero, List.set_cons_succ])
      refine wpAnyH_done (by kernel_rfl) ?_ _
      have hb9 := (hb7.trans (hu1.mono hb7.size)).trans (hu2.mono (Nat.le_trans hb7.size hu1.size))
      have hbr9 := hbr.trans (hb9.mono hbr.size)
      go_wp2_with fail
      exact ⟨⟨k + 1, by omega, by go_num, hbr9⟩, by simp [intOf]; omega⟩
    · obtain rfl : k = 4 := by omega
      go_wp2_with fail
      refine (haw.out _).mono ?_
      rintro e w9 ⟨rfl, hb9⟩
      go_wp2_with fail
      go_ret
      exact ⟨rfl, (hbB.trans (hbr.mono hbB.size)).trans (hb9.mono (Nat.le_trans hbB.size hbr.size))⟩

theorem cells_u8 : Try.prog.cellsOf 5 = 1 := by kernel_rfl
theorem cells_int : Try.prog.cellsOf 3 = 1 := by kernel_rfl
theorem own : ownKnob Try.prog.godebug = none := by kernel_rfl
theorem laidOut : laidOutB Try.prog = true := by kernel_rfl
theorem contract (H : Type) (enc : TypeId × Value → H) (W : World) (base : Nat) (args : Array Value) (ds gs : List (DataW H)) (before : List MemPlace)
    (hval : ∀ (j : Nat) t v, Try.f10.params[j]? = some t → args[j]? = some v → Value.okWide Try.prog W .any base t v)
    (hW : DataW.Whole enc Try.prog Try.f10.params.toList Rows.sensorValidSpec.vars false W args.toList ds gs before) :
    Calls Try.prog 10 args W fun e W' => ∃ v, e = .returned v ∧ Rows.sensorValidSpec.post enc Try.prog Try.f10 false true false false W args v W' := by
  have hW' := hW
  obtain ⟨p, q, hA0, hV, rfl, hfz, hnd⟩ := hW
  have hA : DataW.TrodAll enc Try.prog W 0 (fun _ => true) true Try.f10.params.toList args.toList ds p := hA0
  rw [Try.params10] at hA hval
  obtain ⟨v0, vs0, d0, ds0, p0, q0, hargs, rfl, rfl, h0, r0⟩ := trodAll_cons hA
  obtain ⟨v1, vs1, d1, ds1, p1, q1, rfl, rfl, rfl, h1, r1⟩ := trodAll_cons r0
  obtain ⟨rfl, rfl, rfl⟩ := trodAll_nil r1
  obtain rfl : args = #[v0, v1] := by cases args; simp_all
  obtain ⟨s0, A0, n0, c0, rfl, hr0, hf0, hg0⟩ := open_sensor Try.underlying32 (by kernel_rfl) ⟨rfl, rfl, rfl, rfl, rfl, rfl, rfl, rfl, rfl, rfl, rfl, rfl, rfl, rfl, rfl⟩ ⟨by kernel_rfl, by kernel_rfl, by kernel_rfl, by kernel_rfl, by kernel_rfl, by kernel_rfl, by kernel_rfl, by kernel_rfl, by kernel_rfl, by kernel_rfl, by kernel_rfl, by kernel_rfl, by kernel_rfl, by kernel_rfl, by kernel_rfl⟩ Try.underlying5 Try.underlying5 Try.underlying5 Try.underlying9 (fun h => trod_ent Try.underlying23 (by kernel_rfl) ⟨rfl, rfl⟩ ⟨by kernel_rfl, by kernel_rfl⟩ Try.underlying5 Try.underlying5 h) Try.underlying4 (fun h => trod_conv Try.underlying26 (by kernel_rfl) ⟨rfl, rfl, rfl, rfl, rfl, rfl, rfl⟩ ⟨by kernel_rfl, by kernel_rfl, by kernel_rfl, by kernel_rfl, by kernel_rfl, by kernel_rfl, by kernel_rfl⟩ Try.underlying3 Try.underlying4 Try.underlying3 Try.underlying3 Try.underlying3 Try.underlying3 Try.underlying24 Try.underlying143 (by kernel_rfl) rfl rfl (by kernel_rfl) (by kernel_rfl) Try.underlying5 Try.underlying3 h) (fun h => trod_lim Try.underlying29 (by kernel_rfl) ⟨rfl, rfl⟩ ⟨by kernel_rfl, by kernel_rfl⟩ Try.underlying5 Try.underlying27 (by kernel_rfl) Try.underlying5 h) Try.underlying5 Try.underlying5 Try.underlying30 Try.underlying30 Try.underlying30 Try.underlying4 Try.underlying3 (hval 0 32 v0 rfl rfl) h0
  obtain ⟨A1, n1, c1, l1, rfl, hn1, hr1, hw1, hc1, hm1, hk1⟩ := open_int_list Try.underlying33 Try.underlying3 cells_int (hval 1 33 v1 rfl rfl) h1
  clear hA0
  refine (walk s0 A0 n0 c0 hf0 hg0 A1 n1 c1 l1 hn1 hw1 hc1 hm1 hk1 W hr0 hr1).mono fun e W' ⟨he, hb⟩ => ?_
  subst he
  exact ⟨_, rfl, law_post laidOut (types_fit (by kernel_rfl)) (by kernel_rfl) Try.underlying4 rfl (fun xs hx => by
    match xs, hx with
    | [_, _], _ => rfl) hW' hb⟩

theorem lifted (os : Os) (started : os.Started) (H : Type) (enc : TypeId × Value → H) :
    ReturnsInHanded {} Try.checked os 10 .any (Rows.sensorValidSpec.pre6 enc Try.prog Try.f10 Rows.sensorValidRow.domain false) (Rows.sensorValidSpec.post enc Try.prog Try.f10 false true false false) := by
  refine returnsInHanded_of_change (C := Try.checked) own started (by kernel_rfl) Try.func10
    (ChangeSpec.witness6 (enc := enc) (C := Try.checked) false ⟨#[], #[.agg #[.int .u8 0, .int .u8 0, .int .u8 0, .string ⟨#[]⟩, .int .u8 0, .int .u8 0, .bool false, .int .i64 0, .bool false, .int .i64 0, .int .i64 0, .int .i64 0, .int .i64 0, .slice none 0 0, .int .u8 0, .int .u8 0, .int .u8 0, .int .u8 0, .int .u8 0, .int .u8 0, .int .u8 0, .int .u8 0, .int .u8 0, .int .u16 0, .int .u16 0, .int .u16 0, .bool false, .int .i64 0], .slice none 0 0], []⟩ 8 (by kernel_rfl) (by kernel_rfl) (by kernel_rfl) (by kernel_rfl)) ?_
  intro W base args ds gs before hval hW _ _
  exact contract H enc W base args ds gs before hval hW

theorem proved : Rows.SensorValidSaid :=
  OpenClaim.holds_of_wide 10 Try.f10 rfl rfl rfl rfl rfl rfl rfl ⟨rfl, rfl, rfl, rfl, rfl⟩ rfl rfl rfl rfl rfl (by kernel_rfl) Try.func10 (by kernel_rfl)
    (of_decide_eq_true (by kernel_rfl)) (by unfold Func.isWrapper; first | (rw [if_pos (by decide +kernel)]; kernel_rfl) | (rw [if_neg (by decide +kernel)]; exact ⟨rfl, rfl⟩))
    (fun os started H enc _ => lifted os started H enc)
end Go.Proofs.Ytcnkiecdagjgmaa.sensorValid
