/- ThresholdFlaps holds for every input: between two changes of one threshold the number of the reading has moved by more than the hysteresis. No condition. -/
import Derived.Test.YtcnkiecdagjgmaaYl
import Derived.Test.YtcnkiecdagjgmaaLaw2
namespace Go.Proofs.Ytcnkiecdagjgmaa.thresholdFlaps
open Go.RowKit Go.ChangeShapes Go.WideShapes Go.ChangeAt Go.Proofs.Ytcnkiecdagjgmaa.Mem Go.Proofs.Ytcnkiecdagjgmaa.F2p Go.Proofs.Ytcnkiecdagjgmaa.C4l Go.Proofs.Ytcnkiecdagjgmaa.Ta Go.Proofs.Ytcnkiecdagjgmaa.Tb Go.Proofs.Ytcnkiecdagjgmaa.Law Go.Proofs.Ytcnkiecdagjgmaa.Made Go.Proofs.Ytcnkiecdagjgmaa.D5 Go.Proofs.Ytcnkiecdagjgmaa.Tl Go.Proofs.Ytcnkiecdagjgmaa.Ya
set_option maxRecDepth 100000
set_option maxHeartbeats 1000000

theorem walk (A : Option Addr) (n c : Nat) (l : List Int) (hn : n = l.length) (hw : ∀ x ∈ l, -9223372036854775808 ≤ x ∧ x ≤ 9223372036854775807) (hc : n ≤ c) (hm : c ≤ maxLen) (_hA : A = none → c = 0)
    (B : Option Addr) (m mc : Nat) (rs : List UInt8) (hn2 : m = rs.length) (hc2 : m ≤ mc) (hm2 : mc ≤ maxLen) (_hA2 : B = none → mc = 0)
    (w : World) (hr : IRow w.heap.size w A l) (hr2 : Row w.heap.size w B rs) :
    Calls Try.prog 6 #[.slice A n c, .slice B m mc] w fun e w' => e = .returned (.bool true) ∧ Below w.heap.size w w' := by
  have hnm : n ≤ maxLen := by omega
  have hm80 : m ≤ maxLen := by omega
  have HN2 := Lib.hid hn2
  clear hn2 hc2 hm2 _hA2
  have HN := Lib.hid hn
  have HW := Lib.hid hw
  clear hn hw hc hm _hA
  have haw := Lib.hid (fun u => awake_q u)
  by_cases h6 : n ≤ 600
  case neg =>
    have d6 : decide (n ≤ 600) = false := decide_eq_false h6
    go_enter Try.func6, Try.ntmps6
    go_wp2_with fail
    refine (Made.lightmade_any A n c _ hnm).mono ?_
    rintro e w' ⟨rfl, rfl⟩
    rw [d6]
    go_wp2_with fail
    refine (haw.out _).mono ?_
    rintro e w3 ⟨rfl, hb3⟩
    go_wp2_with fail
    go_ret
    exact ⟨rfl, hb3⟩
  have d6 : decide (n ≤ 600) = true := decide_eq_true h6
  go_enter Try.func6, Try.ntmps6
  go_wp2_with fail
  refine (Made.lightmade_any A n c _ hnm).mono ?_
  rintro e w' ⟨rfl, rfl⟩
  rw [d6]
  by_cases h80 : m ≤ 80
  case neg =>
    have d80 : decide (80 < (m : Int)) = true := decide_eq_true (by omega)
    go_wp2_with fail
    refine (haw.out _).mono ?_
    rintro e w3 ⟨rfl, hb3⟩
    go_wp2_with fail
    go_ret
    exact ⟨rfl, hb3⟩
  have d80 : decide (80 < (m : Int)) = false := decide_eq_false (by omega)
  go_wp2_with fail
  refine (Made.roll_any A n c w).mono ?_
  rintro e w1 ⟨rfl, rfl⟩
  have hdz := Dz.start A n c l w hr HN.out HW.out (by omega)
  have hb1 : Below w.heap.size w (w.alloc (.cells #[.slice A n c, .int .i64 0] 104)) := (Below.refl _ _).alloc (Nat.le_refl _) _
  have hs1 : w.heap.size < (w.alloc (.cells #[.slice A n c, .int .i64 0] 104)).heap.size := by rw [World.size_alloc]; omega
  generalize w.alloc (.cells #[.slice A n c, .int .i64 0] 104) = w1 at *
  go_wp2_with fail
  refine (analog_any 1 hdz).mono ?_
  rintro e w2 ⟨s, V, rfl, hv, hfit, hnu, hd, hown, hdz2, hg2⟩
  obtain ⟨PA, pn, pc, rfl, hps⟩ := hown.sl
  have hb2 : Below w.heap.size w w2 := hb1.grown hg2 hb1.size (fun k hk => by injection hk; omega)
  have hz := Bx.zero w2
  have hba := (Below.refl w2.heap.size w2).alloc (Nat.le_refl _) (.cells #[.int .u8 0, .int .u8 0, .int .u8 0, .string ⟨#[]⟩, .int .u8 0, .int .u8 0, .bool false, .int .i64 0, .bool false, .int .i64 0, .int .i64 0, .int .i64 0, .int .i64 0, .slice none 0 0, .int .u8 0, .int .u8 0, .int .u8 0, .int .u8 0, .int .u8 0, .int .u8 0, .int .u8 0, .int .u8 0, .int .u8 0, .int .u16 0, .int .u16 0, .int .u16 0, .bool false, .int .i64 0] 32)
  clear hfit hnu hg2 hb1 hdz
  go_wp2_with (refine wpList_store_bx rfl (.tmp 5) (.tmp 27) rfl w2.heap.size s noSn (.slice PA pn pc) (.slice none 0 0) rfl rfl rfl hz ?_; intro w3 hx3 hg3; refine Hid.out ?_)
  refine Lib.hid ?_
  have hba := hba.grown hg3 hba.size (fun k hk => by injection hk; omega)
  have hps := hps.step hba
  have hown := Tl.pown_far (World.ownsRow.alloc hown _) hz hg3
  have hlt2 := hdz2.lt
  have hdz := hdz2.below hba hlt2
  have hgw : w.heap.size ≤ w2.heap.size := hb2.size
  have hbb := hb2.trans (hba.mono hb2.size)
  clear hba hg3 hz hdz2 hb2
  have HR2 := Lib.hid hr2
  clear hr2
  have hx3' := hx3.alloc (.cells #[.int .i64 1000, .int .i64 1000, .int .i64 1000, .int .i64 1000, .int .i64 1000, .int .i64 1000] 57)
  have hown' : POwn w1.heap.size (w3.alloc (.cells #[.int .i64 1000, .int .i64 1000, .int .i64 1000, .int .i64 1000, .int .i64 1000, .int .i64 1000] 57)) (.slice PA pn pc) s.c.p := World.ownsRow.alloc hown _
  have hbb' := hbb.alloc hbb.size (.cells #[.int .i64 1000, .int .i64 1000, .int .i64 1000, .int .i64 1000, .int .i64 1000, .int .i64 1000] 57)
  have hl0 : (w3.alloc (.cells #[.int .i64 1000, .int .i64 1000, .int .i64 1000, .int .i64 1000, .int .i64 1000, .int .i64 1000] 57)).heap[w3.heap.size]? = some (.cells #[.int .i64 1000, .int .i64 1000, .int .i64 1000, .int .i64 1000, .int .i64 1000, .int .i64 1000] 57 (0, 0)) := heap_alloc_new w3 _
  have hla : LAr (w3.alloc (.cells #[.int .i64 1000, .int .i64 1000, .int .i64 1000, .int .i64 1000, .int .i64 1000, .int .i64 1000] 57)) w3.heap.size (fun _ => 1000) := by
    refine ⟨_, hl0, rfl, fun j hj => ?_⟩
    rcases (show j = 0 ∨ j = 1 ∨ j = 2 ∨ j = 3 ∨ j = 4 ∨ j = 5 by omega) with rfl | rfl | rfl | rfl | rfl | rfl <;> rfl
  have hlb : w2.heap.size < w3.heap.size := hx3.lt
  clear hx3 hown hbb hl0
  go_wp2_with fail
  generalize w3.alloc (.cells #[.int .i64 1000, .int .i64 1000, .int .i64 1000, .int .i64 1000, .int .i64 1000, .int .i64 1000] 57) = w4 at *
  go_loopw [6, 8] (fun x i wr => ∃ k st : Nat, ∃ L : Nat → Int, k ≤ m ∧ i = .int .i64 (k : Int) ∧ x = .int .u8 (st : Int) ∧ Nest s st ∧ Bx wr w2.heap.size s (.slice PA pn pc) ∧ POwn w1.heap.size wr (.slice PA pn pc) s.c.p ∧ Below w.heap.size w wr ∧ LAr wr w3.heap.size L ∧ (∀ j, j < 6 → Lst s st j (L j)) ∧ (∀ j, j < 6 → -128 ≤ L j ∧ L j ≤ 1000)) (fun _ i _ => m - (intOf i).toNat)
  case atStart => exact ⟨0, 0, fun _ => 1000, by omega, rfl, rfl, nest_zero s, hx3', hown', hbb', hla, fun j _ => .inl rfl, fun j _ => ⟨by show (-128 : Int) ≤ 1000; omega, by show (1000 : Int) ≤ 1000; omega⟩⟩
  case round =>
    clear hx3' hown' hbb' hdz hps hlt2 hla
    obtain ⟨k, st, L, hk, rfl, rfl, hnest, hx3, hown, hbb, hla, hlst, hin⟩ := hrel
    by_cases hkm : k < m
    · have hkr : k < rs.length := by rw [← HN2.out]; exact hkm
      obtain ⟨p, hp, hpb, hcell⟩ := row_at (HR2.out.below hbb) hkr
      generalize rs[k] = X at *
      have hst := hnest.1
      have hHS := Lib.hid fun (u : World) (hu : PSl u PA pn pc s.c.p) => step_v s hv hd PA pn pc st (by omega) (nest_andn hnest) X u hu
      have hne := nest_next hv hd (C4p.num s.c.s X) hnest
      have hxb : -128 ≤ C4p.num s.c.s X ∧ C4p.num s.c.s X ≤ 1000 := by
        unfold C4p.num; have := X.toNat_lt; split <;> omega
      have HNU := Lib.hid fun (u : World) => C4v.number_r s.c.s X u
      have hflap := fun j (hj : j < 6) (h1 : L j ≠ 1000) (h2 : st.testBit j ≠ (nxt s (C4p.num s.c.s X) st).testBit j) => lst_flap hj (hlst j hj) h1 h2
      have hupd := upd_end (x := C4p.num s.c.s X) hlst
      have huin := fun q i hi => upd_in (a := st) (b := nxt s (C4p.num s.c.s X) st) (x := C4p.num s.c.s X) (L := L) (q := q) (i := i) hxb (hin i hi)
      generalize nxt s (C4p.num s.c.s X) st = a at *
      generalize C4p.num s.c.s X = NX at *
      subst hp
      have hx4 : Bx wr.drew w2.heap.size s (.slice PA pn pc) := hx3
      have hown4 : POwn w1.heap.size wr.drew (.slice PA pn pc) s.c.p := hown
      have hbb4 := below_drew hbb
      have hcell4 : wr.drew.cell? (p.add k) = some (.int .u8 (X.toNat : Int)) := hcell
      have hla4 : LAr wr.drew w3.heap.size L := hla
      have hc5 : ∀ V : World, Below wr.drew.heap.size wr.drew V → V.cell? (p.add k) = some (.int .u8 (X.toNat : Int)) := fun V h => (h.cell (by rw [add_block]; have := hbb4.size; omega)).trans hcell4
      have HC5 := Lib.hid hc5
      have HFL := Lib.hid hflap
      have HUP := Lib.hid hupd
      have HUI := Lib.hid huin
      have HIN := Lib.hid hin
      clear hx3 hown hbb hcell hc5 hla hflap hupd huin hlst hin
      go_wp2_with fail
      refine wp_region_held_drew (S := (fun W => Bx W w2.heap.size s (.slice PA pn pc) ∧ W.cell? (p.add k) = some (.int .u8 (X.toNat : Int)))) (by kernel_rfl) ?_ (fun hHeld => ?_)
      · (try dsimp only); exact ⟨hx4, hcell4⟩
      refine wpAnyH_take (i := 0) (oi := _) (v := ?vq1_0) rfl (by kernel_rfl) (by kernel_rfl) (by kernel_rfl) (fun _ _ _ h => h) (Or.inl ⟨rfl, ?yq1_0⟩) (by assumption) ?_
      case yq1_0 => intro w hSw; (try dsimp only at hSw); ((refine exec_load_bx2 (.tmp 5) ?_ ?_ hSw.1) <;> rfl)
      (try simp only [Act.put, List.getElem_toArray, List.getElem_cons_zero, List.setIfInBounds_toArray, List.set_cons_zero, List.set_cons_succ])
      refine wpAnyH_take (i := 1) (oi := _) (v := ?vq2_1) rfl (by kernel_rfl) (by kernel_rfl) (by kernel_rfl) (fun _ _ _ h => h) (Or.inl ⟨rfl, ?yq2_1⟩) (by assumption) ?_
      case yq2_1 => intro w hSw; (try dsimp only at hSw); go_simp; (try with_reducible rfl)
      (try simp only [Act.put, List.getElem_toArray, List.getElem_cons_succ, List.getElem_cons_zero, List.setIfInBounds_toArray, List.set_cons_zero, List.set_cons_succ])
      refine wpAnyH_take (i := 2) (oi := _) (v := ?vq3_2) rfl (by kernel_rfl) (by kernel_rfl) (by kernel_rfl) (fun _ _ _ h => h) (Or.inl ⟨rfl, ?yq3_2⟩) (by assumption) ?_
      case yq3_2 => intro w hSw; (try dsimp only at hSw); go_simp; (try with_reducible rfl)
      (try simp only [Act.put, List.getElem_toArray, List.getElem_cons_succ, List.getElem_cons_zero, List.setIfInBounds_toArray, List.set_cons_zero, List.set_cons_succ])
      refine wpAnyH_take (i := 3) (oi := _) (v := ?vq4_3) rfl (by kernel_rfl) (by kernel_rfl) (by kernel_rfl) (fun _ _ _ h => h) (Or.inl ⟨rfl, ?yq4_3⟩) (by assumption) ?_
      case yq4_3 => intro w hSw; (try dsimp only at hSw); go_simp; (try with_reducible rfl)
      (try simp only [Act.put, List.getElem_toArray, List.getElem_cons_succ, List.getElem_cons_zero, List.setIfInBounds_toArray, List.set_cons_zero, List.set_cons_succ])
      refine wpAnyH_take (i := 4) (oi := _) (v := ?vq5_4) rfl (by kernel_rfl) (by kernel_rfl) (by kernel_rfl) (fun _ _ _ h => h) (Or.inl ⟨rfl, ?yq5_4⟩) (by assumption) ?_
      case yq5_4 => intro w hSw; (try dsimp only at hSw); go_simp; (try with_reducible rfl)
      (try simp only [Act.put, List.getElem_toArray, List.getElem_cons_succ, List.getElem_cons_zero, List.setIfInBounds_toArray, List.set_cons_zero, List.set_cons_succ])
      refine wpAnyH_take (i := 5) (oi := _) (v := ?vq6_5) rfl (by kernel_rfl) (by kernel_rfl) (by kernel_rfl) (fun _ _ _ h => h) (Or.inl ⟨rfl, ?yq6_5⟩) (by assumption) ?_
      case yq6_5 => intro w hSw; have hSw := hSw.2; (try dsimp only at hSw); go_simp; (try with_reducible rfl)
      (try simp only [Act.put, List.getElem_toArray, List.getElem_cons_succ, List.getElem_cons_zero, List.setIfInBounds_toArray, List.set_cons_zero, List.set_cons_succ])
      refine wpAnyH_ready (rs := [6]) (by kernel_rfl) (by simp) ?_
      refine AllReadyH.cons (o := _) rfl (fun K hK => ?_) AllReadyH.nil
      go_simp
      go_at_call 21; refine (hHS.out _ (psl_own hown4)).mono ?_; rintro e u ⟨⟨v, rfl, ho⟩, hbu⟩
      refine hK.out _ _ ?_ (fun hHeld => ?_)
      · (try dsimp only); exact ⟨hx4.below hbu, HC5.out _ hbu⟩
      clear hK K
      (try simp only [Act.put, List.getElem_toArray, List.getElem_cons_succ, List.getElem_cons_zero, List.setIfInBounds_toArray, List.set_cons_zero, List.set_cons_succ])
      refine wpAnyH_take (i := 7) (oi := _) (v := ?vq7_7) rfl (by kernel_rfl) (by kernel_rfl) (by kernel_rfl) (fun _ _ _ h => h) (Or.inl ⟨rfl, ?yq7_7⟩) (by assumption) ?_
      case yq7_7 => intro w hSw; (try dsimp only at hSw); go_simp; (try with_reducible rfl)
      (try simp only [Act.put, List.getElem_toArray, List.getElem_cons_succ, List.getElem_cons_zero, List.setIfInBounds_toArray, List.set_cons_zero, List.set_cons_succ])
      refine wpAnyH_take (i := 8) (oi := _) (v := ?vq8_8) rfl (by kernel_rfl) (by kernel_rfl) (by kernel_rfl) (fun _ _ _ h => h) (Or.inl ⟨rfl, ?yq8_8⟩) (by assumption) ?_
      case yq8_8 => intro w hSw; (try dsimp only at hSw); go_simp; (try with_reducible rfl)
      (try simp only [Act.put, List.getElem_toArray, List.getElem_cons_succ, List.getElem_cons_zero, List.setIfInBounds_toArray, List.set_cons_zero, List.set_cons_succ])
      refine wpAnyH_take (i := 9) (oi := _) (v := ?vq9_9) rfl (by kernel_rfl) (by kernel_rfl) (by kernel_rfl) (fun _ _ _ h => h) (Or.inl ⟨rfl, ?yq9_9⟩) (by assumption) ?_
      case yq9_9 => intro w hSw; (try dsimp only at hSw); go_simp; (try with_reducible rfl)
      (try simp only [Act.put, List.getElem_toArray, List.getElem_cons_succ, List.getElem_cons_zero, List.setIfInBounds_toArray, List.set_cons_zero, List.set_cons_succ])
      refine wpAnyH_take (i := 10) (oi := _) (v := ?vq10_10) rfl (by kernel_rfl) (by kernel_rfl) (by kernel_rfl) (fun _ _ _ h => h) (Or.inl ⟨rfl, ?yq10_10⟩) (by assumption) ?_
      case yq10_10 => intro w hSw; (try dsimp only at hSw); go_simp; (try with_reducible rfl)
      (try simp only [Act.put, List.getElem_toArray, List.getElem_cons_succ, List.getElem_cons_zero, List.setIfInBounds_toArray, List.set_cons_zero, List.set_cons_succ])
      refine wpAnyH_take (i := 11) (oi := _) (v := ?vq11_11) rfl (by kernel_rfl) (by kernel_rfl) (by kernel_rfl) (fun _ _ _ h => h) (Or.inl ⟨rfl, ?yq11_11⟩) (by assumption) ?_
      case yq11_11 => intro w hSw; (try dsimp only at hSw); go_simp; (try with_reducible rfl)
      (try simp only [Act.put, List.getElem_toArray, List.getElem_cons_succ, List.getElem_cons_zero, List.setIfInBounds_toArray, List.set_cons_zero, List.set_cons_succ])
      refine wpAnyH_take (i := 12) (oi := _) (v := ?vq12_12) rfl (by kernel_rfl) (by kernel_rfl) (by kernel_rfl) (fun _ _ _ h => h) (Or.inl ⟨rfl, ?yq12_12⟩) (by assumption) ?_
      case yq12_12 => intro w hSw; (try dsimp only at hSw); go_simp; (try with_reducible rfl)
      (try simp only [Act.put, List.getElem_toArray, List.getElem_cons_succ, List.getElem_cons_zero, List.setIfInBounds_toArray, List.set_cons_zero, List.set_cons_succ])
      refine wpAnyH_take (i := 13) (oi := _) (v := ?vq13_13) rfl (by kernel_rfl) (by kernel_rfl) (by kernel_rfl) (fun _ _ _ h => h) (Or.inl ⟨rfl, ?yq13_13⟩) (by assumption) ?_
      case yq13_13 => intro w hSw; (try dsimp only at hSw); go_simp; (try with_reducible rfl)
      (try simp only [Act.put, List.getElem_toArray, List.getElem_cons_succ, List.getElem_cons_zero, List.setIfInBounds_toArray, List.set_cons_zero, List.set_cons_succ])
      refine wpAnyH_done (by kernel_rfl) ?_ _
      have hx5 := hx4.below hbu
      have hown5 := pown_below hown4 hbu
      have hbb5 := hbb4.trans (hbu.mono hbb4.size)
      have hla5 := hla4.below hbu
      have hcell5 := HC5.out _ hbu
      have c8 : u.cell? ⟨w2.heap.size, 8, none⟩ = some (.bool s.c.s) := hx5.c 8
      have hlu := hla4.lt
      obtain ⟨MA, mn, mc2, rfl, hms⟩ := ho.sl
      have hmn : mn = (ixs st a 6).length := hms.len.trans (chs_len2 st a 6)
      have hmn6 : mn ≤ 6 := by rw [hmn]; exact ixs_len st a 6
      have HMN := Lib.hid hmn
      have HNE := Lib.hid hne
      have ha64 := hne.1
      clear hx4 hown4 hbb4 hbu hcell4 hnest hne hHS HC5 hla4 hms hmn
      go_wp2_with fail
      go_quiet ((go_at_call 28; with_reducible exact quiet_same (HNU.out _)))
      have hla6 : LAr (u.drewN nq) w3.heap.size (upd st a NX L 0) := hla5.congr fun i _ => upd_zero st a NX L i
      have hx6 : Bx (u.drewN nq) w2.heap.size s (.slice PA pn pc) := hx5
      have hown6 : POwn w1.heap.size (u.drewN nq) (.slice PA pn pc) s.c.p := hown5
      have hbb6 : Below w.heap.size w (u.drewN nq) := ⟨hbb5.os, hbb5.tape, hbb5.output, hbb5.size, hbb5.block⟩
      have ho6 : KOwn wr.drew.heap.size (u.drewN nq) (.slice MA mn mc2) (chs st a 6) := ho
      generalize wr.drew.heap.size = bs at *
      clear hla5 hx5 hown5 hbb5 ho c8 hcell5
      go_wp2_with fail
      clear hHeld
      generalize u.drewN nq = w5 at *
      go_loopw [13] (fun i wq => ∃ q : Nat, q ≤ mn ∧ i = .int .i64 (q : Int) ∧ LAr wq w3.heap.size (upd st a NX L q) ∧ Bx wq w2.heap.size s (.slice PA pn pc) ∧ POwn w1.heap.size wq (.slice PA pn pc) s.c.p ∧ Below w.heap.size w wq ∧ KOwn bs wq (.slice MA mn mc2) (chs st a 6)) (fun i _ => mn - (intOf i).toNat)
      case atStart => exact ⟨0, by omega, rfl, hla6, hx6, hown6, hbb6, ho6⟩
      case round =>
        clear hla6 hx6 hown6 hbb6 ho6
        obtain ⟨q, hq, rfl, hla, hx, hown, hbb, ho⟩ := hrel
        by_cases hqm : q < mn
        · have hqi : q < (ixs st a 6).length := by rw [← HMN.out]; exact hqm
          have hqc : q < (chs st a 6).length := by rw [chs_len2]; exact hqi
          obtain ⟨pp, rfl, hppb, h0, -⟩ := krow_at (ksl_own ho).row hqc
          rw [chs_get st a 6 q hqc hqi] at h0
          dsimp only at h0
          obtain ⟨hj, hdj⟩ := ixs_get st a 6 q hqi
          have huo := upd_old st a NX L q hqi
          have HNXT := Lib.hid fun i => upd_next st a NX L q hqi i
          generalize (ixs st a 6)[q] = j at *
          have cj := hla.cell hj
          rw [huo] at cj
          have zf := hla.fz j
          have c21 : wr.cell? ⟨w2.heap.size, 21, none⟩ = some (.int .u8 (s.hl.toNat : Int)) := hx.c 21
          have c22 : wr.cell? ⟨w2.heap.size, 22, none⟩ = some (.int .u8 (s.hu.toNat : Int)) := hx.c 22
          have hlj := HIN.out j hj
          have hfl := fun h => HFL.out j hj h hdj
          have hlhl := s.hl.toNat_lt
          have hlhu := s.hu.toNat_lt
          generalize L j = Lj at *
          have HX := Lib.hid hx
          have HO := Lib.hid hown
          have HK := Lib.hid ho
          have HLA := Lib.hid hla
          have HBB := Lib.hid hbb
          unfold hys at hfl
          clear hx hown ho hla hbb huo
          have n1 : decide ((j : Int) < 0) = false := decide_eq_false (by omega)
          have n2 : decide (5 < (j : Int)) = false := decide_eq_false (by omega)
          by_cases hj3 : j ≤ 2
          · have n3 : decide (3 ≤ (j : Int)) = false := decide_eq_false (by omega)
            rw [if_pos hj3] at hfl
            go_wp2_with fail
            have b1 : (0 : Int) ≤ (j : Int) := by omega
            have b2 : (j : Int) < 6 := by omega
            by_cases h1000 : Lj = 1000
            · subst h1000
              go_quiet (fail)
              have hla : LAr (wr.drewN nq) w3.heap.size (upd st a NX L q) := HLA.out
              have hx : Bx (wr.drewN nq) w2.heap.size s (.slice PA pn pc) := HX.out
              have hown : POwn w1.heap.size (wr.drewN nq) (.slice PA pn pc) s.c.p := HO.out
              have hbb : Below w.heap.size w (wr.drewN nq) := ⟨HBB.out.os, HBB.out.tape, HBB.out.output, HBB.out.size, HBB.out.block⟩
              have ho : KOwn bs (wr.drewN nq) (.slice (some pp) mn mc2) (chs st a 6) := HK.out
              have zf : (wr.drewN nq).frozen? ⟨w3.heap.size, j, none⟩ = false := hla.fz j
              have cj := hla.cell hj
              clear HX HO HK HLA HBB c21 c22 h0
              generalize wr.drewN nq = w6 at *
              have hla' := (hla.set hj NX).congr (fun i _ => HNXT.out i)
              have hx' := hx.kept (set_grown w6 w3.heap.size j (.int .i64 NX)) (fun e => by injection e; omega)
              have hown' := pown_set hown hla j (.int .i64 NX)
              have hbb' := hbb.setCell (p := ⟨w3.heap.size, j, none⟩) (by show w.heap.size ≤ w3.heap.size; omega) (.int .i64 NX)
              have ho' := kown_kept ho (set_grown w6 w3.heap.size j (.int .i64 NX)) hlu
              clear hla hx hown hbb ho
              go_wp2_with fail
              all_goals first
                | exact ⟨⟨q + 1, by omega, by go_num, hla', hx', hown', hbb', ho'⟩, by simp [intOf]; omega⟩
                | (exfalso; omega)
                | (go_goals; fail)
            · have hf2 := hfl h1000
              have kne : (Lj != 1000) = true := by rw [bne_iff_ne]; exact h1000
              go_quiet (fail)
              have hla : LAr (wr.drewN nq) w3.heap.size (upd st a NX L q) := HLA.out
              have hx : Bx (wr.drewN nq) w2.heap.size s (.slice PA pn pc) := HX.out
              have hown : POwn w1.heap.size (wr.drewN nq) (.slice PA pn pc) s.c.p := HO.out
              have hbb : Below w.heap.size w (wr.drewN nq) := ⟨HBB.out.os, HBB.out.tape, HBB.out.output, HBB.out.size, HBB.out.block⟩
              have ho : KOwn bs (wr.drewN nq) (.slice (some pp) mn mc2) (chs st a 6) := HK.out
              have zf : (wr.drewN nq).frozen? ⟨w3.heap.size, j, none⟩ = false := hla.fz j
              have cj := hla.cell hj
              clear HX HO HK HLA HBB c21 c22 h0
              generalize wr.drewN nq = w6 at *
              have hla' := (hla.set hj NX).congr (fun i _ => HNXT.out i)
              have hx' := hx.kept (set_grown w6 w3.heap.size j (.int .i64 NX)) (fun e => by injection e; omega)
              have hown' := pown_set hown hla j (.int .i64 NX)
              have hbb' := hbb.setCell (p := ⟨w3.heap.size, j, none⟩) (by show w.heap.size ≤ w3.heap.size; omega) (.int .i64 NX)
              have ho' := kown_kept ho (set_grown w6 w3.heap.size j (.int .i64 NX)) hlu
              clear hla hx hown hbb ho
              go_wp2_with fail
              all_goals first
                | exact ⟨⟨q + 1, by omega, by go_num, hla', hx', hown', hbb', ho'⟩, by simp [intOf]; omega⟩
                | (exfalso; omega)
                | (go_goals; fail)
          · have n3 : decide (3 ≤ (j : Int)) = true := decide_eq_true (by omega)
            rw [if_neg hj3] at hfl
            go_wp2_with fail
            have b1 : (0 : Int) ≤ (j : Int) := by omega
            have b2 : (j : Int) < 6 := by omega
            by_cases h1000 : Lj = 1000
            · subst h1000
              go_quiet (fail)
              have hla : LAr (wr.drewN nq) w3.heap.size (upd st a NX L q) := HLA.out
              have hx : Bx (wr.drewN nq) w2.heap.size s (.slice PA pn pc) := HX.out
              have hown : POwn w1.heap.size (wr.drewN nq) (.slice PA pn pc) s.c.p := HO.out
              have hbb : Below w.heap.size w (wr.drewN nq) := ⟨HBB.out.os, HBB.out.tape, HBB.out.output, HBB.out.size, HBB.out.block⟩
              have ho : KOwn bs (wr.drewN nq) (.slice (some pp) mn mc2) (chs st a 6) := HK.out
              have zf : (wr.drewN nq).frozen? ⟨w3.heap.size, j, none⟩ = false := hla.fz j
              have cj := hla.cell hj
              clear HX HO HK HLA HBB c21 c22 h0
              generalize wr.drewN nq = w6 at *
              have hla' := (hla.set hj NX).congr (fun i _ => HNXT.out i)
              have hx' := hx.kept (set_grown w6 w3.heap.size j (.int .i64 NX)) (fun e => by injection e; omega)
              have hown' := pown_set hown hla j (.int .i64 NX)
              have hbb' := hbb.setCell (p := ⟨w3.heap.size, j, none⟩) (by show w.heap.size ≤ w3.heap.size; omega) (.int .i64 NX)
              have ho' := kown_kept ho (set_grown w6 w3.heap.size j (.int .i64 NX)) hlu
              clear hla hx hown hbb ho
              go_wp2_with fail
              all_goals first
                | exact ⟨⟨q + 1, by omega, by go_num, hla', hx', hown', hbb', ho'⟩, by simp [intOf]; omega⟩
                | (exfalso; omega)
                | (go_goals; fail)
            · have hf2 := hfl h1000
              have kne : (Lj != 1000) = true := by rw [bne_iff_ne]; exact h1000
              go_quiet (fail)
              have hla : LAr (wr.drewN nq) w3.heap.size (upd st a NX L q) := HLA.out
              have hx : Bx (wr.drewN nq) w2.heap.size s (.slice PA pn pc) := HX.out
              have hown : POwn w1.heap.size (wr.drewN nq) (.slice PA pn pc) s.c.p := HO.out
              have hbb : Below w.heap.size w (wr.drewN nq) := ⟨HBB.out.os, HBB.out.tape, HBB.out.output, HBB.out.size, HBB.out.block⟩
              have ho : KOwn bs (wr.drewN nq) (.slice (some pp) mn mc2) (chs st a 6) := HK.out
              have zf : (wr.drewN nq).frozen? ⟨w3.heap.size, j, none⟩ = false := hla.fz j
              have cj := hla.cell hj
              clear HX HO HK HLA HBB c21 c22 h0
              generalize wr.drewN nq = w6 at *
              have hla' := (hla.set hj NX).congr (fun i _ => HNXT.out i)
              have hx' := hx.kept (set_grown w6 w3.heap.size j (.int .i64 NX)) (fun e => by injection e; omega)
              have hown' := pown_set hown hla j (.int .i64 NX)
              have hbb' := hbb.setCell (p := ⟨w3.heap.size, j, none⟩) (by show w.heap.size ≤ w3.heap.size; omega) (.int .i64 NX)
              have ho' := kown_kept ho (set_grown w6 w3.heap.size j (.int .i64 NX)) hlu
              clear hla hx hown hbb ho
              go_wp2_with fail
              all_goals first
                | exact ⟨⟨q + 1, by omega, by go_num, hla', hx', hown', hbb', ho'⟩, by simp [intOf]; omega⟩
                | (exfalso; omega)
                | (go_goals; fail)
        · obtain rfl : q = mn := by omega
          have hla2 := hla.congr (L' := upd st a NX L (ixs st a 6).length) (fun i _ => by rw [HMN.out])
          go_wp2_with fail
          exact ⟨⟨k + 1, a, _, by omega, by go_num, rfl, HNE.out, hx, hown, hbb, hla2, HUP.out, fun j hj => HUI.out _ j hj⟩, by simp [intOf]; omega⟩
    · obtain rfl : k = m := by omega
      go_wp2_with fail
      refine (haw.out _).mono ?_
      rintro e w8 ⟨rfl, hb8⟩
      go_wp2_with fail
      go_ret
      exact ⟨rfl, hbb.trans (hb8.mono hbb.size)⟩

theorem cells_u8 : Try.prog.cellsOf 5 = 1 := by kernel_rfl
theorem cells_int : Try.prog.cellsOf 3 = 1 := by kernel_rfl
theorem own : ownKnob Try.prog.godebug = none := by kernel_rfl
theorem laidOut : laidOutB Try.prog = true := by kernel_rfl
theorem contract (H : Type) (enc : TypeId × Value → H) (W : World) (base : Nat) (args : Array Value) (ds gs : List (DataW H)) (before : List MemPlace)
    (hval : ∀ (j : Nat) t v, Try.f6.params[j]? = some t → args[j]? = some v → Value.okWide Try.prog W .any base t v)
    (hW : DataW.Whole enc Try.prog Try.f6.params.toList Rows.thresholdFlapsSpec.vars false W args.toList ds gs before) :
    Calls Try.prog 6 args W fun e W' => ∃ v, e = .returned v ∧ Rows.thresholdFlapsSpec.post enc Try.prog Try.f6 false true false false W args v W' := by
  have hW' := hW
  obtain ⟨p, q, hA0, hV, rfl, hfz, hnd⟩ := hW
  have hA : DataW.TrodAll enc Try.prog W 0 (fun _ => true) true Try.f6.params.toList args.toList ds p := hA0
  rw [Try.params6] at hA hval
  obtain ⟨v0, vs0, d0, ds0, p0, q0, hargs, rfl, rfl, h0, r0⟩ := trodAll_cons hA
  obtain ⟨v1, vs1, d1, ds1, p1, q1, rfl, rfl, rfl, h1, r1⟩ := trodAll_cons r0
  obtain ⟨rfl, rfl, rfl⟩ := trodAll_nil r1
  obtain rfl : args = #[v0, v1] := by cases args; simp_all
  obtain ⟨A0, n0, c0, l0, rfl, hn0, hr0, hw0, hc0, hm0, hk0⟩ := open_int_list Try.underlying33 Try.underlying3 cells_int (hval 0 33 v0 rfl rfl) h0
  obtain ⟨A1, n1, c1, l1, rfl, hn1, hr1, hc1, hm1, hk1⟩ := open_bytes Try.underlying42 Try.underlying5 cells_u8 (hval 1 42 v1 rfl rfl) h1
  clear hA0
  refine (walk A0 n0 c0 l0 hn0 hw0 hc0 hm0 hk0 A1 n1 c1 l1 hn1 hc1 hm1 hk1 W hr0 hr1).mono fun e W' ⟨he, hb⟩ => ?_
  subst he
  exact ⟨_, rfl, law_post laidOut (types_fit (by kernel_rfl)) (by kernel_rfl) Try.underlying4 rfl (fun xs hx => by
    match xs, hx with
    | [_, _], _ => rfl) hW' hb⟩

theorem lifted (os : Os) (started : os.Started) (H : Type) (enc : TypeId × Value → H) :
    ReturnsInHanded {} Try.checked os 6 .any (Rows.thresholdFlapsSpec.pre6 enc Try.prog Try.f6 Rows.thresholdFlapsRow.domain false) (Rows.thresholdFlapsSpec.post enc Try.prog Try.f6 false true false false) := by
  refine returnsInHanded_of_change (C := Try.checked) own started (by kernel_rfl) Try.func6
    (ChangeSpec.witness6 (enc := enc) (C := Try.checked) false ⟨#[], #[.slice none 0 0, .slice none 0 0], []⟩ 8 (by kernel_rfl) (by kernel_rfl) (by kernel_rfl) (by kernel_rfl)) ?_
  intro W base args ds gs before hval hW _ _
  exact contract H enc W base args ds gs before hval hW

theorem proved : Rows.ThresholdFlapsSaid :=
  OpenClaim.holds_of_wide 6 Try.f6 rfl rfl rfl rfl rfl rfl rfl ⟨rfl, rfl, rfl, rfl, rfl⟩ rfl rfl rfl rfl rfl (by kernel_rfl) Try.func6 (by kernel_rfl)
    (of_decide_eq_true (by kernel_rfl)) (by unfold Func.isWrapper; first | (rw [if_pos (by decide +kernel)]; kernel_rfl) | (rw [if_neg (by decide +kernel)]; exact ⟨rfl, rfl⟩))
    (fun os started H enc _ => lifted os started H enc)
end Go.Proofs.Ytcnkiecdagjgmaa.thresholdFlaps
