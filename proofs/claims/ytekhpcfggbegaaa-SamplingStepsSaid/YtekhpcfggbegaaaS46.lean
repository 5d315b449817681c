/- Walks: the sanity check of layer 14. -/
import Derived.Test.YtekhpcfggbegaaaS45
namespace Go.Proofs.Ytekhpcfggbegaaa.Jk
open Go.RowKit Go.Proofs.Ytekhpcfggbegaaa.Mem Go.Proofs.Ytekhpcfggbegaaa.F2p Go.Proofs.Ytekhpcfggbegaaa.C4l Go.Proofs.Ytekhpcfggbegaaa.Ta Go.Proofs.Ytekhpcfggbegaaa.Tb Go.Proofs.Ytekhpcfggbegaaa.Ja Go.Proofs.Ytekhpcfggbegaaa.Jd
set_option maxRecDepth 100000
set_option maxHeartbeats 4000000

def exS : Sn := { noSn with nm := ⟨#[116]⟩, sm := 3, c := ⟨1, false, 1, 0, 0, 0, []⟩ }
theorem exS_v : vs exS = true := by decide +kernel
theorem example_p (w : World) : Calls Try.prog 49 #[] w fun e w' => e = .returned (.agg (cells exS (.slice none 0 0))) ∧ Below w.heap.size w w' := by
  have hb0 : Below w.heap.size w (w.alloc (.cells #[.int .u8 0, .int .u8 0, .int .u8 0, .string ⟨#[]⟩, .int .u8 0, .int .u8 0, .bool false, .int .i64 0, .bool false, .int .i64 0, .int .i64 0, .int .i64 0, .int .i64 0, .slice none 0 0, .int .u8 0, .int .u8 0, .int .u8 0, .int .u8 0, .int .u8 0, .int .u8 0, .int .u8 0, .int .u8 0, .int .u8 0, .int .u16 0, .int .u16 0, .int .u16 0, .bool false, .int .i64 0] 32)) := (Below.refl _ _).alloc (Nat.le_refl _) _
  have hx0 := Bx.zero w
  go_enter Try.func49, Try.ntmps49
  go_wp2_with (refine wpList_store_bx rfl (.tmp 0) (.tmp 2) rfl w.heap.size exS noSn (.slice none 0 0) (.slice none 0 0) rfl rfl rfl hx0 ?_; intro w1 hx1 hg1; refine Hid.out ?_)
  refine Lib.hid ?_
  have hb1 := hb0.grown hg1 hb0.size (fun k hk => by injection hk; omega)
  clear hx0 hb0 hg1
  go_wp2_with fail
  exact out_bx1 (p := 0) Try.results49 rfl rfl hx1 ⟨rfl, hb1⟩
def Wk : Nat → List UInt8
  | 0 => []
  | 1 => [10]
  | 2 => [10, 200]
  | 3 => [10, 200, 12]
  | _ => [200, 12, 11]
def Rk : Nat → UInt8
  | 0 => 10
  | 1 => 200
  | 2 => 12
  | _ => 11
theorem ex_st (k : Nat) (hk : k < 4) : stW true 3 (Wk k) 0 (Rk k) true = Wk (k + 1) ∧ stM true 3 (Wk k) 0 true = 0 ∧ stE true 3 (Wk k) 0 = 0 := by
  rcases (show k = 0 ∨ k = 1 ∨ k = 2 ∨ k = 3 by omega) with rfl | rfl | rfl | rfl <;> decide
theorem ex_full (k : Nat) (hk : k < 4) : full exS (Wk (k + 1)) 0 = decide (2 ≤ k) := by
  unfold full
  rw [exS_v]
  rcases (show k = 0 ∨ k = 1 ∨ k = 2 ∨ k = 3 by omega) with rfl | rfl | rfl | rfl <;> decide
theorem ex_med (k : Nat) (hk : k < 4) (h2 : 2 ≤ k) (x : UInt8) (h : Med false (Wk (k + 1)) x) : x = 12 := by
  rcases (show k = 2 ∨ k = 3 by omega) with rfl | rfl
  · exact h.one ⟨by decide, by decide, by decide⟩
  · exact h.one ⟨by decide, by decide, by decide⟩
theorem awake_any (w : World) : Calls Try.prog 12 #[] w fun e w' => e = .returned (.bool true) ∧ Below w.heap.size w w' := by
  have HEX := Lib.hid fun (u : World) => example_p u
  have HST0 := Lib.hid fun (u : World) (FA : Option Addr) (fn fc : Nat) (lf : List UInt8) (raw : UInt8) (hf : Sl u FA fn fc lf) => step_p exS none 0 0 FA fn fc lf 0 raw true u PSl.none (show (1 : Nat) ≤ maxLen by unfold maxLen; omega) hf
  have HRD0 := Lib.hid fun (u : World) (FA : Option Addr) (fn fc : Nat) (lf : List UInt8) (hf : Sl u FA fn fc lf) => read_p exS none 0 0 FA fn fc lf 0 u PSl.none (show (1 : Nat) ≤ maxLen by unfold maxLen; omega) hf
  rw [exS_v, show exS.sm = 3 from rfl] at HST0
  have hb0 : Below w.heap.size w (w.alloc (.cells #[.slice none 0 0, .int .i64 0] 35)) := (Below.refl _ _).alloc (Nat.le_refl _) _
  have hb1 := hb0.alloc hb0.size (.cells #[.int .u8 10, .int .u8 200, .int .u8 12, .int .u8 11] 97)
  have hf0 : FBx ((w.alloc (.cells #[.slice none 0 0, .int .i64 0] 35)).alloc (.cells #[.int .u8 10, .int .u8 200, .int .u8 12, .int .u8 11] 97)) w.heap.size (.slice none 0 0) 0 := FBx.alloc (show FBx (w.alloc (.cells #[.slice none 0 0, .int .i64 0] 35)) w.heap.size (.slice none 0 0) 0 from heap_alloc_new w _) _
  have hr0 : ((w.alloc (.cells #[.slice none 0 0, .int .i64 0] 35)).alloc (.cells #[.int .u8 10, .int .u8 200, .int .u8 12, .int .u8 11] 97)).heap[w.heap.size + 1]? = some (.cells #[.int .u8 10, .int .u8 200, .int .u8 12, .int .u8 11] 97 (0, 0)) := by
    have := heap_alloc_new (w.alloc (.cells #[.slice none 0 0, .int .i64 0] 35)) (.cells #[.int .u8 10, .int .u8 200, .int .u8 12, .int .u8 11] 97)
    rwa [World.size_alloc] at this
  clear hb0
  go_enter Try.func12, Try.ntmps12
  go_wp2_with fail
  generalize ((w.alloc (.cells #[.slice none 0 0, .int .i64 0] 35)).alloc (.cells #[.int .u8 10, .int .u8 200, .int .u8 12, .int .u8 11] 97)) = w0 at *
  go_loopw [3] (fun v wr => ∃ (k : Nat) (FA : Option Addr) (fn fc : Nat), k ≤ 4 ∧ v = .int .i64 (k : Int) ∧ FBx wr w.heap.size (.slice FA fn fc) 0 ∧ wr.heap[w.heap.size + 1]? = some (.cells #[.int .u8 10, .int .u8 200, .int .u8 12, .int .u8 11] 97 (0, 0)) ∧ Je.SlN (w.heap.size + 1 + 1) wr FA fn fc (Wk k) ∧ Below w.heap.size w wr) (fun v _ => 4 - (intOf v).toNat)
  case atStart => exact ⟨0, none, 0, 0, by omega, rfl, hf0, hr0, Je.SlN.none, hb1⟩
  case round =>
    clear hf0 hr0 hb1
    obtain ⟨k, FA, fn, fc, hk, rfl, hf, hr, hs, hb⟩ := hrel
    by_cases hk4 : k < 4
    · have hlt1 : w.heap.size + 1 < wr.heap.size := by
        rcases Nat.lt_or_ge (w.heap.size + 1) wr.heap.size with h1 | h1
        · exact h1
        · rw [Array.getElem?_eq_none h1] at hr; cases hr
      have hck : wr.cell? ⟨w.heap.size + 1, k, none⟩ = some (.int .u8 ((Rk k).toNat : Int)) := by
        rw [cell_of_row wr (w.heap.size + 1) k _ _ _ hr]
        rcases (show k = 0 ∨ k = 1 ∨ k = 2 ∨ k = 3 by omega) with rfl | rfl | rfl | rfl <;> rfl
      obtain ⟨e1, e2, e3⟩ := ex_st k hk4
      have efl := ex_full k hk4
      have HMD := Lib.hid (ex_med k hk4)
      have HST : Hid (∀ u, Below wr.heap.size wr u → Calls Try.prog 18 #[.agg (cells exS (.slice none 0 0)), .agg #[.slice FA fn fc, .int .i64 0], .int .u8 ((Rk k).toNat : Int), .bool true] u (StO u (Wk (k + 1)) 0 0)) := Lib.hid fun u hu => by
        have := HST0.out u FA fn fc (Wk k) (Rk k) (hs.1.step hu)
        rw [e1, e2, e3] at this
        exact this
      have HRD : Hid (∀ u FB fm fd, Sl u FB fm fd (Wk (k + 1)) → Calls Try.prog 20 #[.agg (cells exS (.slice none 0 0)), .agg #[.slice FB fm fd, .int .i64 0]] u (RdO u false (Wk (k + 1)) (decide (2 ≤ k)))) := Lib.hid fun u FB fm fd hu => by
        have := HRD0.out u FB fm fd (Wk (k + 1)) hu
        rw [efl] at this
        exact this
      have KEEP : Hid (∀ U, Below wr.heap.size wr U → FBx U w.heap.size (.slice FA fn fc) 0 ∧ U.cell? ⟨w.heap.size + 1, k, none⟩ = some (.int .u8 ((Rk k).toNat : Int))) := Lib.hid fun U hU => ⟨hf.below hU, (hU.cell (p := ⟨w.heap.size + 1, k, none⟩) hlt1).trans hck⟩
      have HF := Lib.hid hf
      have HR := Lib.hid hr
      have HB := Lib.hid hb
      have n1 : (0 : Int) ≤ (k : Int) := by omega
      have n2 : (k : Int) < 4 := by omega
      clear hf hr hs e1 e2 e3 efl hck hb
      go_wp2_with fail
      obtain ⟨v, hv⟩ : ∃ u, u = wr.drew := ⟨_, rfl⟩
      have hq : Below wr.heap.size wr v := by rw [hv]; exact below_drew (Below.refl _ _)
      go_cut [4, 5] from 10 to 42 (fun g e wx => ∃ G : Nat, g = .pointer (some ⟨G, 0, none⟩) ∧ e = .int .i64 0 ∧ ∃ FB fm fd, FBx wx G (.slice FB fm fd) 0 ∧ Je.SlN wr.heap.size wx FB fm fd (Wk (k + 1)) ∧ Below wr.heap.size wr wx ∧ wr.heap.size ≤ G)
      case first =>
        refine wp_region_held_drew (S := (fun W => FBx W w.heap.size (.slice FA fn fc) 0 ∧ W.cell? ⟨w.heap.size + 1, k, none⟩ = some (.int .u8 ((Rk k).toNat : Int)))) (by kernel_rfl) ?_ (fun hHeld => ?_)
        · (try dsimp only); rw [← hv]; exact KEEP.out _ hq
        generalize wr.drew = vg at *
        subst hv
        refine wpAnyH_take (i := 1) (oi := _) (v := ?vq1_1) rfl (by kernel_rfl) (by kernel_rfl) (by kernel_rfl) (fun _ _ _ h => h) (Or.inl ⟨rfl, ?yq1_1⟩) (by assumption) ?_
        case yq1_1 => intro w hSw; (try dsimp only at hSw); ((refine exec_load_f2 (.tmp 1) ?_ ?_ hSw.1) <;> rfl)
        (try simp only [Act.put, List.getElem_toArray, List.getElem_cons_succ, List.getElem_cons_zero, List.setIfInBounds_toArray, List.set_cons_zero, List.set_cons_succ])
        refine wpAnyH_take (i := 2) (oi := _) (v := ?vq2_2) rfl (by kernel_rfl) (by kernel_rfl) (by kernel_rfl) (fun _ _ _ h => h) (Or.inl ⟨rfl, ?yq2_2⟩) (by assumption) ?_
        case yq2_2 => intro w hSw; have hSw := hSw.2; (try dsimp only at hSw); go_simp; (try with_reducible rfl)
        (try simp only [Act.put, List.getElem_toArray, List.getElem_cons_succ, List.getElem_cons_zero, List.setIfInBounds_toArray, List.set_cons_zero, List.set_cons_succ])
        refine wpAnyH_take (i := 3) (oi := _) (v := ?vq3_3) rfl (by kernel_rfl) (by kernel_rfl) (by kernel_rfl) (fun _ _ _ h => h) (Or.inl ⟨rfl, ?yq3_3⟩) (by assumption) ?_
        case yq3_3 => intro w hSw; have hSw := hSw.2; (try dsimp only at hSw); go_simp; (try with_reducible rfl)
        (try simp only [Act.put, List.getElem_toArray, List.getElem_cons_succ, List.getElem_cons_zero, List.setIfInBounds_toArray, List.set_cons_zero, List.set_cons_succ])
        refine wpAnyH_take (i := 4) (oi := _) (v := ?vq4_4) rfl (by kernel_rfl) (by kernel_rfl) (by kernel_rfl) (fun _ _ _ h => h) (Or.inl ⟨rfl, ?yq4_4⟩) (by assumption) ?_
        case yq4_4 => intro w hSw; have hSw := hSw.2; (try dsimp only at hSw); go_simp; (try with_reducible rfl)
        (try simp only [Act.put, List.getElem_toArray, List.getElem_cons_succ, List.getElem_cons_zero, List.setIfInBounds_toArray, List.set_cons_zero, List.set_cons_succ])
        refine wpAnyH_ready (rs := [0, 9]) (by kernel_rfl) (by simp) ?_
        refine (AllReadyH.cons (o := _) rfl (fun K hK => ?_) (AllReadyH.cons (o := _) rfl (fun K hK => ?_) AllReadyH.nil))
        · skip
          go_simp
          go_at_call 49
          refine (HEX.out _).mono ?_
          rintro e u1 ⟨rfl, hu1⟩
          have hq := hq.trans (hu1.mono hq.size)
          refine hK.out _ _ ?_ (fun hHeld => ?_)
          · (try dsimp only); exact KEEP.out _ hq
          clear hK K
          (try simp only [Act.put, List.getElem_toArray, List.getElem_cons_succ, List.getElem_cons_zero, List.setIfInBounds_toArray, List.set_cons_zero, List.set_cons_succ])
          refine wpAnyH_ready (rs := [5, 9]) (by kernel_rfl) (by simp) ?_
          refine (AllReadyH.cons (o := _) rfl (fun K hK => ?_) (AllReadyH.cons (o := _) rfl (fun K hK => ?_) AllReadyH.nil))
          · skip
            go_simp
            go_at_call 18
            have hbase : wr.heap.size ≤ (u1).heap.size := hq.size
            refine (HST.out _ hq).mono ?_
            rintro e u2 ⟨FB, fm, fd, rfl, hs, hu2⟩
            have hq := hq.trans (hu2.mono hq.size)
            refine hK.out _ _ ?_ (fun hHeld => ?_)
            · (try dsimp only); exact KEEP.out _ hq
            clear hK K
            (try simp only [Act.put, List.getElem_toArray, List.getElem_cons_succ, List.getElem_cons_zero, List.setIfInBounds_toArray, List.set_cons_zero, List.set_cons_succ])
            refine wpAnyH_take (i := 6) (oi := _) (v := ?vq5_6) rfl (by kernel_rfl) (by kernel_rfl) (by kernel_rfl) (fun _ _ _ h => h) (Or.inl ⟨rfl, ?yq5_6⟩) (by assumption) ?_
            case yq5_6 => intro w hSw; (try dsimp only at hSw); go_simp; (try with_reducible rfl)
            (try simp only [Act.put, List.getElem_toArray, List.getElem_cons_succ, List.getElem_cons_zero, List.setIfInBounds_toArray, List.set_cons_zero, List.set_cons_succ])
            refine wpAnyH_take (i := 7) (oi := _) (v := ?vq6_7) rfl (by kernel_rfl) (by kernel_rfl) (by kernel_rfl) (fun _ _ _ h => h) (Or.inl ⟨rfl, ?yq6_7⟩) (by assumption) ?_
            case yq6_7 => intro w hSw; (try dsimp only at hSw); go_simp; (try with_reducible rfl)
            (try simp only [Act.put, List.getElem_toArray, List.getElem_cons_succ, List.getElem_cons_zero, List.setIfInBounds_toArray, List.set_cons_zero, List.set_cons_succ])
            refine wpAnyH_take (i := 8) (oi := _) (v := ?vq7_8) rfl (by kernel_rfl) (by kernel_rfl) (by kernel_rfl) (fun _ _ _ h => h) (Or.inl ⟨rfl, ?yq7_8⟩) (by assumption) ?_
            case yq7_8 => intro w hSw; (try dsimp only at hSw); go_simp; (try with_reducible rfl)
            (try simp only [Act.put, List.getElem_toArray, List.getElem_cons_succ, List.getElem_cons_zero, List.setIfInBounds_toArray, List.set_cons_zero, List.set_cons_succ])
            refine wpAnyH_ready (rs := [9]) (by kernel_rfl) (by simp) ?_
            refine (AllReadyH.cons (o := _) rfl (fun K hK => ?_) AllReadyH.nil)
            rw [if_pos (by rfl)]
            go_simp
            have hz := heap_alloc_new (u2) (.cells #[.slice none 0 0, .int .i64 0] 35)
            have hz : FBx ((u2).alloc (.cells #[.slice none 0 0, .int .i64 0] 35)) (u2).heap.size (.slice none 0 0) 0 := hz
            have hgz : wr.heap.size ≤ (u2).heap.size := hq.size
            have hba := (Below.refl (u2).heap.size (u2)).alloc (Nat.le_refl _) (.cells #[.slice none 0 0, .int .i64 0] 35)
            have hq := hq.alloc hq.size (.cells #[.slice none 0 0, .int .i64 0] 35)
            refine hK.out _ _ ?_ (fun hHeld => ?_)
            · (try dsimp only); exact KEEP.out _ hq
            clear hK K
            (try simp only [Act.put, List.getElem_toArray, List.getElem_cons_succ, List.getElem_cons_zero, List.setIfInBounds_toArray, List.set_cons_zero, List.set_cons_succ])
            obtain ⟨G, hG⟩ : ∃ G, G = (u2).heap.size := ⟨_, rfl⟩
            have HGE := Lib.hid hG
            rw [← hG] at hz hgz ⊢
            clear hG
            obtain ⟨u3, hu3⟩ : ∃ u, u = (u2).alloc (.cells #[.slice none 0 0, .int .i64 0] 35) := ⟨_, rfl⟩
            rw [← hu3] at hz hq hba hHeld ⊢
            clear hu3
            refine wpAnyH_ready (rs := [10]) (by kernel_rfl) (by simp) ?_
            refine (AllReadyH.cons (o := _) rfl (fun K hK => ?_) AllReadyH.nil)
            refine step_store_f rfl (.tmp 4) (.tmp 21) rfl G FB fm fd (.slice none 0 0) 0 0 rfl rfl hz ?_
            intro u4 hz3 hg3
            have hq3 := hq.grown hg3 hq.size (fun k hk => by injection hk with hk; rw [← hk]; exact hgz)
            have hs3 : Je.SlN wr.heap.size u4 FB fm fd (Wk (k + 1)) := ⟨hs.1.step (hba.grown hg3 hba.size (fun k hk => by injection hk with hk; rw [← hk, HGE.out]; exact Nat.le_refl _)), fun a ha => Nat.le_trans hbase (hs.2 a ha)⟩
            refine hK.out _ _ ?_ (fun hHeld => ?_)
            · (try dsimp only); exact KEEP.out _ hq3
            clear hK K
            (try simp only [Act.put, List.getElem_toArray, List.getElem_cons_succ, List.getElem_cons_zero])
            refine wpAnyH_take (i := 11) (oi := _) (v := ?vq8_11) rfl (by kernel_rfl) (by kernel_rfl) (by kernel_rfl) (fun _ _ _ h => h) (Or.inl ⟨rfl, ?yq8_11⟩) (by assumption) ?_
            case yq8_11 => intro w hSw; (try dsimp only at hSw); go_simp; (try with_reducible rfl)
            (try simp only [Act.put, List.getElem_toArray, List.getElem_cons_succ, List.getElem_cons_zero, List.setIfInBounds_toArray, List.set_cons_zero, List.set_cons_succ])
            refine wpAnyH_done (by kernel_rfl) ?_ _
            clear hHeld
            go_wp2_with fail
            go_meet
            exact ⟨G, rfl, rfl, FB, fm, fd, hz3, hs3, hq3, hgz⟩
          · skip
            rw [if_pos (by rfl)]
            go_simp
            have hz := heap_alloc_new (u1) (.cells #[.slice none 0 0, .int .i64 0] 35)
            have hz : FBx ((u1).alloc (.cells #[.slice none 0 0, .int .i64 0] 35)) (u1).heap.size (.slice none 0 0) 0 := hz
            have hgz : wr.heap.size ≤ (u1).heap.size := hq.size
            have hq := hq.alloc hq.size (.cells #[.slice none 0 0, .int .i64 0] 35)
            refine hK.out _ _ ?_ (fun hHeld => ?_)
            · (try dsimp only); exact KEEP.out _ hq
            clear hK K
            (try simp only [Act.put, List.getElem_toArray, List.getElem_cons_succ, List.getElem_cons_zero, List.setIfInBounds_toArray, List.set_cons_zero, List.set_cons_succ])
            obtain ⟨G, hG⟩ : ∃ G, G = (u1).heap.size := ⟨_, rfl⟩
            have HGE := Lib.hid hG
            rw [← hG] at hz hgz ⊢
            clear hG
            obtain ⟨u5, hu5⟩ : ∃ u, u = (u1).alloc (.cells #[.slice none 0 0, .int .i64 0] 35) := ⟨_, rfl⟩
            rw [← hu5] at hz hq hHeld ⊢
            clear hu5
            have hlz := hz.lt
            refine wpAnyH_ready (rs := [5]) (by kernel_rfl) (by simp) ?_
            refine (AllReadyH.cons (o := _) rfl (fun K hK => ?_) AllReadyH.nil)
            go_simp
            go_at_call 18
            have hbase : wr.heap.size ≤ (u5).heap.size := hq.size
            have hlo := hz.lt
            refine (HST.out _ hq).mono ?_
            rintro e u6 ⟨FB, fm, fd, rfl, hs, hu6⟩
            have hz := hz.below hu6
            have hq := hq.trans (hu6.mono hq.size)
            refine hK.out _ _ ?_ (fun hHeld => ?_)
            · (try dsimp only); exact KEEP.out _ hq
            clear hK K
            (try simp only [Act.put, List.getElem_toArray, List.getElem_cons_succ, List.getElem_cons_zero, List.setIfInBounds_toArray, List.set_cons_zero, List.set_cons_succ])
            refine wpAnyH_take (i := 6) (oi := _) (v := ?vq9_6) rfl (by kernel_rfl) (by kernel_rfl) (by kernel_rfl) (fun _ _ _ h => h) (Or.inl ⟨rfl, ?yq9_6⟩) (by assumption) ?_
            case yq9_6 => intro w hSw; (try dsimp only at hSw); go_simp; (try with_reducible rfl)
            (try simp only [Act.put, List.getElem_toArray, List.getElem_cons_succ, List.getElem_cons_zero, List.setIfInBounds_toArray, List.set_cons_zero, List.set_cons_succ])
            refine wpAnyH_take (i := 7) (oi := _) (v := ?vq10_7) rfl (by kernel_rfl) (by kernel_rfl) (by kernel_rfl) (fun _ _ _ h => h) (Or.inl ⟨rfl, ?yq10_7⟩) (by assumption) ?_
            case yq10_7 => intro w hSw; (try dsimp only at hSw); go_simp; (try with_reducible rfl)
            (try simp only [Act.put, List.getElem_toArray, List.getElem_cons_succ, List.getElem_cons_zero, List.setIfInBounds_toArray, List.set_cons_zero, List.set_cons_succ])
            refine wpAnyH_take (i := 8) (oi := _) (v := ?vq11_8) rfl (by kernel_rfl) (by kernel_rfl) (by kernel_rfl) (fun _ _ _ h => h) (Or.inl ⟨rfl, ?yq11_8⟩) (by assumption) ?_
            case yq11_8 => intro w hSw; (try dsimp only at hSw); go_simp; (try with_reducible rfl)
            (try simp only [Act.put, List.getElem_toArray, List.getElem_cons_succ, List.getElem_cons_zero, List.setIfInBounds_toArray, List.set_cons_zero, List.set_cons_succ])
            refine wpAnyH_ready (rs := [10]) (by kernel_rfl) (by simp) ?_
            refine (AllReadyH.cons (o := _) rfl (fun K hK => ?_) AllReadyH.nil)
            refine step_store_f rfl (.tmp 4) (.tmp 21) rfl G FB fm fd (.slice none 0 0) 0 0 rfl rfl hz ?_
            intro u7 hz3 hg3
            have hq3 := hq.grown hg3 hq.size (fun k hk => by injection hk with hk; rw [← hk]; exact hgz)
            have hs3 : Je.SlN wr.heap.size u7 FB fm fd (Wk (k + 1)) := (hs.far hg3 (by omega)).base_ hbase
            refine hK.out _ _ ?_ (fun hHeld => ?_)
            · (try dsimp only); exact KEEP.out _ hq3
            clear hK K
            (try simp only [Act.put, List.getElem_toArray, List.getElem_cons_succ, List.getElem_cons_zero])
            refine wpAnyH_take (i := 11) (oi := _) (v := ?vq12_11) rfl (by kernel_rfl) (by kernel_rfl) (by kernel_rfl) (fun _ _ _ h => h) (Or.inl ⟨rfl, ?yq12_11⟩) (by assumption) ?_
            case yq12_11 => intro w hSw; (try dsimp only at hSw); go_simp; (try with_reducible rfl)
            (try simp only [Act.put, List.getElem_toArray, List.getElem_cons_succ, List.getElem_cons_zero, List.setIfInBounds_toArray, List.set_cons_zero, List.set_cons_succ])
            refine wpAnyH_done (by kernel_rfl) ?_ _
            clear hHeld
            go_wp2_with fail
            go_meet
            exact ⟨G, rfl, rfl, FB, fm, fd, hz3, hs3, hq3, hgz⟩
        · skip
          rw [if_pos (by rfl)]
          go_simp
          have hz := heap_alloc_new (v) (.cells #[.slice none 0 0, .int .i64 0] 35)
          have hz : FBx ((v).alloc (.cells #[.slice none 0 0, .int .i64 0] 35)) (v).heap.size (.slice none 0 0) 0 := hz
          have hgz : wr.heap.size ≤ (v).heap.size := hq.size
          have hq := hq.alloc hq.size (.cells #[.slice none 0 0, .int .i64 0] 35)
          refine hK.out _ _ ?_ (fun hHeld => ?_)
          · (try dsimp only); exact KEEP.out _ hq
          clear hK K
          (try simp only [Act.put, List.getElem_toArray, List.getElem_cons_succ, List.getElem_cons_zero, List.setIfInBounds_toArray, List.set_cons_zero, List.set_cons_succ])
          obtain ⟨G, hG⟩ : ∃ G, G = (v).heap.size := ⟨_, rfl⟩
          have HGE := Lib.hid hG
          rw [← hG] at hz hgz ⊢
          clear hG
          obtain ⟨u8, hu8⟩ : ∃ u, u = (v).alloc (.cells #[.slice none 0 0, .int .i64 0] 35) := ⟨_, rfl⟩
          rw [← hu8] at hz hq hHeld ⊢
          clear hu8
          have hlz := hz.lt
          refine wpAnyH_ready (rs := [0]) (by kernel_rfl) (by simp) ?_
          refine (AllReadyH.cons (o := _) rfl (fun K hK => ?_) AllReadyH.nil)
          go_simp
          go_at_call 49
          refine (HEX.out _).mono ?_
          rintro e u9 ⟨rfl, hu9⟩
          have hz := hz.below hu9
          have hq := hq.trans (hu9.mono hq.size)
          refine hK.out _ _ ?_ (fun hHeld => ?_)
          · (try dsimp only); exact KEEP.out _ hq
          clear hK K
          (try simp only [Act.put, List.getElem_toArray, List.getElem_cons_succ, List.getElem_cons_zero, List.setIfInBounds_toArray, List.set_cons_zero, List.set_cons_succ])
          refine wpAnyH_ready (rs := [5]) (by kernel_rfl) (by simp) ?_
          refine (AllReadyH.cons (o := _) rfl (fun K hK => ?_) AllReadyH.nil)
          go_simp
          go_at_call 18
          have hbase : wr.heap.size ≤ (u9).heap.size := hq.size
          have hlo := hz.lt
          refine (HST.out _ hq).mono ?_
          rintro e u10 ⟨FB, fm, fd, rfl, hs, hu10⟩
          have hz := hz.below hu10
          have hq := hq.trans (hu10.mono hq.size)
          refine hK.out _ _ ?_ (fun hHeld => ?_)
          · (try dsimp only); exact KEEP.out _ hq
          clear hK K
          (try simp only [Act.put, List.getElem_toArray, List.getElem_cons_succ, List.getElem_cons_zero, List.setIfInBounds_toArray, List.set_cons_zero, List.set_cons_succ])
          refine wpAnyH_take (i := 6) (oi := _) (v := ?vq13_6) rfl (by kernel_rfl) (by kernel_rfl) (by kernel_rfl) (fun _ _ _ h => h) (Or.inl ⟨rfl, ?yq13_6⟩) (by assumption) ?_
          case yq13_6 => intro w hSw; (try dsimp only at hSw); go_simp; (try with_reducible rfl)
          (try simp only [Act.put, List.getElem_toArray, List.getElem_cons_succ, List.getElem_cons_zero, List.setIfInBounds_toArray, List.set_cons_zero, List.set_cons_succ])
          refine wpAnyH_take (i := 7) (oi := _) (v := ?vq14_7) rfl (by kernel_rfl) (by kernel_rfl) (by kernel_rfl) (fun _ _ _ h => h) (Or.inl ⟨rfl, ?yq14_7⟩) (by assumption) ?_
          case yq14_7 => intro w hSw; (try dsimp only at hSw); go_simp; (try with_reducible rfl)
          (try simp only [Act.put, List.getElem_toArray, List.getElem_cons_succ, List.getElem_cons_zero, List.setIfInBounds_toArray, List.set_cons_zero, List.set_cons_succ])
          refine wpAnyH_take (i := 8) (oi := _) (v := ?vq15_8) rfl (by kernel_rfl) (by kernel_rfl) (by kernel_rfl) (fun _ _ _ h => h) (Or.inl ⟨rfl, ?yq15_8⟩) (by assumption) ?_
          case yq15_8 => intro w hSw; (try dsimp only at hSw); go_simp; (try with_reducible rfl)
          (try simp only [Act.put, List.getElem_toArray, List.getElem_cons_succ, List.getElem_cons_zero, List.setIfInBounds_toArray, List.set_cons_zero, List.set_cons_succ])
          refine wpAnyH_ready (rs := [10]) (by kernel_rfl) (by simp) ?_
          refine (AllReadyH.cons (o := _) rfl (fun K hK => ?_) AllReadyH.nil)
          refine step_store_f rfl (.tmp 4) (.tmp 21) rfl G FB fm fd (.slice none 0 0) 0 0 rfl rfl hz ?_
          intro u11 hz3 hg3
          have hq3 := hq.grown hg3 hq.size (fun k hk => by injection hk with hk; rw [← hk]; exact hgz)
          have hs3 : Je.SlN wr.heap.size u11 FB fm fd (Wk (k + 1)) := (hs.far hg3 (by omega)).base_ hbase
          refine hK.out _ _ ?_ (fun hHeld => ?_)
          · (try dsimp only); exact KEEP.out _ hq3
          clear hK K
          (try simp only [Act.put, List.getElem_toArray, List.getElem_cons_succ, List.getElem_cons_zero])
          refine wpAnyH_take (i := 11) (oi := _) (v := ?vq16_11) rfl (by kernel_rfl) (by kernel_rfl) (by kernel_rfl) (fun _ _ _ h => h) (Or.inl ⟨rfl, ?yq16_11⟩) (by assumption) ?_
          case yq16_11 => intro w hSw; (try dsimp only at hSw); go_simp; (try with_reducible rfl)
          (try simp only [Act.put, List.getElem_toArray, List.getElem_cons_succ, List.getElem_cons_zero, List.setIfInBounds_toArray, List.set_cons_zero, List.set_cons_succ])
          refine wpAnyH_done (by kernel_rfl) ?_ _
          clear hHeld
          go_wp2_with fail
          go_meet
          exact ⟨G, rfl, rfl, FB, fm, fd, hz3, hs3, hq3, hgz⟩
      case rest =>
        obtain ⟨G, rfl, rfl, FB, fm, fd, hz, hs, hq4, hG⟩ := hcut
        have hf := HF.out.below hq4
        have hr := (hq4.block _ hlt1).trans HR.out
        have hb := HB.out.trans (hq4.mono HB.out.size)
        have hlf := HF.out.lt
        have k0 := hz.c0
        have k1 := hz.c1
        have j0 := hf.c0
        have j1 := hf.c1
        have z0 := hf.fz 0
        have z1 := hf.fz 1
        have hf2 := hf.set (.slice FB fm fd) 0
        have hg2 := two_set wc w.heap.size (.slice FB fm fd) (.int .i64 0)
        have hs2 := (hs.far hg2 hlf).base_ (Nat.succ_le_of_lt hlt1)
        have hb2 := hb.grown hg2 hb.size (fun k hk => by injection hk; omega)
        have hr2 := (hg2.block (w.heap.size + 1) (by have := hq4.size; omega) (fun e => by injection e; omega)).trans hr
        clear HF HR HST KEEP HB hz hs hf hr hb hq4 hq n1 n2
        go_wp2_with fail
        generalize ((wc.setCell ⟨w.heap.size, 0, none⟩ (.slice FB fm fd)).setCell ⟨w.heap.size, 1, none⟩ (.int .i64 0)) = w5 at *
        have hf5 : FBx w5.drew w.heap.size (.slice FB fm fd) 0 := hf2
        have hs5 : Sl w5.drew FB fm fd (Wk (k + 1)) := hs2.1.step (below_drew (Below.refl _ _))
        have hq5 : Below w5.drew.heap.size w5.drew w5.drew := Below.refl _ _
        have hr5 : w5.drew.heap[w.heap.size + 1]? = _ := hr2
        have hb5 := below_drew hb2
        have hsn := hs2.2
        refine wp_region_held_drew (S := (fun W => FBx W w.heap.size (.slice FB fm fd) 0)) (by kernel_rfl) ?_ (fun hHeld => ?_)
        · (try dsimp only); exact hf5.below hq5
        refine wpAnyH_take (i := 1) (oi := _) (v := ?vq17_1) rfl (by kernel_rfl) (by kernel_rfl) (by kernel_rfl) (fun _ _ _ h => h) (Or.inl ⟨rfl, ?yq17_1⟩) (by assumption) ?_
        case yq17_1 => intro w hSw; (try dsimp only at hSw); ((refine exec_load_f2 (.tmp 1) ?_ ?_ hSw) <;> rfl)
        (try simp only [Act.put, List.getElem_toArray, List.getElem_cons_succ, List.getElem_cons_zero, List.setIfInBounds_toArray, List.set_cons_zero, List.set_cons_succ])
        refine wpAnyH_ready (rs := [0]) (by kernel_rfl) (by simp) ?_
        refine (AllReadyH.cons (o := _) rfl (fun K hK => ?_) AllReadyH.nil)
        go_simp
        go_at_call 49
        refine (HEX.out _).mono ?_
        rintro e u12 ⟨rfl, hu12⟩
        have hq5 := hq5.trans (hu12.mono hq5.size)
        refine hK.out _ _ ?_ (fun hHeld => ?_)
        · (try dsimp only); exact hf5.below hq5
        clear hK K
        (try simp only [Act.put, List.getElem_toArray, List.getElem_cons_succ, List.getElem_cons_zero, List.setIfInBounds_toArray, List.set_cons_zero, List.set_cons_succ])
        refine wpAnyH_ready (rs := [2]) (by kernel_rfl) (by simp) ?_
        refine (AllReadyH.cons (o := _) rfl (fun K hK => ?_) AllReadyH.nil)
        go_simp
        go_at_call 20
        refine (HRD.out _ FB fm fd (hs5.step hq5)).mono ?_
        rintro e u13 ⟨x, hx1, hx2, rfl, hu13⟩
        have hq5 := hq5.trans (hu13.mono hq5.size)
        refine hK.out _ _ ?_ (fun hHeld => ?_)
        · (try dsimp only); exact hf5.below hq5
        clear hK K
        (try simp only [Act.put, List.getElem_toArray, List.getElem_cons_succ, List.getElem_cons_zero, List.setIfInBounds_toArray, List.set_cons_zero, List.set_cons_succ])
        refine wpAnyH_take (i := 3) (oi := _) (v := ?vq18_3) rfl (by kernel_rfl) (by kernel_rfl) (by kernel_rfl) (fun _ _ _ h => h) (Or.inl ⟨rfl, ?yq18_3⟩) (by assumption) ?_
        case yq18_3 => intro w hSw; (try dsimp only at hSw); go_simp; (try with_reducible rfl)
        (try simp only [Act.put, List.getElem_toArray, List.getElem_cons_succ, List.getElem_cons_zero, List.setIfInBounds_toArray, List.set_cons_zero, List.set_cons_succ])
        refine wpAnyH_take (i := 4) (oi := _) (v := ?vq19_4) rfl (by kernel_rfl) (by kernel_rfl) (by kernel_rfl) (fun _ _ _ h => h) (Or.inl ⟨rfl, ?yq19_4⟩) (by assumption) ?_
        case yq19_4 => intro w hSw; (try dsimp only at hSw); go_simp; (try with_reducible rfl)
        (try simp only [Act.put, List.getElem_toArray, List.getElem_cons_succ, List.getElem_cons_zero, List.setIfInBounds_toArray, List.set_cons_zero, List.set_cons_succ])
        refine wpAnyH_take (i := 5) (oi := _) (v := ?vq20_5) rfl (by kernel_rfl) (by kernel_rfl) (by kernel_rfl) (fun _ _ _ h => h) (Or.inl ⟨rfl, ?yq20_5⟩) (by assumption) ?_
        case yq20_5 => intro w hSw; (try dsimp only at hSw); go_simp; (try with_reducible rfl)
        (try simp only [Act.put, List.getElem_toArray, List.getElem_cons_succ, List.getElem_cons_zero, List.setIfInBounds_toArray, List.set_cons_zero, List.set_cons_succ])
        refine wpAnyH_take (i := 6) (oi := _) (v := ?vq21_6) rfl (by kernel_rfl) (by kernel_rfl) (by kernel_rfl) (fun _ _ _ h => h) (Or.inl ⟨rfl, ?yq21_6⟩) (by assumption) ?_
        case yq21_6 => intro w hSw; (try dsimp only at hSw); go_simp; (try with_reducible rfl)
        (try simp only [Act.put, List.getElem_toArray, List.getElem_cons_succ, List.getElem_cons_zero, List.setIfInBounds_toArray, List.set_cons_zero, List.set_cons_succ])
        refine wpAnyH_take (i := 7) (oi := _) (v := ?vq22_7) rfl (by kernel_rfl) (by kernel_rfl) (by kernel_rfl) (fun _ _ _ h => h) (Or.inl ⟨rfl, ?yq22_7⟩) (by assumption) ?_
        case yq22_7 => intro w hSw; (try dsimp only at hSw); go_simp; (try with_reducible rfl)
        (try simp only [Act.put, List.getElem_toArray, List.getElem_cons_succ, List.getElem_cons_zero, List.setIfInBounds_toArray, List.set_cons_zero, List.set_cons_succ])
        refine wpAnyH_done (by kernel_rfl) ?_ _
        clear hHeld
        have hf6 := hf5.below hq5
        have hr6 := (hq5.block _ (by show w.heap.size + 1 < w5.heap.size; rcases Nat.lt_or_ge (w.heap.size + 1) w5.heap.size with h1 | h1; exact h1; rw [Array.getElem?_eq_none h1] at hr2; cases hr2)).trans hr5
        have hb6 := hb5.trans (hq5.mono hb5.size)
        have hs6 : Je.SlN (w.heap.size + 1 + 1) _ FB fm fd (Wk (k + 1)) := ⟨hs5.step hq5, hsn⟩
        have HX1 := Lib.hid hx1
        have HX2 := Lib.hid hx2
        clear hx1 hx2 hf5 hq5 hr5 hb5 hs5 hsn hf2 hs2 hb2 hr2
        by_cases h2 : 2 ≤ k
        · have dk : decide (2 ≤ k) = true := decide_eq_true h2
          have dk2 : decide ((2 : Int) ≤ (k : Int)) = true := decide_eq_true (by omega)
          obtain rfl := HMD.out h2 _ (HX1.out dk)
          rw [dk]
          go_wp2_with fail
          go_roundw
          case rel => exact ⟨k + 1, FB, fm, fd, by omega, by go_num, hf6, hr6, hs6, hb6⟩
          case measure => simp [intOf]; omega
        · have dk : decide (2 ≤ k) = false := decide_eq_false h2
          have dk2 : decide ((2 : Int) ≤ (k : Int)) = false := decide_eq_false (by omega)
          obtain rfl := HX2.out dk
          rw [dk]
          go_wp2_with fail
          go_roundw
          case rel => exact ⟨k + 1, FB, fm, fd, by omega, by go_num, hf6, hr6, hs6, hb6⟩
          case measure => simp [intOf]; omega
    · obtain rfl : k = 4 := by omega
      go_wp2_with fail
      go_ret
      exact ⟨rfl, hb⟩
end Go.Proofs.Ytekhpcfggbegaaa.Jk
