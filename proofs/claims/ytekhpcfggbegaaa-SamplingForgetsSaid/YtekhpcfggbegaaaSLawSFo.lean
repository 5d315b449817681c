/- SamplingForgets holds for every input: a reading depends on the last samples only, and a long gap makes the filter forget everything. No condition. -/
import Derived.Test.YtekhpcfggbegaaaSJo
import Derived.Test.YtekhpcfggbegaaaS52
import Derived.Test.YtekhpcfggbegaaaS54
import Derived.Deep.Cut
namespace Go.Proofs.Ytekhpcfggbegaaa.samplingForgets
open Go.RowKit Go.ChangeShapes Go.WideShapes Go.ChangeAt Go.Proofs.Ytekhpcfggbegaaa.Mem Go.Proofs.Ytekhpcfggbegaaa.F2p Go.Proofs.Ytekhpcfggbegaaa.C4l Go.Proofs.Ytekhpcfggbegaaa.Ta Go.Proofs.Ytekhpcfggbegaaa.Tb Go.Proofs.Ytekhpcfggbegaaa.Law Go.Proofs.Ytekhpcfggbegaaa.Made Go.Proofs.Ytekhpcfggbegaaa.D5 Go.Proofs.Ytekhpcfggbegaaa.Tl Go.Proofs.Ytekhpcfggbegaaa.Ja Go.Proofs.Ytekhpcfggbegaaa.Jd Go.Proofs.Ytekhpcfggbegaaa.Jk
set_option maxRecDepth 100000
set_option maxHeartbeats 4000000

theorem name_le {s : Sn} (hv : vs s = true) : s.nm.size ≤ maxLen := by
  unfold vs okn at hv
  simp only [Bool.and_eq_true] at hv
  have h := of_decide_eq_true hv.1.1
  rw [bl_len] at h
  unfold maxLen; omega
theorem vs_wide {s : Sn} (h : vs s = true) : s.sm = 1 ∨ s.sm = 3 ∨ s.sm = 5 := by
  unfold vs at h
  simp only [Bool.and_eq_true] at h
  have := h.2.1
  unfold wid at this
  simpa using this
theorem psl_own' {base : Nat} {w : World} {A : Option Addr} {n c : Nat} {p : List C4l.Pt} (h : POwn base w (.slice A n c) p) : PSl w A n c p := by
  obtain ⟨A', n', c', e, hs⟩ := h.sl
  injection e with e1 e2 e3
  subst e1 e2 e3
  exact hs
theorem tstep {w w' : World} {A : Option Addr} {n c : Nat} {l : List Tk} (h : TSl w A n c l) {B : Nat} (hb : Below B w w') (hB : w.heap.size ≤ B) : TSl w' A n c l := h.step (hb.mono hB)
theorem walk (A : Option Addr) (n c : Nat) (l : List Int) (hn : n = l.length) (hw : ∀ x ∈ l, -9223372036854775808 ≤ x ∧ x ≤ 9223372036854775807) (hc : n ≤ c) (hm : c ≤ maxLen) (_hA : A = none → c = 0)
    (LA : Option Addr) (ln lc : Nat) (ll : List Tk) (MA : Option Addr) (mn mc : Nat) (ml : List Tk) (RA : Option Addr) (rn rc : Nat) (rl : List Tk) (w : World) (hr : IRow w.heap.size w A l) (htl : TSl w LA ln lc ll) (htm : TSl w MA mn mc ml) (htr : TSl w RA rn rc rl) :
    Calls Try.prog 6 #[.slice A n c, .slice LA ln lc, .slice MA mn mc, .slice RA rn rc] w fun e w' => e = .returned (.bool true) ∧ Below w.heap.size w w' := by
  have hnm : n ≤ maxLen := by omega
  have hlm : ln ≤ maxLen := Nat.le_trans htl.cap htl.max
  have hmm : mn ≤ maxLen := Nat.le_trans htm.cap htm.max
  have hrm : rn ≤ maxLen := Nat.le_trans htr.cap htr.max
  unfold maxLen at hlm hmm hrm
  have HN := Lib.hid hn
  have HW := Lib.hid hw
  clear hn hw hc hm _hA
  have haw := Lib.hid (fun u => Jk.awake_any u)
  by_cases h6 : n ≤ 600
  case neg =>
    have d6 : decide (n ≤ 600) = false := decide_eq_false h6
    go_enter Try.func6, Try.ntmps6
    go_wp2_with fail
    refine (Made.lightmade_any A n c _ hnm).mono ?_
    rintro e w' ⟨rfl, rfl⟩
    rw [d6]
    go_wp2_with fail
    refine (haw.out _).mono ?_
    rintro e w3 ⟨rfl, hb3⟩
    go_wp2_with fail
    go_ret
    exact ⟨rfl, hb3⟩
  have d6 : decide (n ≤ 600) = true := decide_eq_true h6
  go_enter Try.func6, Try.ntmps6
  go_wp2_with fail
  refine (Made.lightmade_any A n c _ hnm).mono ?_
  rintro e w' ⟨rfl, rfl⟩
  rw [d6]
  by_cases hl3 : ln ≤ 30
  case neg =>
    have hl3d : decide (30 < (ln : Int)) = true := decide_eq_true (by omega)
    go_wp2_with fail
    refine (haw.out _).mono ?_
    rintro e w3 ⟨rfl, hb3⟩
    go_wp2_with fail
    go_ret
    exact ⟨rfl, hb3⟩
  have hl3d : decide (30 < (ln : Int)) = false := decide_eq_false (by omega)
  by_cases hm3 : mn ≤ 30
  case neg =>
    have hm3d : decide (30 < (mn : Int)) = true := decide_eq_true (by omega)
    go_wp2_with fail
    refine (haw.out _).mono ?_
    rintro e w3 ⟨rfl, hb3⟩
    go_wp2_with fail
    go_ret
    exact ⟨rfl, hb3⟩
  have hm3d : decide (30 < (mn : Int)) = false := decide_eq_false (by omega)
  by_cases hr3 : rn ≤ 30
  case neg =>
    have hr3d : decide (30 < (rn : Int)) = true := decide_eq_true (by omega)
    go_wp2_with fail
    refine (haw.out _).mono ?_
    rintro e w3 ⟨rfl, hb3⟩
    go_wp2_with fail
    go_ret
    exact ⟨rfl, hb3⟩
  have hr3d : decide (30 < (rn : Int)) = false := decide_eq_false (by omega)
  go_wp2_with fail
  refine (Made.roll_any A n c w).mono ?_
  rintro e w1 ⟨rfl, rfl⟩
  have hdz := Dz.start A n c l w hr HN.out HW.out (by omega)
  have hb1 : Below w.heap.size w (w.alloc (.cells #[.slice A n c, .int .i64 0] 99)) := (Below.refl _ _).alloc (Nat.le_refl _) _
  have hs1 : w.heap.size < (w.alloc (.cells #[.slice A n c, .int .i64 0] 99)).heap.size := by rw [World.size_alloc]; omega
  generalize w.alloc (.cells #[.slice A n c, .int .i64 0] 99) = w1 at *
  go_wp2_with fail
  refine (analog_any 1 hdz).mono ?_
  rintro e w2 ⟨s, V, rfl, hv, hfit, hnu, hd, hown, hdz2, hg2⟩
  obtain ⟨PA, pn, pc, rfl, hps⟩ := hown.sl
  have hnms := name_le hv
  have hb2 : Below w.heap.size w w2 := hb1.grown hg2 hb1.size (fun k hk => by injection hk; omega)
  have hz := Bx.zero w2
  have hba := (Below.refl w2.heap.size w2).alloc (Nat.le_refl _) (.cells #[.int .u8 0, .int .u8 0, .int .u8 0, .string ⟨#[]⟩, .int .u8 0, .int .u8 0, .bool false, .int .i64 0, .bool false, .int .i64 0, .int .i64 0, .int .i64 0, .int .i64 0, .slice none 0 0, .int .u8 0, .int .u8 0, .int .u8 0, .int .u8 0, .int .u8 0, .int .u8 0, .int .u8 0, .int .u8 0, .int .u8 0, .int .u16 0, .int .u16 0, .int .u16 0, .bool false, .int .i64 0] 32)
  clear hfit hnu hg2 hb1 hdz hd
  go_wp2_with (refine wpList_store_bx rfl (.tmp 9) (.tmp 49) rfl w2.heap.size s noSn (.slice PA pn pc) (.slice none 0 0) rfl rfl rfl hz ?_; intro w3 hx3 hg3; refine Hid.out ?_)
  refine Lib.hid ?_
  have hba := hba.grown hg3 hba.size (fun k hk => by injection hk; omega)
  have hps := hps.step hba
  have HOWNP := Lib.hid (Tl.pown_far (World.ownsRow.alloc hown _) hz hg3)
  have HS1 := Lib.hid hs1
  have hlt2 := hdz2.lt
  have hdz := hdz2.below hba hlt2
  have hgw : w.heap.size ≤ w2.heap.size := hb2.size
  have hbb := hb2.trans (hba.mono hb2.size)
  obtain ⟨K, hK⟩ : ∃ K : Nat, s.sm = (K : Int) := by
    have := (vs_wide hv)
    exact ⟨s.sm.toNat, by omega⟩
  have hK5 : K = 1 ∨ K = 3 ∨ K = 5 := by have := vs_wide hv; omega
  clear hba hg3 hz hdz2 hb2 hown
  have HLN := Lib.hid (show ll.length ≤ 30 ∧ ml.length ≤ 30 ∧ rl.length ≤ 30 from ⟨by rw [← htl.len]; exact hl3, by rw [← htm.len]; exact hm3, by rw [← htr.len]; exact hr3⟩)
  have hl5 : ll.length ≤ 30 ∧ ml.length ≤ 30 ∧ rl.length ≤ 30 ∧ gap3.length = 3 ∧ five.length = 5 := ⟨HLN.out.1, HLN.out.2.1, HLN.out.2.2, rfl, rfl⟩
  have htl := htl.step hbb
  have htm := htm.step hbb
  have htr := htr.step hbb
  have hbg := (Below.refl w3.heap.size w3).alloc (Nat.le_refl _) (.cells #[.int .u8 0, .bool true, .int .u8 0, .bool true, .int .u8 0, .bool true] 59)
  have hhg := heap_alloc_new w3 (.cells #[.int .u8 0, .bool true, .int .u8 0, .bool true, .int .u8 0, .bool true] 59)
  have htg := tsl_block gap3 hhg rfl (by decide)
  have hx := hx3.below hbg
  have hps := hps.step hbg
  have htl := htl.step hbg
  have htm := htm.step hbg
  have htr := htr.step hbg
  have hbb := hbb.trans (hbg.mono hbb.size)
  have H5 := Lib.hid hK5
  have HKS := Lib.hid hK
  have HNM := Lib.hid hnms
  have HV := Lib.hid hv
  have HRN := Lib.hid fun (u : World) TA tn tc (q : List Tk) (hp : PSl u PA pn pc s.c.p) (ht : TSl u TA tn tc q) (hn : tn ≤ 100) => run_n s PA pn pc K TA tn tc q u hp hnms hv hK ht hn
  have HRD := Lib.hid fun (u : World) FA fn fc (q : List UInt8) (m : Int) (hp : PSl u PA pn pc s.c.p) (hf : Sl u FA fn fc q) => read_p s PA pn pc FA fn fc q m u hp hnms hf
  clear hv hK hK5 hnms hx3 hhg hbg hlt2 hgw hs1 hdz
  go_wp2_with fail
  generalize hz0e : w3.alloc (.cells #[.int .u8 0, .bool true, .int .u8 0, .bool true, .int .u8 0, .bool true] 59) = z0 at *
  clear hz0e
  obtain ⟨ga, hga⟩ : ∃ ga, ga = w3.heap.size := ⟨_, rfl⟩
  rw [← hga] at htg ⊢
  clear hga
  have htg : TSl z0 (some ⟨ga, 0, none⟩) 3 3 gap3 := htg
  obtain ⟨R, hR⟩ : ∃ R, R = runF K ((ll ++ gap3) ++ rl) := ⟨_, rfl⟩
  have HR := Lib.hid hR
  obtain ⟨W5, hW5⟩ : ∃ W5 : List UInt8, W5 = ([1, 2, 3, 4, 5] : List UInt8).drop (5 - K) := ⟨_, rfl⟩
  have HW5 := Lib.hid hW5
  clear hR hW5 hl5
  go_wp2_with fail
  obtain ⟨v, hv⟩ : ∃ u, u = z0.drew := ⟨_, rfl⟩
  have hq : Below z0.heap.size z0 v := by rw [hv]; exact below_drew (Below.refl _ _)
  have KEEP : Hid (∀ U, Below z0.heap.size z0 U → Bx U w2.heap.size s (.slice PA pn pc)) := Lib.hid fun U hU => hx.below hU
  have HR1 : Hid (∀ u, Below z0.heap.size z0 u → ∀ TA tn tc, TSl u TA tn tc ((ll ++ gap3) ++ rl) → Calls Try.prog 26 #[.agg (cells s (.slice PA pn pc)), .slice TA tn tc] u fun e w' => ∃ FA fn fc, e = .returned (.tuple #[.agg #[.slice FA fn fc, .int .i64 R.2], .bool true]) ∧ Je.SlN u.heap.size w' FA fn fc R.1 ∧ Below u.heap.size u w') := Lib.hid fun u hu TA tn tc ht => by
    have := HRN.out u TA tn tc _ (hps.step hu) ht (by have h1 := ht.len; have h2 := HLN.out; simp only [List.length_append] at h1; have h3 : gap3.length = 3 := rfl; have h4 : five.length = 5 := rfl; omega)
    rw [← HR.out] at this
    exact this
  go_cut [11, 12] from 54 to 64 (fun g e wx => ∃ G : Nat, g = .pointer (some ⟨G, 0, none⟩) ∧ e = .bool true ∧ ∃ FB fm fd, FBx wx G (.slice FB fm fd) R.2 ∧ Sl wx FB fm fd R.1 ∧ Below z0.heap.size z0 wx)
  case first =>
    refine wp_region_held_drew (S := (fun U => Bx U w2.heap.size s (.slice PA pn pc))) (by kernel_rfl) ?_ (fun hHeld => ?_)
    · (try dsimp only); rw [← hv]; exact KEEP.out _ hq
    generalize z0.drew = vg at *
    subst hv
    refine wpAnyH_take (i := 0) (oi := _) (v := ?vq1_0) rfl (by kernel_rfl) (by kernel_rfl) (by kernel_rfl) (fun _ _ _ h => h) (Or.inl ⟨rfl, ?yq1_0⟩) (by assumption) ?_
    case yq1_0 => intro w hSw; (try dsimp only at hSw); ((refine exec_load_bx2 (.tmp 9) ?_ ?_ hSw) <;> rfl)
    (try simp only [Act.put, List.getElem_toArray, List.getElem_cons_zero, List.setIfInBounds_toArray, List.set_cons_zero, List.set_cons_succ])
    refine wpAnyH_take (i := 1) (oi := _) (v := ?vq2_1) rfl (by kernel_rfl) (by kernel_rfl) (by kernel_rfl) (fun _ _ _ h => h) (Or.inl ⟨rfl, ?yq2_1⟩) (by assumption) ?_
    case yq2_1 => intro w hSw; (try dsimp only at hSw); go_simp; (try with_reducible rfl)
    (try simp only [Act.put, List.getElem_toArray, List.getElem_cons_succ, List.getElem_cons_zero, List.setIfInBounds_toArray, List.set_cons_zero, List.set_cons_succ])
    refine wpAnyH_take (i := 3) (oi := _) (v := ?vq3_3) rfl (by kernel_rfl) (by kernel_rfl) (by kernel_rfl) (fun _ _ _ h => h) (Or.inl ⟨rfl, ?yq3_3⟩) (by assumption) ?_
    case yq3_3 => intro w hSw; (try dsimp only at hSw); go_simp; (try with_reducible rfl)
    (try simp only [Act.put, List.getElem_toArray, List.getElem_cons_succ, List.getElem_cons_zero, List.setIfInBounds_toArray, List.set_cons_zero, List.set_cons_succ])
    refine wpAnyH_take (i := 5) (oi := _) (v := ?vq4_5) rfl (by kernel_rfl) (by kernel_rfl) (by kernel_rfl) (fun _ _ _ h => h) (Or.inl ⟨rfl, ?yq4_5⟩) (by assumption) ?_
    case yq4_5 => intro w hSw; (try dsimp only at hSw); go_simp; (try with_reducible rfl)
    (try simp only [Act.put, List.getElem_toArray, List.getElem_cons_succ, List.getElem_cons_zero, List.setIfInBounds_toArray, List.set_cons_zero, List.set_cons_succ])
    refine wpAnyH_ready (rs := [2, 11]) (by kernel_rfl) (by simp) ?_
    refine (AllReadyH.cons (o := _) rfl (fun K hK => ?_) (AllReadyH.cons (o := _) rfl (fun K hK => ?_) AllReadyH.nil))
    · skip
      have hsrc := htl.step hq
      refine step_append_t rfl (.const (.slice none 0 0)) (.tmp 56) rfl z0.heap.size (.slice none 0 0) ([]) rfl (show TOwn z0.heap.size v (.slice none 0 0) [] from TOwn.nil) _ LA ln lc rfl hsrc (by have := HLN.out; have h3 : gap3.length = 3 := rfl; have h4 : five.length = 5 := rfl; (try simp only [List.length_nil]); omega) hq.size ?_
      intro vb1 u1 hownb hgb
      have hq : Below z0.heap.size z0 u1 := hq.grown hgb hq.size (fun k hk => by cases hk)
      have hown : TOwn z0.heap.size u1 vb1 (ll) := hownb
      clear hownb hgb hsrc
      refine hK.out _ _ ?_ (fun hHeld => ?_)
      · (try dsimp only); exact KEEP.out _ hq
      clear hK K
      (try simp only [Act.put, List.getElem_toArray, List.getElem_cons_succ, List.getElem_cons_zero, List.setIfInBounds_toArray, List.set_cons_zero, List.set_cons_succ])
      refine wpAnyH_ready (rs := [4, 11]) (by kernel_rfl) (by simp) ?_
      refine (AllReadyH.cons (o := _) rfl (fun K hK => ?_) (AllReadyH.cons (o := _) rfl (fun K hK => ?_) AllReadyH.nil))
      · skip
        have hsrc := htg.step hq
        refine step_append_t rfl (.tmp 57) (.tmp 58) rfl z0.heap.size vb1 (ll) rfl hown _ (some ⟨ga, 0, none⟩) 3 3 rfl hsrc (by have := HLN.out; have h3 : gap3.length = 3 := rfl; have h4 : five.length = 5 := rfl; (try simp only [List.length_cons]); omega) hq.size ?_
        intro vb2 u2 hownb hgb
        have hq : Below z0.heap.size z0 u2 := hq.grown hgb hq.size (fun k hk => (World.ownsRow.lt hown k hk).1)
        have hown : TOwn z0.heap.size u2 vb2 (ll ++ gap3) := hownb
        clear hownb hgb hsrc
        refine hK.out _ _ ?_ (fun hHeld => ?_)
        · (try dsimp only); exact KEEP.out _ hq
        clear hK K
        (try simp only [Act.put, List.getElem_toArray, List.getElem_cons_succ, List.getElem_cons_zero, List.setIfInBounds_toArray, List.set_cons_zero, List.set_cons_succ])
        refine wpAnyH_ready (rs := [6, 11]) (by kernel_rfl) (by simp) ?_
        refine (AllReadyH.cons (o := _) rfl (fun K hK => ?_) (AllReadyH.cons (o := _) rfl (fun K hK => ?_) AllReadyH.nil))
        · skip
          have hsrc := htr.step hq
          refine step_append_t rfl (.tmp 59) (.tmp 60) rfl z0.heap.size vb2 (ll ++ gap3) rfl hown _ RA rn rc rfl hsrc (by have := HLN.out; have h3 : gap3.length = 3 := rfl; have h4 : five.length = 5 := rfl; (try simp only [List.length_append]); omega) hq.size ?_
          intro vb3 u3 hownb hgb
          have hq : Below z0.heap.size z0 u3 := hq.grown hgb hq.size (fun k hk => (World.ownsRow.lt hown k hk).1)
          have hown : TOwn z0.heap.size u3 vb3 ((ll ++ gap3) ++ rl) := hownb
          clear hownb hgb hsrc
          refine hK.out _ _ ?_ (fun hHeld => ?_)
          · (try dsimp only); exact KEEP.out _ hq
          clear hK K
          (try simp only [Act.put, List.getElem_toArray, List.getElem_cons_succ, List.getElem_cons_zero, List.setIfInBounds_toArray, List.set_cons_zero, List.set_cons_succ])
          refine wpAnyH_ready (rs := [7, 11]) (by kernel_rfl) (by simp) ?_
          refine (AllReadyH.cons (o := _) rfl (fun K hK => ?_) (AllReadyH.cons (o := _) rfl (fun K hK => ?_) AllReadyH.nil))
          · skip
            go_simp
            obtain ⟨TA, tn, tc, hve, hts⟩ := hown.sl
            subst hve
            go_at_call 26
            have hbase : z0.heap.size ≤ u3.heap.size := hq.size
            refine (HR1.out _ hq TA tn tc hts).mono ?_
            rintro e u4 ⟨FB, fm, fd, rfl, hs, hu4⟩
            have hq := hq.trans (hu4.mono hq.size)
            refine hK.out _ _ ?_ (fun hHeld => ?_)
            · (try dsimp only); exact KEEP.out _ hq
            clear hK K
            (try simp only [Act.put, List.getElem_toArray, List.getElem_cons_succ, List.getElem_cons_zero, List.setIfInBounds_toArray, List.set_cons_zero, List.set_cons_succ])
            refine wpAnyH_take (i := 8) (oi := _) (v := ?vq5_8) rfl (by kernel_rfl) (by kernel_rfl) (by kernel_rfl) (fun _ _ _ h => h) (Or.inl ⟨rfl, ?yq5_8⟩) (by assumption) ?_
            case yq5_8 => intro w hSw; (try dsimp only at hSw); go_simp; (try with_reducible rfl)
            (try simp only [Act.put, List.getElem_toArray, List.getElem_cons_succ, List.getElem_cons_zero, List.setIfInBounds_toArray, List.set_cons_zero, List.set_cons_succ])
            refine wpAnyH_take (i := 9) (oi := _) (v := ?vq6_9) rfl (by kernel_rfl) (by kernel_rfl) (by kernel_rfl) (fun _ _ _ h => h) (Or.inl ⟨rfl, ?yq6_9⟩) (by assumption) ?_
            case yq6_9 => intro w hSw; (try dsimp only at hSw); go_simp; (try with_reducible rfl)
            (try simp only [Act.put, List.getElem_toArray, List.getElem_cons_succ, List.getElem_cons_zero, List.setIfInBounds_toArray, List.set_cons_zero, List.set_cons_succ])
            refine wpAnyH_take (i := 10) (oi := _) (v := ?vq7_10) rfl (by kernel_rfl) (by kernel_rfl) (by kernel_rfl) (fun _ _ _ h => h) (Or.inl ⟨rfl, ?yq7_10⟩) (by assumption) ?_
            case yq7_10 => intro w hSw; (try dsimp only at hSw); go_simp; (try with_reducible rfl)
            (try simp only [Act.put, List.getElem_toArray, List.getElem_cons_succ, List.getElem_cons_zero, List.setIfInBounds_toArray, List.set_cons_zero, List.set_cons_succ])
            refine wpAnyH_ready (rs := [11]) (by kernel_rfl) (by simp) ?_
            refine (AllReadyH.cons (o := _) rfl (fun K hK => ?_) AllReadyH.nil)
            rw [if_pos (by rfl)]
            go_simp
            have hz := heap_alloc_new u4 (.cells #[.slice none 0 0, .int .i64 0] 35)
            have hz : FBx (u4.alloc (.cells #[.slice none 0 0, .int .i64 0] 35)) u4.heap.size (.slice none 0 0) 0 := hz
            have hgz : z0.heap.size ≤ u4.heap.size := hq.size
            have hba := (Below.refl u4.heap.size u4).alloc (Nat.le_refl _) (.cells #[.slice none 0 0, .int .i64 0] 35)
            have hq := hq.alloc hq.size (.cells #[.slice none 0 0, .int .i64 0] 35)
            refine hK.out _ _ ?_ (fun hHeld => ?_)
            · (try dsimp only); exact KEEP.out _ hq
            clear hK K
            (try simp only [Act.put, List.getElem_toArray, List.getElem_cons_succ, List.getElem_cons_zero, List.setIfInBounds_toArray, List.set_cons_zero, List.set_cons_succ])
            obtain ⟨G, hG⟩ : ∃ G, G = u4.heap.size := ⟨_, rfl⟩
            have HGE := Lib.hid hG
            rw [← hG] at hz hgz ⊢
            clear hG
            obtain ⟨u5, hu5⟩ : ∃ u, u = u4.alloc (.cells #[.slice none 0 0, .int .i64 0] 35) := ⟨_, rfl⟩
            rw [← hu5] at hz hq hba hHeld ⊢
            clear hu5
            refine wpAnyH_ready (rs := [12]) (by kernel_rfl) (by simp) ?_
            refine (AllReadyH.cons (o := _) rfl (fun K hK => ?_) AllReadyH.nil)
            refine step_store_f rfl (.tmp 11) (.tmp 63) rfl G FB fm fd (.slice none 0 0) _ 0 rfl rfl hz ?_
            intro u6 hz3 hg3
            have hq3 := hq.grown hg3 hq.size (fun k hk => by injection hk with hk; rw [← hk]; exact hgz)
            have hs3 := (⟨hs.1.step (hba.grown hg3 hba.size (fun k hk => by injection hk with hk; rw [← hk, HGE.out]; exact Nat.le_refl _)), fun a ha => Nat.le_trans hbase (hs.2 a ha)⟩ : Je.SlN z0.heap.size u6 FB fm fd _)
            refine hK.out _ _ ?_ (fun hHeld => ?_)
            · (try dsimp only); exact KEEP.out _ hq3
            clear hK K
            (try simp only [Act.put, List.getElem_toArray, List.getElem_cons_succ, List.getElem_cons_zero])
            refine wpAnyH_take (i := 13) (oi := _) (v := ?vq8_13) rfl (by kernel_rfl) (by kernel_rfl) (by kernel_rfl) (fun _ _ _ h => h) (Or.inl ⟨rfl, ?yq8_13⟩) (by assumption) ?_
            case yq8_13 => intro w hSw; (try dsimp only at hSw); go_simp; (try with_reducible rfl)
            (try simp only [Act.put, List.getElem_toArray, List.getElem_cons_succ, List.getElem_cons_zero, List.setIfInBounds_toArray, List.set_cons_zero, List.set_cons_succ])
            refine wpAnyH_done (by kernel_rfl) ?_ _
            clear hHeld
            go_wp2_with fail
            go_meet
            exact ⟨G, rfl, rfl, FB, fm, fd, hz3, hs3.1, hq3⟩
          · skip
            rw [if_pos (by rfl)]
            go_simp
            have hz := heap_alloc_new u3 (.cells #[.slice none 0 0, .int .i64 0] 35)
            have hz : FBx (u3.alloc (.cells #[.slice none 0 0, .int .i64 0] 35)) u3.heap.size (.slice none 0 0) 0 := hz
            have hgz : z0.heap.size ≤ u3.heap.size := hq.size
            have hown := World.ownsRow.alloc hown (.cells #[.slice none 0 0, .int .i64 0] 35)
            have hq := hq.alloc hq.size (.cells #[.slice none 0 0, .int .i64 0] 35)
            refine hK.out _ _ ?_ (fun hHeld => ?_)
            · (try dsimp only); exact KEEP.out _ hq
            clear hK K
            (try simp only [Act.put, List.getElem_toArray, List.getElem_cons_succ, List.getElem_cons_zero, List.setIfInBounds_toArray, List.set_cons_zero, List.set_cons_succ])
            obtain ⟨G, hG⟩ : ∃ G, G = u3.heap.size := ⟨_, rfl⟩
            have HGE := Lib.hid hG
            rw [← hG] at hz hgz ⊢
            clear hG
            obtain ⟨u7, hu7⟩ : ∃ u, u = u3.alloc (.cells #[.slice none 0 0, .int .i64 0] 35) := ⟨_, rfl⟩
            rw [← hu7] at hz hq hown hHeld ⊢
            clear hu7
            replace hown : TOwn z0.heap.size u7 vb3 _ := hown
            refine wpAnyH_ready (rs := [7]) (by kernel_rfl) (by simp) ?_
            refine (AllReadyH.cons (o := _) rfl (fun K hK => ?_) AllReadyH.nil)
            go_simp
            obtain ⟨TA, tn, tc, hve, hts⟩ := hown.sl
            subst hve
            go_at_call 26
            have hbase : z0.heap.size ≤ u7.heap.size := hq.size
            have hlo := hz.lt
            refine (HR1.out _ hq TA tn tc hts).mono ?_
            rintro e u8 ⟨FB, fm, fd, rfl, hs, hu8⟩
            have hz := hz.below hu8
            have hq := hq.trans (hu8.mono hq.size)
            refine hK.out _ _ ?_ (fun hHeld => ?_)
            · (try dsimp only); exact KEEP.out _ hq
            clear hK K
            (try simp only [Act.put, List.getElem_toArray, List.getElem_cons_succ, List.getElem_cons_zero, List.setIfInBounds_toArray, List.set_cons_zero, List.set_cons_succ])
            refine wpAnyH_take (i := 8) (oi := _) (v := ?vq9_8) rfl (by kernel_rfl) (by kernel_rfl) (by kernel_rfl) (fun _ _ _ h => h) (Or.inl ⟨rfl, ?yq9_8⟩) (by assumption) ?_
            case yq9_8 => intro w hSw; (try dsimp only at hSw); go_simp; (try with_reducible rfl)
            (try simp only [Act.put, List.getElem_toArray, List.getElem_cons_succ, List.getElem_cons_zero, List.setIfInBounds_toArray, List.set_cons_zero, List.set_cons_succ])
            refine wpAnyH_take (i := 9) (oi := _) (v := ?vq10_9) rfl (by kernel_rfl) (by kernel_rfl) (by kernel_rfl) (fun _ _ _ h => h) (Or.inl ⟨rfl, ?yq10_9⟩) (by assumption) ?_
            case yq10_9 => intro w hSw; (try dsimp only at hSw); go_simp; (try with_reducible rfl)
            (try simp only [Act.put, List.getElem_toArray, List.getElem_cons_succ, List.getElem_cons_zero, List.setIfInBounds_toArray, List.set_cons_zero, List.set_cons_succ])
            refine wpAnyH_take (i := 10) (oi := _) (v := ?vq11_10) rfl (by kernel_rfl) (by kernel_rfl) (by kernel_rfl) (fun _ _ _ h => h) (Or.inl ⟨rfl, ?yq11_10⟩) (by assumption) ?_
            case yq11_10 => intro w hSw; (try dsimp only at hSw); go_simp; (try with_reducible rfl)
            (try simp only [Act.put, List.getElem_toArray, List.getElem_cons_succ, List.getElem_cons_zero, List.setIfInBounds_toArray, List.set_cons_zero, List.set_cons_succ])
            refine wpAnyH_ready (rs := [12]) (by kernel_rfl) (by simp) ?_
            refine (AllReadyH.cons (o := _) rfl (fun K hK => ?_) AllReadyH.nil)
            refine step_store_f rfl (.tmp 11) (.tmp 63) rfl G FB fm fd (.slice none 0 0) _ 0 rfl rfl hz ?_
            intro u9 hz3 hg3
            have hq3 := hq.grown hg3 hq.size (fun k hk => by injection hk with hk; rw [← hk]; exact hgz)
            have hs3 := (hs.far hg3 (by omega)).base_ hbase
            refine hK.out _ _ ?_ (fun hHeld => ?_)
            · (try dsimp only); exact KEEP.out _ hq3
            clear hK K
            (try simp only [Act.put, List.getElem_toArray, List.getElem_cons_succ, List.getElem_cons_zero])
            refine wpAnyH_take (i := 13) (oi := _) (v := ?vq12_13) rfl (by kernel_rfl) (by kernel_rfl) (by kernel_rfl) (fun _ _ _ h => h) (Or.inl ⟨rfl, ?yq12_13⟩) (by assumption) ?_
            case yq12_13 => intro w hSw; (try dsimp only at hSw); go_simp; (try with_reducible rfl)
            (try simp only [Act.put, List.getElem_toArray, List.getElem_cons_succ, List.getElem_cons_zero, List.setIfInBounds_toArray, List.set_cons_zero, List.set_cons_succ])
            refine wpAnyH_done (by kernel_rfl) ?_ _
            clear hHeld
            go_wp2_with fail
            go_meet
            exact ⟨G, rfl, rfl, FB, fm, fd, hz3, hs3.1, hq3⟩
        · skip
          rw [if_pos (by rfl)]
          go_simp
          have hz := heap_alloc_new u2 (.cells #[.slice none 0 0, .int .i64 0] 35)
          have hz : FBx (u2.alloc (.cells #[.slice none 0 0, .int .i64 0] 35)) u2.heap.size (.slice none 0 0) 0 := hz
          have hgz : z0.heap.size ≤ u2.heap.size := hq.size
          have hown := World.ownsRow.alloc hown (.cells #[.slice none 0 0, .int .i64 0] 35)
          have hq := hq.alloc hq.size (.cells #[.slice none 0 0, .int .i64 0] 35)
          refine hK.out _ _ ?_ (fun hHeld => ?_)
          · (try dsimp only); exact KEEP.out _ hq
          clear hK K
          (try simp only [Act.put, List.getElem_toArray, List.getElem_cons_succ, List.getElem_cons_zero, List.setIfInBounds_toArray, List.set_cons_zero, List.set_cons_succ])
          obtain ⟨G, hG⟩ : ∃ G, G = u2.heap.size := ⟨_, rfl⟩
          have HGE := Lib.hid hG
          rw [← hG] at hz hgz ⊢
          clear hG
          obtain ⟨u10, hu10⟩ : ∃ u, u = u2.alloc (.cells #[.slice none 0 0, .int .i64 0] 35) := ⟨_, rfl⟩
          rw [← hu10] at hz hq hown hHeld ⊢
          clear hu10
          replace hown : TOwn z0.heap.size u10 vb2 _ := hown
          refine wpAnyH_ready (rs := [6]) (by kernel_rfl) (by simp) ?_
          refine (AllReadyH.cons (o := _) rfl (fun K hK => ?_) AllReadyH.nil)
          have hsrc := htr.step hq
          refine step_append_t rfl (.tmp 59) (.tmp 60) rfl z0.heap.size vb2 (ll ++ gap3) rfl hown _ RA rn rc rfl hsrc (by have := HLN.out; have h3 : gap3.length = 3 := rfl; have h4 : five.length = 5 := rfl; (try simp only [List.length_append]); omega) hq.size ?_
          intro vb11 u11 hownb hgb
          have hq : Below z0.heap.size z0 u11 := hq.grown hgb hq.size (fun k hk => (World.ownsRow.lt hown k hk).1)
          have hz := Jk.FBx.far_t hz hown hgb
          have hown : TOwn z0.heap.size u11 vb11 ((ll ++ gap3) ++ rl) := hownb
          clear hownb hgb hsrc
          refine hK.out _ _ ?_ (fun hHeld => ?_)
          · (try dsimp only); exact KEEP.out _ hq
          clear hK K
          (try simp only [Act.put, List.getElem_toArray, List.getElem_cons_succ, List.getElem_cons_zero, List.setIfInBounds_toArray, List.set_cons_zero, List.set_cons_succ])
          refine wpAnyH_ready (rs := [7]) (by kernel_rfl) (by simp) ?_
          refine (AllReadyH.cons (o := _) rfl (fun K hK => ?_) AllReadyH.nil)
          go_simp
          obtain ⟨TA, tn, tc, hve, hts⟩ := hown.sl
          subst hve
          go_at_call 26
          have hbase : z0.heap.size ≤ u11.heap.size := hq.size
          have hlo := hz.lt
          refine (HR1.out _ hq TA tn tc hts).mono ?_
          rintro e u12 ⟨FB, fm, fd, rfl, hs, hu12⟩
          have hz := hz.below hu12
          have hq := hq.trans (hu12.mono hq.size)
          refine hK.out _ _ ?_ (fun hHeld => ?_)
          · (try dsimp only); exact KEEP.out _ hq
          clear hK K
          (try simp only [Act.put, List.getElem_toArray, List.getElem_cons_succ, List.getElem_cons_zero, List.setIfInBounds_toArray, List.set_cons_zero, List.set_cons_succ])
          refine wpAnyH_take (i := 8) (oi := _) (v := ?vq13_8) rfl (by kernel_rfl) (by kernel_rfl) (by kernel_rfl) (fun _ _ _ h => h) (Or.inl ⟨rfl, ?yq13_8⟩) (by assumption) ?_
          case yq13_8 => intro w hSw; (try dsimp only at hSw); go_simp; (try with_reducible rfl)
          (try simp only [Act.put, List.getElem_toArray, List.getElem_cons_succ, List.getElem_cons_zero, List.setIfInBounds_toArray, List.set_cons_zero, List.set_cons_succ])
          refine wpAnyH_take (i := 9) (oi := _) (v := ?vq14_9) rfl (by kernel_rfl) (by kernel_rfl) (by kernel_rfl) (fun _ _ _ h => h) (Or.inl ⟨rfl, ?yq14_9⟩) (by assumption) ?_
          case yq14_9 => intro w hSw; (try dsimp only at hSw); go_simp; (try with_reducible rfl)
          (try simp only [Act.put, List.getElem_toArray, List.getElem_cons_succ, List.getElem_cons_zero, List.setIfInBounds_toArray, List.set_cons_zero, List.set_cons_succ])
          refine wpAnyH_take (i := 10) (oi := _) (v := ?vq15_10) rfl (by kernel_rfl) (by kernel_rfl) (by kernel_rfl) (fun _ _ _ h => h) (Or.inl ⟨rfl, ?yq15_10⟩) (by assumption) ?_
          case yq15_10 => intro w hSw; (try dsimp only at hSw); go_simp; (try with_reducible rfl)
          (try simp only [Act.put, List.getElem_toArray, List.getElem_cons_succ, List.getElem_cons_zero, List.setIfInBounds_toArray, List.set_cons_zero, List.set_cons_succ])
          refine wpAnyH_ready (rs := [12]) (by kernel_rfl) (by simp) ?_
          refine (AllReadyH.cons (o := _) rfl (fun K hK => ?_) AllReadyH.nil)
          refine step_store_f rfl (.tmp 11) (.tmp 63) rfl G FB fm fd (.slice none 0 0) _ 0 rfl rfl hz ?_
          intro u13 hz3 hg3
          have hq3 := hq.grown hg3 hq.size (fun k hk => by injection hk with hk; rw [← hk]; exact hgz)
          have hs3 := (hs.far hg3 (by omega)).base_ hbase
          refine hK.out _ _ ?_ (fun hHeld => ?_)
          · (try dsimp only); exact KEEP.out _ hq3
          clear hK K
          (try simp only [Act.put, List.getElem_toArray, List.getElem_cons_succ, List.getElem_cons_zero])
          refine wpAnyH_take (i := 13) (oi := _) (v := ?vq16_13) rfl (by kernel_rfl) (by kernel_rfl) (by kernel_rfl) (fun _ _ _ h => h) (Or.inl ⟨rfl, ?yq16_13⟩) (by assumption) ?_
          case yq16_13 => intro w hSw; (try dsimp only at hSw); go_simp; (try with_reducible rfl)
          (try simp only [Act.put, List.getElem_toArray, List.getElem_cons_succ, List.getElem_cons_zero, List.setIfInBounds_toArray, List.set_cons_zero, List.set_cons_succ])
          refine wpAnyH_done (by kernel_rfl) ?_ _
          clear hHeld
          go_wp2_with fail
          go_meet
          exact ⟨G, rfl, rfl, FB, fm, fd, hz3, hs3.1, hq3⟩
      · skip
        rw [if_pos (by rfl)]
        go_simp
        have hz := heap_alloc_new u1 (.cells #[.slice none 0 0, .int .i64 0] 35)
        have hz : FBx (u1.alloc (.cells #[.slice none 0 0, .int .i64 0] 35)) u1.heap.size (.slice none 0 0) 0 := hz
        have hgz : z0.heap.size ≤ u1.heap.size := hq.size
        have hown := World.ownsRow.alloc hown (.cells #[.slice none 0 0, .int .i64 0] 35)
        have hq := hq.alloc hq.size (.cells #[.slice none 0 0, .int .i64 0] 35)
        refine hK.out _ _ ?_ (fun hHeld => ?_)
        · (try dsimp only); exact KEEP.out _ hq
        clear hK K
        (try simp only [Act.put, List.getElem_toArray, List.getElem_cons_succ, List.getElem_cons_zero, List.setIfInBounds_toArray, List.set_cons_zero, List.set_cons_succ])
        obtain ⟨G, hG⟩ : ∃ G, G = u1.heap.size := ⟨_, rfl⟩
        have HGE := Lib.hid hG
        rw [← hG] at hz hgz ⊢
        clear hG
        obtain ⟨u14, hu14⟩ : ∃ u, u = u1.alloc (.cells #[.slice none 0 0, .int .i64 0] 35) := ⟨_, rfl⟩
        rw [← hu14] at hz hq hown hHeld ⊢
        clear hu14
        replace hown : TOwn z0.heap.size u14 vb1 _ := hown
        refine wpAnyH_ready (rs := [4]) (by kernel_rfl) (by simp) ?_
        refine (AllReadyH.cons (o := _) rfl (fun K hK => ?_) AllReadyH.nil)
        have hsrc := htg.step hq
        refine step_append_t rfl (.tmp 57) (.tmp 58) rfl z0.heap.size vb1 (ll) rfl hown _ (some ⟨ga, 0, none⟩) 3 3 rfl hsrc (by have := HLN.out; have h3 : gap3.length = 3 := rfl; have h4 : five.length = 5 := rfl; (try simp only [List.length_cons]); omega) hq.size ?_
        intro vb15 u15 hownb hgb
        have hq : Below z0.heap.size z0 u15 := hq.grown hgb hq.size (fun k hk => (World.ownsRow.lt hown k hk).1)
        have hz := Jk.FBx.far_t hz hown hgb
        have hown : TOwn z0.heap.size u15 vb15 (ll ++ gap3) := hownb
        clear hownb hgb hsrc
        refine hK.out _ _ ?_ (fun hHeld => ?_)
        · (try dsimp only); exact KEEP.out _ hq
        clear hK K
        (try simp only [Act.put, List.getElem_toArray, List.getElem_cons_succ, List.getElem_cons_zero, List.setIfInBounds_toArray, List.set_cons_zero, List.set_cons_succ])
        refine wpAnyH_ready (rs := [6]) (by kernel_rfl) (by simp) ?_
        refine (AllReadyH.cons (o := _) rfl (fun K hK => ?_) AllReadyH.nil)
        have hsrc := htr.step hq
        refine step_append_t rfl (.tmp 59) (.tmp 60) rfl z0.heap.size vb15 (ll ++ gap3) rfl hown _ RA rn rc rfl hsrc (by have := HLN.out; have h3 : gap3.length = 3 := rfl; have h4 : five.length = 5 := rfl; (try simp only [List.length_append]); omega) hq.size ?_
        intro vb16 u16 hownb hgb
        have hq : Below z0.heap.size z0 u16 := hq.grown hgb hq.size (fun k hk => (World.ownsRow.lt hown k hk).1)
        have hz := Jk.FBx.far_t hz hown hgb
        have hown : TOwn z0.heap.size u16 vb16 ((ll ++ gap3) ++ rl) := hownb
        clear hownb hgb hsrc
        refine hK.out _ _ ?_ (fun hHeld => ?_)
        · (try dsimp only); exact KEEP.out _ hq
        clear hK K
        (try simp only [Act.put, List.getElem_toArray, List.getElem_cons_succ, List.getElem_cons_zero, List.setIfInBounds_toArray, List.set_cons_zero, List.set_cons_succ])
        refine wpAnyH_ready (rs := [7]) (by kernel_rfl) (by simp) ?_
        refine (AllReadyH.cons (o := _) rfl (fun K hK => ?_) AllReadyH.nil)
        go_simp
        obtain ⟨TA, tn, tc, hve, hts⟩ := hown.sl
        subst hve
        go_at_call 26
        have hbase : z0.heap.size ≤ u16.heap.size := hq.size
        have hlo := hz.lt
        refine (HR1.out _ hq TA tn tc hts).mono ?_
        rintro e u17 ⟨FB, fm, fd, rfl, hs, hu17⟩
        have hz := hz.below hu17
        have hq := hq.trans (hu17.mono hq.size)
        refine hK.out _ _ ?_ (fun hHeld => ?_)
        · (try dsimp only); exact KEEP.out _ hq
        clear hK K
        (try simp only [Act.put, List.getElem_toArray, List.getElem_cons_succ, List.getElem_cons_zero, List.setIfInBounds_toArray, List.set_cons_zero, List.set_cons_succ])
        refine wpAnyH_take (i := 8) (oi := _) (v := ?vq17_8) rfl (by kernel_rfl) (by kernel_rfl) (by kernel_rfl) (fun _ _ _ h => h) (Or.inl ⟨rfl, ?yq17_8⟩) (by assumption) ?_
        case yq17_8 => intro w hSw; (try dsimp only at hSw); go_simp; (try with_reducible rfl)
        (try simp only [Act.put, List.getElem_toArray, List.getElem_cons_succ, List.getElem_cons_zero, List.setIfInBounds_toArray, List.set_cons_zero, List.set_cons_succ])
        refine wpAnyH_take (i := 9) (oi := _) (v := ?vq18_9) rfl (by kernel_rfl) (by kernel_rfl) (by kernel_rfl) (fun _ _ _ h => h) (Or.inl ⟨rfl, ?yq18_9⟩) (by assumption) ?_
        case yq18_9 => intro w hSw; (try dsimp only at hSw); go_simp; (try with_reducible rfl)
        (try simp only [Act.put, List.getElem_toArray, List.getElem_cons_succ, List.getElem_cons_zero, List.setIfInBounds_toArray, List.set_cons_zero, List.set_cons_succ])
        refine wpAnyH_take (i := 10) (oi := _) (v := ?vq19_10) rfl (by kernel_rfl) (by kernel_rfl) (by kernel_rfl) (fun _ _ _ h => h) (Or.inl ⟨rfl, ?yq19_10⟩) (by assumption) ?_
        case yq19_10 => intro w hSw; (try dsimp only at hSw); go_simp; (try with_reducible rfl)
        (try simp only [Act.put, List.getElem_toArray, List.getElem_cons_succ, List.getElem_cons_zero, List.setIfInBounds_toArray, List.set_cons_zero, List.set_cons_succ])
        refine wpAnyH_ready (rs := [12]) (by kernel_rfl) (by simp) ?_
        refine (AllReadyH.cons (o := _) rfl (fun K hK => ?_) AllReadyH.nil)
        refine step_store_f rfl (.tmp 11) (.tmp 63) rfl G FB fm fd (.slice none 0 0) _ 0 rfl rfl hz ?_
        intro u18 hz3 hg3
        have hq3 := hq.grown hg3 hq.size (fun k hk => by injection hk with hk; rw [← hk]; exact hgz)
        have hs3 := (hs.far hg3 (by omega)).base_ hbase
        refine hK.out _ _ ?_ (fun hHeld => ?_)
        · (try dsimp only); exact KEEP.out _ hq3
        clear hK K
        (try simp only [Act.put, List.getElem_toArray, List.getElem_cons_succ, List.getElem_cons_zero])
        refine wpAnyH_take (i := 13) (oi := _) (v := ?vq20_13) rfl (by kernel_rfl) (by kernel_rfl) (by kernel_rfl) (fun _ _ _ h => h) (Or.inl ⟨rfl, ?yq20_13⟩) (by assumption) ?_
        case yq20_13 => intro w hSw; (try dsimp only at hSw); go_simp; (try with_reducible rfl)
        (try simp only [Act.put, List.getElem_toArray, List.getElem_cons_succ, List.getElem_cons_zero, List.setIfInBounds_toArray, List.set_cons_zero, List.set_cons_succ])
        refine wpAnyH_done (by kernel_rfl) ?_ _
        clear hHeld
        go_wp2_with fail
        go_meet
        exact ⟨G, rfl, rfl, FB, fm, fd, hz3, hs3.1, hq3⟩
    · skip
      rw [if_pos (by rfl)]
      go_simp
      have hz := heap_alloc_new v (.cells #[.slice none 0 0, .int .i64 0] 35)
      have hz : FBx (v.alloc (.cells #[.slice none 0 0, .int .i64 0] 35)) v.heap.size (.slice none 0 0) 0 := hz
      have hgz : z0.heap.size ≤ v.heap.size := hq.size
      have hq := hq.alloc hq.size (.cells #[.slice none 0 0, .int .i64 0] 35)
      refine hK.out _ _ ?_ (fun hHeld => ?_)
      · (try dsimp only); exact KEEP.out _ hq
      clear hK K
      (try simp only [Act.put, List.getElem_toArray, List.getElem_cons_succ, List.getElem_cons_zero, List.setIfInBounds_toArray, List.set_cons_zero, List.set_cons_succ])
      obtain ⟨G, hG⟩ : ∃ G, G = v.heap.size := ⟨_, rfl⟩
      have HGE := Lib.hid hG
      rw [← hG] at hz hgz ⊢
      clear hG
      obtain ⟨u19, hu19⟩ : ∃ u, u = v.alloc (.cells #[.slice none 0 0, .int .i64 0] 35) := ⟨_, rfl⟩
      rw [← hu19] at hz hq hHeld ⊢
      clear hu19
      refine wpAnyH_ready (rs := [2]) (by kernel_rfl) (by simp) ?_
      refine (AllReadyH.cons (o := _) rfl (fun K hK => ?_) AllReadyH.nil)
      have hsrc := htl.step hq
      refine step_append_t rfl (.const (.slice none 0 0)) (.tmp 56) rfl z0.heap.size (.slice none 0 0) ([]) rfl (show TOwn z0.heap.size u19 (.slice none 0 0) [] from TOwn.nil) _ LA ln lc rfl hsrc (by have := HLN.out; have h3 : gap3.length = 3 := rfl; have h4 : five.length = 5 := rfl; (try simp only [List.length_nil]); omega) hq.size ?_
      intro vb20 u20 hownb hgb
      have hq : Below z0.heap.size z0 u20 := hq.grown hgb hq.size (fun k hk => by cases hk)
      have hz := hz.kept hgb (fun e => by cases e)
      have hown : TOwn z0.heap.size u20 vb20 (ll) := hownb
      clear hownb hgb hsrc
      refine hK.out _ _ ?_ (fun hHeld => ?_)
      · (try dsimp only); exact KEEP.out _ hq
      clear hK K
      (try simp only [Act.put, List.getElem_toArray, List.getElem_cons_succ, List.getElem_cons_zero, List.setIfInBounds_toArray, List.set_cons_zero, List.set_cons_succ])
      refine wpAnyH_ready (rs := [4]) (by kernel_rfl) (by simp) ?_
      refine (AllReadyH.cons (o := _) rfl (fun K hK => ?_) AllReadyH.nil)
      have hsrc := htg.step hq
      refine step_append_t rfl (.tmp 57) (.tmp 58) rfl z0.heap.size vb20 (ll) rfl hown _ (some ⟨ga, 0, none⟩) 3 3 rfl hsrc (by have := HLN.out; have h3 : gap3.length = 3 := rfl; have h4 : five.length = 5 := rfl; (try simp only [List.length_cons]); omega) hq.size ?_
      intro vb21 u21 hownb hgb
      have hq : Below z0.heap.size z0 u21 := hq.grown hgb hq.size (fun k hk => (World.ownsRow.lt hown k hk).1)
      have hz := Jk.FBx.far_t hz hown hgb
      have hown : TOwn z0.heap.size u21 vb21 (ll ++ gap3) := hownb
      clear hownb hgb hsrc
      refine hK.out _ _ ?_ (fun hHeld => ?_)
      · (try dsimp only); exact KEEP.out _ hq
      clear hK K
      (try simp only [Act.put, List.getElem_toArray, List.getElem_cons_succ, List.getElem_cons_zero, List.setIfInBounds_toArray, List.set_cons_zero, List.set_cons_succ])
      refine wpAnyH_ready (rs := [6]) (by kernel_rfl) (by simp) ?_
      refine (AllReadyH.cons (o := _) rfl (fun K hK => ?_) AllReadyH.nil)
      have hsrc := htr.step hq
      refine step_append_t rfl (.tmp 59) (.tmp 60) rfl z0.heap.size vb21 (ll ++ gap3) rfl hown _ RA rn rc rfl hsrc (by have := HLN.out; have h3 : gap3.length = 3 := rfl; have h4 : five.length = 5 := rfl; (try simp only [List.length_append]); omega) hq.size ?_
      intro vb22 u22 hownb hgb
      have hq : Below z0.heap.size z0 u22 := hq.grown hgb hq.size (fun k hk => (World.ownsRow.lt hown k hk).1)
      have hz := Jk.FBx.far_t hz hown hgb
      have hown : TOwn z0.heap.size u22 vb22 ((ll ++ gap3) ++ rl) := hownb
      clear hownb hgb hsrc
      refine hK.out _ _ ?_ (fun hHeld => ?_)
      · (try dsimp only); exact KEEP.out _ hq
      clear hK K
      (try simp only [Act.put, List.getElem_toArray, List.getElem_cons_succ, List.getElem_cons_zero, List.setIfInBounds_toArray, List.set_cons_zero, List.set_cons_succ])
      refine wpAnyH_ready (rs := [7]) (by kernel_rfl) (by simp) ?_
      refine (AllReadyH.cons (o := _) rfl (fun K hK => ?_) AllReadyH.nil)
      go_simp
      obtain ⟨TA, tn, tc, hve, hts⟩ := hown.sl
      subst hve
      go_at_call 26
      have hbase : z0.heap.size ≤ u22.heap.size := hq.size
      have hlo := hz.lt
      refine (HR1.out _ hq TA tn tc hts).mono ?_
      rintro e u23 ⟨FB, fm, fd, rfl, hs, hu23⟩
      have hz := hz.below hu23
      have hq := hq.trans (hu23.mono hq.size)
      refine hK.out _ _ ?_ (fun hHeld => ?_)
      · (try dsimp only); exact KEEP.out _ hq
      clear hK K
      (try simp only [Act.put, List.getElem_toArray, List.getElem_cons_succ, List.getElem_cons_zero, List.setIfInBounds_toArray, List.set_cons_zero, List.set_cons_succ])
      refine wpAnyH_take (i := 8) (oi := _) (v := ?vq21_8) rfl (by kernel_rfl) (by kernel_rfl) (by kernel_rfl) (fun _ _ _ h => h) (Or.inl ⟨rfl, ?yq21_8⟩) (by assumption) ?_
      case yq21_8 => intro w hSw; (try dsimp only at hSw); go_simp; (try with_reducible rfl)
      (try simp only [Act.put, List.getElem_toArray, List.getElem_cons_succ, List.getElem_cons_zero, List.setIfInBounds_toArray, List.set_cons_zero, List.set_cons_succ])
      refine wpAnyH_take (i := 9) (oi := _) (v := ?vq22_9) rfl (by kernel_rfl) (by kernel_rfl) (by kernel_rfl) (fun _ _ _ h => h) (Or.inl ⟨rfl, ?yq22_9⟩) (by assumption) ?_
      case yq22_9 => intro w hSw; (try dsimp only at hSw); go_simp; (try with_reducible rfl)
      (try simp only [Act.put, List.getElem_toArray, List.getElem_cons_succ, List.getElem_cons_zero, List.setIfInBounds_toArray, List.set_cons_zero, List.set_cons_succ])
      refine wpAnyH_take (i := 10) (oi := _) (v := ?vq23_10) rfl (by kernel_rfl) (by kernel_rfl) (by kernel_rfl) (fun _ _ _ h => h) (Or.inl ⟨rfl, ?yq23_10⟩) (by assumption) ?_
      case yq23_10 => intro w hSw; (try dsimp only at hSw); go_simp; (try with_reducible rfl)
      (try simp only [Act.put, List.getElem_toArray, List.getElem_cons_succ, List.getElem_cons_zero, List.setIfInBounds_toArray, List.set_cons_zero, List.set_cons_succ])
      refine wpAnyH_ready (rs := [12]) (by kernel_rfl) (by simp) ?_
      refine (AllReadyH.cons (o := _) rfl (fun K hK => ?_) AllReadyH.nil)
      refine step_store_f rfl (.tmp 11) (.tmp 63) rfl G FB fm fd (.slice none 0 0) _ 0 rfl rfl hz ?_
      intro u24 hz3 hg3
      have hq3 := hq.grown hg3 hq.size (fun k hk => by injection hk with hk; rw [← hk]; exact hgz)
      have hs3 := (hs.far hg3 (by omega)).base_ hbase
      refine hK.out _ _ ?_ (fun hHeld => ?_)
      · (try dsimp only); exact KEEP.out _ hq3
      clear hK K
      (try simp only [Act.put, List.getElem_toArray, List.getElem_cons_succ, List.getElem_cons_zero])
      refine wpAnyH_take (i := 13) (oi := _) (v := ?vq24_13) rfl (by kernel_rfl) (by kernel_rfl) (by kernel_rfl) (fun _ _ _ h => h) (Or.inl ⟨rfl, ?yq24_13⟩) (by assumption) ?_
      case yq24_13 => intro w hSw; (try dsimp only at hSw); go_simp; (try with_reducible rfl)
      (try simp only [Act.put, List.getElem_toArray, List.getElem_cons_succ, List.getElem_cons_zero, List.setIfInBounds_toArray, List.set_cons_zero, List.set_cons_succ])
      refine wpAnyH_done (by kernel_rfl) ?_ _
      clear hHeld
      go_wp2_with fail
      go_meet
      exact ⟨G, rfl, rfl, FB, fm, fd, hz3, hs3.1, hq3⟩
  case rest =>
    obtain ⟨G1, rfl, rfl, F1, fn1, fc1, hf1, hs1, hq1⟩ := hcut
    clear hq hv KEEP v
    obtain ⟨z1, hzz⟩ : ∃ z, z = wc := ⟨_, rfl⟩
    rw [← hzz] at hf1 hs1 hq1 ⊢
    clear hzz wc
    have hx := hx.below hq1
    have hps := hps.step hq1
    have htl := htl.step hq1
    have htm := htm.step hq1
    have htr := htr.step hq1
    have htg := htg.step hq1
    have hbb := hbb.trans (hq1.mono hbb.size)
    clear hq1 HR1
    go_wp2_with fail
    obtain ⟨v, hv⟩ : ∃ u, u = z1.drew := ⟨_, rfl⟩
    have hq : Below z1.heap.size z1 v := by rw [hv]; exact below_drew (Below.refl _ _)
    have KEEP : Hid (∀ U, Below z1.heap.size z1 U → Bx U w2.heap.size s (.slice PA pn pc)) := Lib.hid fun U hU => hx.below hU
    have HR2 : Hid (∀ u, Below z1.heap.size z1 u → ∀ TA tn tc, TSl u TA tn tc ((ml ++ gap3) ++ rl) → Calls Try.prog 26 #[.agg (cells s (.slice PA pn pc)), .slice TA tn tc] u fun e w' => ∃ FA fn fc, e = .returned (.tuple #[.agg #[.slice FA fn fc, .int .i64 R.2], .bool true]) ∧ Je.SlN u.heap.size w' FA fn fc R.1 ∧ Below u.heap.size u w') := Lib.hid fun u hu TA tn tc ht => by
      have := HRN.out u TA tn tc _ (hps.step hu) ht (by have h1 := ht.len; have h2 := HLN.out; simp only [List.length_append] at h1; have h3 : gap3.length = 3 := rfl; have h4 : five.length = 5 := rfl; omega)
      rw [gap_same K ml ll rl, ← HR.out] at this
      exact this
    go_cut [13, 14] from 65 to 75 (fun g e wx => ∃ G : Nat, g = .pointer (some ⟨G, 0, none⟩) ∧ e = .bool true ∧ ∃ FB fm fd, FBx wx G (.slice FB fm fd) R.2 ∧ Sl wx FB fm fd R.1 ∧ Below z1.heap.size z1 wx)
    case first =>
      refine wp_region_held_drew (S := (fun U => Bx U w2.heap.size s (.slice PA pn pc))) (by kernel_rfl) ?_ (fun hHeld => ?_)
      · (try dsimp only); rw [← hv]; exact KEEP.out _ hq
      generalize z1.drew = vg at *
      subst hv
      refine wpAnyH_take (i := 0) (oi := _) (v := ?vq25_0) rfl (by kernel_rfl) (by kernel_rfl) (by kernel_rfl) (fun _ _ _ h => h) (Or.inl ⟨rfl, ?yq25_0⟩) (by assumption) ?_
      case yq25_0 => intro w hSw; (try dsimp only at hSw); ((refine exec_load_bx2 (.tmp 9) ?_ ?_ hSw) <;> rfl)
      (try simp only [Act.put, List.getElem_toArray, List.getElem_cons_zero, List.setIfInBounds_toArray, List.set_cons_zero, List.set_cons_succ])
      refine wpAnyH_take (i := 1) (oi := _) (v := ?vq26_1) rfl (by kernel_rfl) (by kernel_rfl) (by kernel_rfl) (fun _ _ _ h => h) (Or.inl ⟨rfl, ?yq26_1⟩) (by assumption) ?_
      case yq26_1 => intro w hSw; (try dsimp only at hSw); go_simp; (try with_reducible rfl)
      (try simp only [Act.put, List.getElem_toArray, List.getElem_cons_succ, List.getElem_cons_zero, List.setIfInBounds_toArray, List.set_cons_zero, List.set_cons_succ])
      refine wpAnyH_take (i := 3) (oi := _) (v := ?vq27_3) rfl (by kernel_rfl) (by kernel_rfl) (by kernel_rfl) (fun _ _ _ h => h) (Or.inl ⟨rfl, ?yq27_3⟩) (by assumption) ?_
      case yq27_3 => intro w hSw; (try dsimp only at hSw); go_simp; (try with_reducible rfl)
      (try simp only [Act.put, List.getElem_toArray, List.getElem_cons_succ, List.getElem_cons_zero, List.setIfInBounds_toArray, List.set_cons_zero, List.set_cons_succ])
      refine wpAnyH_take (i := 5) (oi := _) (v := ?vq28_5) rfl (by kernel_rfl) (by kernel_rfl) (by kernel_rfl) (fun _ _ _ h => h) (Or.inl ⟨rfl, ?yq28_5⟩) (by assumption) ?_
      case yq28_5 => intro w hSw; (try dsimp only at hSw); go_simp; (try with_reducible rfl)
      (try simp only [Act.put, List.getElem_toArray, List.getElem_cons_succ, List.getElem_cons_zero, List.setIfInBounds_toArray, List.set_cons_zero, List.set_cons_succ])
      refine wpAnyH_ready (rs := [2, 11]) (by kernel_rfl) (by simp) ?_
      refine (AllReadyH.cons (o := _) rfl (fun K hK => ?_) (AllReadyH.cons (o := _) rfl (fun K hK => ?_) AllReadyH.nil))
      · skip
        have hsrc := htm.step hq
        refine step_append_t rfl (.const (.slice none 0 0)) (.tmp 67) rfl z1.heap.size (.slice none 0 0) ([]) rfl (show TOwn z1.heap.size v (.slice none 0 0) [] from TOwn.nil) _ MA mn mc rfl hsrc (by have := HLN.out; have h3 : gap3.length = 3 := rfl; have h4 : five.length = 5 := rfl; (try simp only [List.length_nil]); omega) hq.size ?_
        intro vb25 u25 hownb hgb
        have hq : Below z1.heap.size z1 u25 := hq.grown hgb hq.size (fun k hk => by cases hk)
        have hown : TOwn z1.heap.size u25 vb25 (ml) := hownb
        clear hownb hgb hsrc
        refine hK.out _ _ ?_ (fun hHeld => ?_)
        · (try dsimp only); exact KEEP.out _ hq
        clear hK K
        (try simp only [Act.put, List.getElem_toArray, List.getElem_cons_succ, List.getElem_cons_zero, List.setIfInBounds_toArray, List.set_cons_zero, List.set_cons_succ])
        refine wpAnyH_ready (rs := [4, 11]) (by kernel_rfl) (by simp) ?_
        refine (AllReadyH.cons (o := _) rfl (fun K hK => ?_) (AllReadyH.cons (o := _) rfl (fun K hK => ?_) AllReadyH.nil))
        · skip
          have hsrc := htg.step hq
          refine step_append_t rfl (.tmp 68) (.tmp 69) rfl z1.heap.size vb25 (ml) rfl hown _ (some ⟨ga, 0, none⟩) 3 3 rfl hsrc (by have := HLN.out; have h3 : gap3.length = 3 := rfl; have h4 : five.length = 5 := rfl; (try simp only [List.length_cons]); omega) hq.size ?_
          intro vb26 u26 hownb hgb
          have hq : Below z1.heap.size z1 u26 := hq.grown hgb hq.size (fun k hk => (World.ownsRow.lt hown k hk).1)
          have hown : TOwn z1.heap.size u26 vb26 (ml ++ gap3) := hownb
          clear hownb hgb hsrc
          refine hK.out _ _ ?_ (fun hHeld => ?_)
          · (try dsimp only); exact KEEP.out _ hq
          clear hK K
          (try simp only [Act.put, List.getElem_toArray, List.getElem_cons_succ, List.getElem_cons_zero, List.setIfInBounds_toArray, List.set_cons_zero, List.set_cons_succ])
          refine wpAnyH_ready (rs := [6, 11]) (by kernel_rfl) (by simp) ?_
          refine (AllReadyH.cons (o := _) rfl (fun K hK => ?_) (AllReadyH.cons (o := _) rfl (fun K hK => ?_) AllReadyH.nil))
          · skip
            have hsrc := htr.step hq
            refine step_append_t rfl (.tmp 70) (.tmp 71) rfl z1.heap.size vb26 (ml ++ gap3) rfl hown _ RA rn rc rfl hsrc (by have := HLN.out; have h3 : gap3.length = 3 := rfl; have h4 : five.length = 5 := rfl; (try simp only [List.length_append]); omega) hq.size ?_
            intro vb27 u27 hownb hgb
            have hq : Below z1.heap.size z1 u27 := hq.grown hgb hq.size (fun k hk => (World.ownsRow.lt hown k hk).1)
            have hown : TOwn z1.heap.size u27 vb27 ((ml ++ gap3) ++ rl) := hownb
            clear hownb hgb hsrc
            refine hK.out _ _ ?_ (fun hHeld => ?_)
            · (try dsimp only); exact KEEP.out _ hq
            clear hK K
            (try simp only [Act.put, List.getElem_toArray, List.getElem_cons_succ, List.getElem_cons_zero, List.setIfInBounds_toArray, List.set_cons_zero, List.set_cons_succ])
            refine wpAnyH_ready (rs := [7, 11]) (by kernel_rfl) (by simp) ?_
            refine (AllReadyH.cons (o := _) rfl (fun K hK => ?_) (AllReadyH.cons (o := _) rfl (fun K hK => ?_) AllReadyH.nil))
            · skip
              go_simp
              obtain ⟨TA, tn, tc, hve, hts⟩ := hown.sl
              subst hve
              go_at_call 26
              have hbase : z1.heap.size ≤ u27.heap.size := hq.size
              refine (HR2.out _ hq TA tn tc hts).mono ?_
              rintro e u28 ⟨FB, fm, fd, rfl, hs, hu28⟩
              have hq := hq.trans (hu28.mono hq.size)
              refine hK.out _ _ ?_ (fun hHeld => ?_)
              · (try dsimp only); exact KEEP.out _ hq
              clear hK K
              (try simp only [Act.put, List.getElem_toArray, List.getElem_cons_succ, List.getElem_cons_zero, List.setIfInBounds_toArray, List.set_cons_zero, List.set_cons_succ])
              refine wpAnyH_take (i := 8) (oi := _) (v := ?vq29_8) rfl (by kernel_rfl) (by kernel_rfl) (by kernel_rfl) (fun _ _ _ h => h) (Or.inl ⟨rfl, ?yq29_8⟩) (by assumption) ?_
              case yq29_8 => intro w hSw; (try dsimp only at hSw); go_simp; (try with_reducible rfl)
              (try simp only [Act.put, List.getElem_toArray, List.getElem_cons_succ, List.getElem_cons_zero, List.setIfInBounds_toArray, List.set_cons_zero, List.set_cons_succ])
              refine wpAnyH_take (i := 9) (oi := _) (v := ?vq30_9) rfl (by kernel_rfl) (by kernel_rfl) (by kernel_rfl) (fun _ _ _ h => h) (Or.inl ⟨rfl, ?yq30_9⟩) (by assumption) ?_
              case yq30_9 => intro w hSw; (try dsimp only at hSw); go_simp; (try with_reducible rfl)
              (try simp only [Act.put, List.getElem_toArray, List.getElem_cons_succ, List.getElem_cons_zero, List.setIfInBounds_toArray, List.set_cons_zero, List.set_cons_succ])
              refine wpAnyH_take (i := 10) (oi := _) (v := ?vq31_10) rfl (by kernel_rfl) (by kernel_rfl) (by kernel_rfl) (fun _ _ _ h => h) (Or.inl ⟨rfl, ?yq31_10⟩) (by assumption) ?_
              case yq31_10 => intro w hSw; (try dsimp only at hSw); go_simp; (try with_reducible rfl)
              (try simp only [Act.put, List.getElem_toArray, List.getElem_cons_succ, List.getElem_cons_zero, List.setIfInBounds_toArray, List.set_cons_zero, List.set_cons_succ])
              refine wpAnyH_ready (rs := [11]) (by kernel_rfl) (by simp) ?_
              refine (AllReadyH.cons (o := _) rfl (fun K hK => ?_) AllReadyH.nil)
              rw [if_pos (by rfl)]
              go_simp
              have hz := heap_alloc_new u28 (.cells #[.slice none 0 0, .int .i64 0] 35)
              have hz : FBx (u28.alloc (.cells #[.slice none 0 0, .int .i64 0] 35)) u28.heap.size (.slice none 0 0) 0 := hz
              have hgz : z1.heap.size ≤ u28.heap.size := hq.size
              have hba := (Below.refl u28.heap.size u28).alloc (Nat.le_refl _) (.cells #[.slice none 0 0, .int .i64 0] 35)
              have hq := hq.alloc hq.size (.cells #[.slice none 0 0, .int .i64 0] 35)
              refine hK.out _ _ ?_ (fun hHeld => ?_)
              · (try dsimp only); exact KEEP.out _ hq
              clear hK K
              (try simp only [Act.put, List.getElem_toArray, List.getElem_cons_succ, List.getElem_cons_zero, List.setIfInBounds_toArray, List.set_cons_zero, List.set_cons_succ])
              obtain ⟨G, hG⟩ : ∃ G, G = u28.heap.size := ⟨_, rfl⟩
              have HGE := Lib.hid hG
              rw [← hG] at hz hgz ⊢
              clear hG
              obtain ⟨u29, hu29⟩ : ∃ u, u = u28.alloc (.cells #[.slice none 0 0, .int .i64 0] 35) := ⟨_, rfl⟩
              rw [← hu29] at hz hq hba hHeld ⊢
              clear hu29
              refine wpAnyH_ready (rs := [12]) (by kernel_rfl) (by simp) ?_
              refine (AllReadyH.cons (o := _) rfl (fun K hK => ?_) AllReadyH.nil)
              refine step_store_f rfl (.tmp 13) (.tmp 74) rfl G FB fm fd (.slice none 0 0) _ 0 rfl rfl hz ?_
              intro u30 hz3 hg3
              have hq3 := hq.grown hg3 hq.size (fun k hk => by injection hk with hk; rw [← hk]; exact hgz)
              have hs3 := (⟨hs.1.step (hba.grown hg3 hba.size (fun k hk => by injection hk with hk; rw [← hk, HGE.out]; exact Nat.le_refl _)), fun a ha => Nat.le_trans hbase (hs.2 a ha)⟩ : Je.SlN z1.heap.size u30 FB fm fd _)
              refine hK.out _ _ ?_ (fun hHeld => ?_)
              · (try dsimp only); exact KEEP.out _ hq3
              clear hK K
              (try simp only [Act.put, List.getElem_toArray, List.getElem_cons_succ, List.getElem_cons_zero])
              refine wpAnyH_take (i := 13) (oi := _) (v := ?vq32_13) rfl (by kernel_rfl) (by kernel_rfl) (by kernel_rfl) (fun _ _ _ h => h) (Or.inl ⟨rfl, ?yq32_13⟩) (by assumption) ?_
              case yq32_13 => intro w hSw; (try dsimp only at hSw); go_simp; (try with_reducible rfl)
              (try simp only [Act.put, List.getElem_toArray, List.getElem_cons_succ, List.getElem_cons_zero, List.setIfInBounds_toArray, List.set_cons_zero, List.set_cons_succ])
              refine wpAnyH_done (by kernel_rfl) ?_ _
              clear hHeld
              go_wp2_with fail
              go_meet
              exact ⟨G, rfl, rfl, FB, fm, fd, hz3, hs3.1, hq3⟩
            · skip
              rw [if_pos (by rfl)]
              go_simp
              have hz := heap_alloc_new u27 (.cells #[.slice none 0 0, .int .i64 0] 35)
              have hz : FBx (u27.alloc (.cells #[.slice none 0 0, .int .i64 0] 35)) u27.heap.size (.slice none 0 0) 0 := hz
              have hgz : z1.heap.size ≤ u27.heap.size := hq.size
              have hown := World.ownsRow.alloc hown (.cells #[.slice none 0 0, .int .i64 0] 35)
              have hq := hq.alloc hq.size (.cells #[.slice none 0 0, .int .i64 0] 35)
              refine hK.out _ _ ?_ (fun hHeld => ?_)
              · (try dsimp only); exact KEEP.out _ hq
              clear hK K
              (try simp only [Act.put, List.getElem_toArray, List.getElem_cons_succ, List.getElem_cons_zero, List.setIfInBounds_toArray, List.set_cons_zero, List.set_cons_succ])
              obtain ⟨G, hG⟩ : ∃ G, G = u27.heap.size := ⟨_, rfl⟩
              have HGE := Lib.hid hG
              rw [← hG] at hz hgz ⊢
              clear hG
              obtain ⟨u31, hu31⟩ : ∃ u, u = u27.alloc (.cells #[.slice none 0 0, .int .i64 0] 35) := ⟨_, rfl⟩
              rw [← hu31] at hz hq hown hHeld ⊢
              clear hu31
              replace hown : TOwn z1.heap.size u31 vb27 _ := hown
              refine wpAnyH_ready (rs := [7]) (by kernel_rfl) (by simp) ?_
              refine (AllReadyH.cons (o := _) rfl (fun K hK => ?_) AllReadyH.nil)
              go_simp
              obtain ⟨TA, tn, tc, hve, hts⟩ := hown.sl
              subst hve
              go_at_call 26
              have hbase : z1.heap.size ≤ u31.heap.size := hq.size
              have hlo := hz.lt
              refine (HR2.out _ hq TA tn tc hts).mono ?_
              rintro e u32 ⟨FB, fm, fd, rfl, hs, hu32⟩
              have hz := hz.below hu32
              have hq := hq.trans (hu32.mono hq.size)
              refine hK.out _ _ ?_ (fun hHeld => ?_)
              · (try dsimp only); exact KEEP.out _ hq
              clear hK K
              (try simp only [Act.put, List.getElem_toArray, List.getElem_cons_succ, List.getElem_cons_zero, List.setIfInBounds_toArray, List.set_cons_zero, List.set_cons_succ])
              refine wpAnyH_take (i := 8) (oi := _) (v := ?vq33_8) rfl (by kernel_rfl) (by kernel_rfl) (by kernel_rfl) (fun _ _ _ h => h) (Or.inl ⟨rfl, ?yq33_8⟩) (by assumption) ?_
              case yq33_8 => intro w hSw; (try dsimp only at hSw); go_simp; (try with_reducible rfl)
              (try simp only [Act.put, List.getElem_toArray, List.getElem_cons_succ, List.getElem_cons_zero, List.setIfInBounds_toArray, List.set_cons_zero, List.set_cons_succ])
              refine wpAnyH_take (i := 9) (oi := _) (v := ?vq34_9) rfl (by kernel_rfl) (by kernel_rfl) (by kernel_rfl) (fun _ _ _ h => h) (Or.inl ⟨rfl, ?yq34_9⟩) (by assumption) ?_
              case yq34_9 => intro w hSw; (try dsimp only at hSw); go_simp; (try with_reducible rfl)
              (try simp only [Act.put, List.getElem_toArray, List.getElem_cons_succ, List.getElem_cons_zero, List.setIfInBounds_toArray, List.set_cons_zero, List.set_cons_succ])
              refine wpAnyH_take (i := 10) (oi := _) (v := ?vq35_10) rfl (by kernel_rfl) (by kernel_rfl) (by kernel_rfl) (fun _ _ _ h => h) (Or.inl ⟨rfl, ?yq35_10⟩) (by assumption) ?_
              case yq35_10 => intro w hSw; (try dsimp only at hSw); go_simp; (try with_reducible rfl)
              (try simp only [Act.put, List.getElem_toArray, List.getElem_cons_succ, List.getElem_cons_zero, List.setIfInBounds_toArray, List.set_cons_zero, List.set_cons_succ])
              refine wpAnyH_ready (rs := [12]) (by kernel_rfl) (by simp) ?_
              refine (AllReadyH.cons (o := _) rfl (fun K hK => ?_) AllReadyH.nil)
              refine step_store_f rfl (.tmp 13) (.tmp 74) rfl G FB fm fd (.slice none 0 0) _ 0 rfl rfl hz ?_
              intro u33 hz3 hg3
              have hq3 := hq.grown hg3 hq.size (fun k hk => by injection hk with hk; rw [← hk]; exact hgz)
              have hs3 := (hs.far hg3 (by omega)).base_ hbase
              refine hK.out _ _ ?_ (fun hHeld => ?_)
              · (try dsimp only); exact KEEP.out _ hq3
              clear hK K
              (try simp only [Act.put, List.getElem_toArray, List.getElem_cons_succ, List.getElem_cons_zero])
              refine wpAnyH_take (i := 13) (oi := _) (v := ?vq36_13) rfl (by kernel_rfl) (by kernel_rfl) (by kernel_rfl) (fun _ _ _ h => h) (Or.inl ⟨rfl, ?yq36_13⟩) (by assumption) ?_
              case yq36_13 => intro w hSw; (try dsimp only at hSw); go_simp; (try with_reducible rfl)
              (try simp only [Act.put, List.getElem_toArray, List.getElem_cons_succ, List.getElem_cons_zero, List.setIfInBounds_toArray, List.set_cons_zero, List.set_cons_succ])
              refine wpAnyH_done (by kernel_rfl) ?_ _
              clear hHeld
              go_wp2_with fail
              go_meet
              exact ⟨G, rfl, rfl, FB, fm, fd, hz3, hs3.1, hq3⟩
          · skip
            rw [if_pos (by rfl)]
            go_simp
            have hz := heap_alloc_new u26 (.cells #[.slice none 0 0, .int .i64 0] 35)
            have hz : FBx (u26.alloc (.cells #[.slice none 0 0, .int .i64 0] 35)) u26.heap.size (.slice none 0 0) 0 := hz
            have hgz : z1.heap.size ≤ u26.heap.size := hq.size
            have hown := World.ownsRow.alloc hown (.cells #[.slice none 0 0, .int .i64 0] 35)
            have hq := hq.alloc hq.size (.cells #[.slice none 0 0, .int .i64 0] 35)
            refine hK.out _ _ ?_ (fun hHeld => ?_)
            · (try dsimp only); exact KEEP.out _ hq
            clear hK K
            (try simp only [Act.put, List.getElem_toArray, List.getElem_cons_succ, List.getElem_cons_zero, List.setIfInBounds_toArray, List.set_cons_zero, List.set_cons_succ])
            obtain ⟨G, hG⟩ : ∃ G, G = u26.heap.size := ⟨_, rfl⟩
            have HGE := Lib.hid hG
            rw [← hG] at hz hgz ⊢
            clear hG
            obtain ⟨u34, hu34⟩ : ∃ u, u = u26.alloc (.cells #[.slice none 0 0, .int .i64 0] 35) := ⟨_, rfl⟩
            rw [← hu34] at hz hq hown hHeld ⊢
            clear hu34
            replace hown : TOwn z1.heap.size u34 vb26 _ := hown
            refine wpAnyH_ready (rs := [6]) (by kernel_rfl) (by simp) ?_
            refine (AllReadyH.cons (o := _) rfl (fun K hK => ?_) AllReadyH.nil)
            have hsrc := htr.step hq
            refine step_append_t rfl (.tmp 70) (.tmp 71) rfl z1.heap.size vb26 (ml ++ gap3) rfl hown _ RA rn rc rfl hsrc (by have := HLN.out; have h3 : gap3.length = 3 := rfl; have h4 : five.length = 5 := rfl; (try simp only [List.length_append]); omega) hq.size ?_
            intro vb35 u35 hownb hgb
            have hq : Below z1.heap.size z1 u35 := hq.grown hgb hq.size (fun k hk => (World.ownsRow.lt hown k hk).1)
            have hz := Jk.FBx.far_t hz hown hgb
            have hown : TOwn z1.heap.size u35 vb35 ((ml ++ gap3) ++ rl) := hownb
            clear hownb hgb hsrc
            refine hK.out _ _ ?_ (fun hHeld => ?_)
            · (try dsimp only); exact KEEP.out _ hq
            clear hK K
            (try simp only [Act.put, List.getElem_toArray, List.getElem_cons_succ, List.getElem_cons_zero, List.setIfInBounds_toArray, List.set_cons_zero, List.set_cons_succ])
            refine wpAnyH_ready (rs := [7]) (by kernel_rfl) (by simp) ?_
            refine (AllReadyH.cons (o := _) rfl (fun K hK => ?_) AllReadyH.nil)
            go_simp
            obtain ⟨TA, tn, tc, hve, hts⟩ := hown.sl
            subst hve
            go_at_call 26
            have hbase : z1.heap.size ≤ u35.heap.size := hq.size
            have hlo := hz.lt
            refine (HR2.out _ hq TA tn tc hts).mono ?_
            rintro e u36 ⟨FB, fm, fd, rfl, hs, hu36⟩
            have hz := hz.below hu36
            have hq := hq.trans (hu36.mono hq.size)
            refine hK.out _ _ ?_ (fun hHeld => ?_)
            · (try dsimp only); exact KEEP.out _ hq
            clear hK K
            (try simp only [Act.put, List.getElem_toArray, List.getElem_cons_succ, List.getElem_cons_zero, List.setIfInBounds_toArray, List.set_cons_zero, List.set_cons_succ])
            refine wpAnyH_take (i := 8) (oi := _) (v := ?vq37_8) rfl (by kernel_rfl) (by kernel_rfl) (by kernel_rfl) (fun _ _ _ h => h) (Or.inl ⟨rfl, ?yq37_8⟩) (by assumption) ?_
            case yq37_8 => intro w hSw; (try dsimp only at hSw); go_simp; (try with_reducible rfl)
            (try simp only [Act.put, List.getElem_toArray, List.getElem_cons_succ, List.getElem_cons_zero, List.setIfInBounds_toArray, List.set_cons_zero, List.set_cons_succ])
            refine wpAnyH_take (i := 9) (oi := _) (v := ?vq38_9) rfl (by kernel_rfl) (by kernel_rfl) (by kernel_rfl) (fun _ _ _ h => h) (Or.inl ⟨rfl, ?yq38_9⟩) (by assumption) ?_
            case yq38_9 => intro w hSw; (try dsimp only at hSw); go_simp; (try with_reducible rfl)
            (try simp only [Act.put, List.getElem_toArray, List.getElem_cons_succ, List.getElem_cons_zero, List.setIfInBounds_toArray, List.set_cons_zero, List.set_cons_succ])
            refine wpAnyH_take (i := 10) (oi := _) (v := ?vq39_10) rfl (by kernel_rfl) (by kernel_rfl) (by kernel_rfl) (fun _ _ _ h => h) (Or.inl ⟨rfl, ?yq39_10⟩) (by assumption) ?_
            case yq39_10 => intro w hSw; (try dsimp only at hSw); go_simp; (try with_reducible rfl)
            (try simp only [Act.put, List.getElem_toArray, List.getElem_cons_succ, List.getElem_cons_zero, List.setIfInBounds_toArray, List.set_cons_zero, List.set_cons_succ])
            refine wpAnyH_ready (rs := [12]) (by kernel_rfl) (by simp) ?_
            refine (AllReadyH.cons (o := _) rfl (fun K hK => ?_) AllReadyH.nil)
            refine step_store_f rfl (.tmp 13) (.tmp 74) rfl G FB fm fd (.slice none 0 0) _ 0 rfl rfl hz ?_
            intro u37 hz3 hg3
            have hq3 := hq.grown hg3 hq.size (fun k hk => by injection hk with hk; rw [← hk]; exact hgz)
            have hs3 := (hs.far hg3 (by omega)).base_ hbase
            refine hK.out _ _ ?_ (fun hHeld => ?_)
            · (try dsimp only); exact KEEP.out _ hq3
            clear hK K
            (try simp only [Act.put, List.getElem_toArray, List.getElem_cons_succ, List.getElem_cons_zero])
            refine wpAnyH_take (i := 13) (oi := _) (v := ?vq40_13) rfl (by kernel_rfl) (by kernel_rfl) (by kernel_rfl) (fun _ _ _ h => h) (Or.inl ⟨rfl, ?yq40_13⟩) (by assumption) ?_
            case yq40_13 => intro w hSw; (try dsimp only at hSw); go_simp; (try with_reducible rfl)
            (try simp only [Act.put, List.getElem_toArray, List.getElem_cons_succ, List.getElem_cons_zero, List.setIfInBounds_toArray, List.set_cons_zero, List.set_cons_succ])
            refine wpAnyH_done (by kernel_rfl) ?_ _
            clear hHeld
            go_wp2_with fail
            go_meet
            exact ⟨G, rfl, rfl, FB, fm, fd, hz3, hs3.1, hq3⟩
        · skip
          rw [if_pos (by rfl)]
          go_simp
          have hz := heap_alloc_new u25 (.cells #[.slice none 0 0, .int .i64 0] 35)
          have hz : FBx (u25.alloc (.cells #[.slice none 0 0, .int .i64 0] 35)) u25.heap.size (.slice none 0 0) 0 := hz
          have hgz : z1.heap.size ≤ u25.heap.size := hq.size
          have hown := World.ownsRow.alloc hown (.cells #[.slice none 0 0, .int .i64 0] 35)
          have hq := hq.alloc hq.size (.cells #[.slice none 0 0, .int .i64 0] 35)
          refine hK.out _ _ ?_ (fun hHeld => ?_)
          · (try dsimp only); exact KEEP.out _ hq
          clear hK K
          (try simp only [Act.put, List.getElem_toArray, List.getElem_cons_succ, List.getElem_cons_zero, List.setIfInBounds_toArray, List.set_cons_zero, List.set_cons_succ])
          obtain ⟨G, hG⟩ : ∃ G, G = u25.heap.size := ⟨_, rfl⟩
          have HGE := Lib.hid hG
          rw [← hG] at hz hgz ⊢
          clear hG
          obtain ⟨u38, hu38⟩ : ∃ u, u = u25.alloc (.cells #[.slice none 0 0, .int .i64 0] 35) := ⟨_, rfl⟩
          rw [← hu38] at hz hq hown hHeld ⊢
          clear hu38
          replace hown : TOwn z1.heap.size u38 vb25 _ := hown
          refine wpAnyH_ready (rs := [4]) (by kernel_rfl) (by simp) ?_
          refine (AllReadyH.cons (o := _) rfl (fun K hK => ?_) AllReadyH.nil)
          have hsrc := htg.step hq
          refine step_append_t rfl (.tmp 68) (.tmp 69) rfl z1.heap.size vb25 (ml) rfl hown _ (some ⟨ga, 0, none⟩) 3 3 rfl hsrc (by have := HLN.out; have h3 : gap3.length = 3 := rfl; have h4 : five.length = 5 := rfl; (try simp only [List.length_cons]); omega) hq.size ?_
          intro vb39 u39 hownb hgb
          have hq : Below z1.heap.size z1 u39 := hq.grown hgb hq.size (fun k hk => (World.ownsRow.lt hown k hk).1)
          have hz := Jk.FBx.far_t hz hown hgb
          have hown : TOwn z1.heap.size u39 vb39 (ml ++ gap3) := hownb
          clear hownb hgb hsrc
          refine hK.out _ _ ?_ (fun hHeld => ?_)
          · (try dsimp only); exact KEEP.out _ hq
          clear hK K
          (try simp only [Act.put, List.getElem_toArray, List.getElem_cons_succ, List.getElem_cons_zero, List.setIfInBounds_toArray, List.set_cons_zero, List.set_cons_succ])
          refine wpAnyH_ready (rs := [6]) (by kernel_rfl) (by simp) ?_
          refine (AllReadyH.cons (o := _) rfl (fun K hK => ?_) AllReadyH.nil)
          have hsrc := htr.step hq
          refine step_append_t rfl (.tmp 70) (.tmp 71) rfl z1.heap.size vb39 (ml ++ gap3) rfl hown _ RA rn rc rfl hsrc (by have := HLN.out; have h3 : gap3.length = 3 := rfl; have h4 : five.length = 5 := rfl; (try simp only [List.length_append]); omega) hq.size ?_
          intro vb40 u40 hownb hgb
          have hq : Below z1.heap.size z1 u40 := hq.grown hgb hq.size (fun k hk => (World.ownsRow.lt hown k hk).1)
          have hz := Jk.FBx.far_t hz hown hgb
          have hown : TOwn z1.heap.size u40 vb40 ((ml ++ gap3) ++ rl) := hownb
          clear hownb hgb hsrc
          refine hK.out _ _ ?_ (fun hHeld => ?_)
          · (try dsimp only); exact KEEP.out _ hq
          clear hK K
          (try simp only [Act.put, List.getElem_toArray, List.getElem_cons_succ, List.getElem_cons_zero, List.setIfInBounds_toArray, List.set_cons_zero, List.set_cons_succ])
          refine wpAnyH_ready (rs := [7]) (by kernel_rfl) (by simp) ?_
          refine (AllReadyH.cons (o := _) rfl (fun K hK => ?_) AllReadyH.nil)
          go_simp
          obtain ⟨TA, tn, tc, hve, hts⟩ := hown.sl
          subst hve
          go_at_call 26
          have hbase : z1.heap.size ≤ u40.heap.size := hq.size
          have hlo := hz.lt
          refine (HR2.out _ hq TA tn tc hts).mono ?_
          rintro e u41 ⟨FB, fm, fd, rfl, hs, hu41⟩
          have hz := hz.below hu41
          have hq := hq.trans (hu41.mono hq.size)
          refine hK.out _ _ ?_ (fun hHeld => ?_)
          · (try dsimp only); exact KEEP.out _ hq
          clear hK K
          (try simp only [Act.put, List.getElem_toArray, List.getElem_cons_succ, List.getElem_cons_zero, List.setIfInBounds_toArray, List.set_cons_zero, List.set_cons_succ])
          refine wpAnyH_take (i := 8) (oi := _) (v := ?vq41_8) rfl (by kernel_rfl) (by kernel_rfl) (by kernel_rfl) (fun _ _ _ h => h) (Or.inl ⟨rfl, ?yq41_8⟩) (by assumption) ?_
          case yq41_8 => intro w hSw; (try dsimp only at hSw); go_simp; (try with_reducible rfl)
          (try simp only [Act.put, List.getElem_toArray, List.getElem_cons_succ, List.getElem_cons_zero, List.setIfInBounds_toArray, List.set_cons_zero, List.set_cons_succ])
          refine wpAnyH_take (i := 9) (oi := _) (v := ?vq42_9) rfl (by kernel_rfl) (by kernel_rfl) (by kernel_rfl) (fun _ _ _ h => h) (Or.inl ⟨rfl, ?yq42_9⟩) (by assumption) ?_
          case yq42_9 => intro w hSw; (try dsimp only at hSw); go_simp; (try with_reducible rfl)
          (try simp only [Act.put, List.getElem_toArray, List.getElem_cons_succ, List.getElem_cons_zero, List.setIfInBounds_toArray, List.set_cons_zero, List.set_cons_succ])
          refine wpAnyH_take (i := 10) (oi := _) (v := ?vq43_10) rfl (by kernel_rfl) (by kernel_rfl) (by kernel_rfl) (fun _ _ _ h => h) (Or.inl ⟨rfl, ?yq43_10⟩) (by assumption) ?_
          case yq43_10 => intro w hSw; (try dsimp only at hSw); go_simp; (try with_reducible rfl)
          (try simp only [Act.put, List.getElem_toArray, List.getElem_cons_succ, List.getElem_cons_zero, List.setIfInBounds_toArray, List.set_cons_zero, List.set_cons_succ])
          refine wpAnyH_ready (rs := [12]) (by kernel_rfl) (by simp) ?_
          refine (AllReadyH.cons (o := _) rfl (fun K hK => ?_) AllReadyH.nil)
          refine step_store_f rfl (.tmp 13) (.tmp 74) rfl G FB fm fd (.slice none 0 0) _ 0 rfl rfl hz ?_
          intro u42 hz3 hg3
          have hq3 := hq.grown hg3 hq.size (fun k hk => by injection hk with hk; rw [← hk]; exact hgz)
          have hs3 := (hs.far hg3 (by omega)).base_ hbase
          refine hK.out _ _ ?_ (fun hHeld => ?_)
          · (try dsimp only); exact KEEP.out _ hq3
          clear hK K
          (try simp only [Act.put, List.getElem_toArray, List.getElem_cons_succ, List.getElem_cons_zero])
          refine wpAnyH_take (i := 13) (oi := _) (v := ?vq44_13) rfl (by kernel_rfl) (by kernel_rfl) (by kernel_rfl) (fun _ _ _ h => h) (Or.inl ⟨rfl, ?yq44_13⟩) (by assumption) ?_
          case yq44_13 => intro w hSw; (try dsimp only at hSw); go_simp; (try with_reducible rfl)
          (try simp only [Act.put, List.getElem_toArray, List.getElem_cons_succ, List.getElem_cons_zero, List.setIfInBounds_toArray, List.set_cons_zero, List.set_cons_succ])
          refine wpAnyH_done (by kernel_rfl) ?_ _
          clear hHeld
          go_wp2_with fail
          go_meet
          exact ⟨G, rfl, rfl, FB, fm, fd, hz3, hs3.1, hq3⟩
      · skip
        rw [if_pos (by rfl)]
        go_simp
        have hz := heap_alloc_new v (.cells #[.slice none 0 0, .int .i64 0] 35)
        have hz : FBx (v.alloc (.cells #[.slice none 0 0, .int .i64 0] 35)) v.heap.size (.slice none 0 0) 0 := hz
        have hgz : z1.heap.size ≤ v.heap.size := hq.size
        have hq := hq.alloc hq.size (.cells #[.slice none 0 0, .int .i64 0] 35)
        refine hK.out _ _ ?_ (fun hHeld => ?_)
        · (try dsimp only); exact KEEP.out _ hq
        clear hK K
        (try simp only [Act.put, List.getElem_toArray, List.getElem_cons_succ, List.getElem_cons_zero, List.setIfInBounds_toArray, List.set_cons_zero, List.set_cons_succ])
        obtain ⟨G, hG⟩ : ∃ G, G = v.heap.size := ⟨_, rfl⟩
        have HGE := Lib.hid hG
        rw [← hG] at hz hgz ⊢
        clear hG
        obtain ⟨u43, hu43⟩ : ∃ u, u = v.alloc (.cells #[.slice none 0 0, .int .i64 0] 35) := ⟨_, rfl⟩
        rw [← hu43] at hz hq hHeld ⊢
        clear hu43
        refine wpAnyH_ready (rs := [2]) (by kernel_rfl) (by simp) ?_
        refine (AllReadyH.cons (o := _) rfl (fun K hK => ?_) AllReadyH.nil)
        have hsrc := htm.step hq
        refine step_append_t rfl (.const (.slice none 0 0)) (.tmp 67) rfl z1.heap.size (.slice none 0 0) ([]) rfl (show TOwn z1.heap.size u43 (.slice none 0 0) [] from TOwn.nil) _ MA mn mc rfl hsrc (by have := HLN.out; have h3 : gap3.length = 3 := rfl; have h4 : five.length = 5 := rfl; (try simp only [List.length_nil]); omega) hq.size ?_
        intro vb44 u44 hownb hgb
        have hq : Below z1.heap.size z1 u44 := hq.grown hgb hq.size (fun k hk => by cases hk)
        have hz := hz.kept hgb (fun e => by cases e)
        have hown : TOwn z1.heap.size u44 vb44 (ml) := hownb
        clear hownb hgb hsrc
        refine hK.out _ _ ?_ (fun hHeld => ?_)
        · (try dsimp only); exact KEEP.out _ hq
        clear hK K
        (try simp only [Act.put, List.getElem_toArray, List.getElem_cons_succ, List.getElem_cons_zero, List.setIfInBounds_toArray, List.set_cons_zero, List.set_cons_succ])
        refine wpAnyH_ready (rs := [4]) (by kernel_rfl) (by simp) ?_
        refine (AllReadyH.cons (o := _) rfl (fun K hK => ?_) AllReadyH.nil)
        have hsrc := htg.step hq
        refine step_append_t rfl (.tmp 68) (.tmp 69) rfl z1.heap.size vb44 (ml) rfl hown _ (some ⟨ga, 0, none⟩) 3 3 rfl hsrc (by have := HLN.out; have h3 : gap3.length = 3 := rfl; have h4 : five.length = 5 := rfl; (try simp only [List.length_cons]); omega) hq.size ?_
        intro vb45 u45 hownb hgb
        have hq : Below z1.heap.size z1 u45 := hq.grown hgb hq.size (fun k hk => (World.ownsRow.lt hown k hk).1)
        have hz := Jk.FBx.far_t hz hown hgb
        have hown : TOwn z1.heap.size u45 vb45 (ml ++ gap3) := hownb
        clear hownb hgb hsrc
        refine hK.out _ _ ?_ (fun hHeld => ?_)
        · (try dsimp only); exact KEEP.out _ hq
        clear hK K
        (try simp only [Act.put, List.getElem_toArray, List.getElem_cons_succ, List.getElem_cons_zero, List.setIfInBounds_toArray, List.set_cons_zero, List.set_cons_succ])
        refine wpAnyH_ready (rs := [6]) (by kernel_rfl) (by simp) ?_
        refine (AllReadyH.cons (o := _) rfl (fun K hK => ?_) AllReadyH.nil)
        have hsrc := htr.step hq
        refine step_append_t rfl (.tmp 70) (.tmp 71) rfl z1.heap.size vb45 (ml ++ gap3) rfl hown _ RA rn rc rfl hsrc (by have := HLN.out; have h3 : gap3.length = 3 := rfl; have h4 : five.length = 5 := rfl; (try simp only [List.length_append]); omega) hq.size ?_
        intro vb46 u46 hownb hgb
        have hq : Below z1.heap.size z1 u46 := hq.grown hgb hq.size (fun k hk => (World.ownsRow.lt hown k hk).1)
        have hz := Jk.FBx.far_t hz hown hgb
        have hown : TOwn z1.heap.size u46 vb46 ((ml ++ gap3) ++ rl) := hownb
        clear hownb hgb hsrc
        refine hK.out _ _ ?_ (fun hHeld => ?_)
        · (try dsimp only); exact KEEP.out _ hq
        clear hK K
        (try simp only [Act.put, List.getElem_toArray, List.getElem_cons_succ, List.getElem_cons_zero, List.setIfInBounds_toArray, List.set_cons_zero, List.set_cons_succ])
        refine wpAnyH_ready (rs := [7]) (by kernel_rfl) (by simp) ?_
        refine (AllReadyH.cons (o := _) rfl (fun K hK => ?_) AllReadyH.nil)
        go_simp
        obtain ⟨TA, tn, tc, hve, hts⟩ := hown.sl
        subst hve
        go_at_call 26
        have hbase : z1.heap.size ≤ u46.heap.size := hq.size
        have hlo := hz.lt
        refine (HR2.out _ hq TA tn tc hts).mono ?_
        rintro e u47 ⟨FB, fm, fd, rfl, hs, hu47⟩
        have hz := hz.below hu47
        have hq := hq.trans (hu47.mono hq.size)
        refine hK.out _ _ ?_ (fun hHeld => ?_)
        · (try dsimp only); exact KEEP.out _ hq
        clear hK K
        (try simp only [Act.put, List.getElem_toArray, List.getElem_cons_succ, List.getElem_cons_zero, List.setIfInBounds_toArray, List.set_cons_zero, List.set_cons_succ])
        refine wpAnyH_take (i := 8) (oi := _) (v := ?vq45_8) rfl (by kernel_rfl) (by kernel_rfl) (by kernel_rfl) (fun _ _ _ h => h) (Or.inl ⟨rfl, ?yq45_8⟩) (by assumption) ?_
        case yq45_8 => intro w hSw; (try dsimp only at hSw); go_simp; (try with_reducible rfl)
        (try simp only [Act.put, List.getElem_toArray, List.getElem_cons_succ, List.getElem_cons_zero, List.setIfInBounds_toArray, List.set_cons_zero, List.set_cons_succ])
        refine wpAnyH_take (i := 9) (oi := _) (v := ?vq46_9) rfl (by kernel_rfl) (by kernel_rfl) (by kernel_rfl) (fun _ _ _ h => h) (Or.inl ⟨rfl, ?yq46_9⟩) (by assumption) ?_
        case yq46_9 => intro w hSw; (try dsimp only at hSw); go_simp; (try with_reducible rfl)
        (try simp only [Act.put, List.getElem_toArray, List.getElem_cons_succ, List.getElem_cons_zero, List.setIfInBounds_toArray, List.set_cons_zero, List.set_cons_succ])
        refine wpAnyH_take (i := 10) (oi := _) (v := ?vq47_10) rfl (by kernel_rfl) (by kernel_rfl) (by kernel_rfl) (fun _ _ _ h => h) (Or.inl ⟨rfl, ?yq47_10⟩) (by assumption) ?_
        case yq47_10 => intro w hSw; (try dsimp only at hSw); go_simp; (try with_reducible rfl)
        (try simp only [Act.put, List.getElem_toArray, List.getElem_cons_succ, List.getElem_cons_zero, List.setIfInBounds_toArray, List.set_cons_zero, List.set_cons_succ])
        refine wpAnyH_ready (rs := [12]) (by kernel_rfl) (by simp) ?_
        refine (AllReadyH.cons (o := _) rfl (fun K hK => ?_) AllReadyH.nil)
        refine step_store_f rfl (.tmp 13) (.tmp 74) rfl G FB fm fd (.slice none 0 0) _ 0 rfl rfl hz ?_
        intro u48 hz3 hg3
        have hq3 := hq.grown hg3 hq.size (fun k hk => by injection hk with hk; rw [← hk]; exact hgz)
        have hs3 := (hs.far hg3 (by omega)).base_ hbase
        refine hK.out _ _ ?_ (fun hHeld => ?_)
        · (try dsimp only); exact KEEP.out _ hq3
        clear hK K
        (try simp only [Act.put, List.getElem_toArray, List.getElem_cons_succ, List.getElem_cons_zero])
        refine wpAnyH_take (i := 13) (oi := _) (v := ?vq48_13) rfl (by kernel_rfl) (by kernel_rfl) (by kernel_rfl) (fun _ _ _ h => h) (Or.inl ⟨rfl, ?yq48_13⟩) (by assumption) ?_
        case yq48_13 => intro w hSw; (try dsimp only at hSw); go_simp; (try with_reducible rfl)
        (try simp only [Act.put, List.getElem_toArray, List.getElem_cons_succ, List.getElem_cons_zero, List.setIfInBounds_toArray, List.set_cons_zero, List.set_cons_succ])
        refine wpAnyH_done (by kernel_rfl) ?_ _
        clear hHeld
        go_wp2_with fail
        go_meet
        exact ⟨G, rfl, rfl, FB, fm, fd, hz3, hs3.1, hq3⟩
    case rest =>
      obtain ⟨G2, rfl, rfl, F2, fn2, fc2, hf2, hs2, hq2⟩ := hcut
      clear hq hv KEEP v
      obtain ⟨z2, hzz⟩ : ∃ z, z = wc := ⟨_, rfl⟩
      rw [← hzz] at hf2 hs2 hq2 ⊢
      clear hzz wc
      have hx := hx.below hq2
      have hps := hps.step hq2
      have htl := htl.step hq2
      have htm := htm.step hq2
      have htr := htr.step hq2
      have htg := htg.step hq2
      have hf1 := hf1.below hq2
      have hs1 := hs1.step hq2
      have hbb := hbb.trans (hq2.mono hbb.size)
      clear hq2 HR2
      have hbg := (Below.refl z2.heap.size z2).alloc (Nat.le_refl _) (.cells #[.int .u8 1, .bool false, .int .u8 2, .bool false, .int .u8 3, .bool false, .int .u8 4, .bool false, .int .u8 5, .bool false] 59)
      have hhg := heap_alloc_new z2 (.cells #[.int .u8 1, .bool false, .int .u8 2, .bool false, .int .u8 3, .bool false, .int .u8 4, .bool false, .int .u8 5, .bool false] 59)
      have htf := tsl_block five hhg rfl (by decide)
      have hx := hx.below hbg
      have hps := hps.step hbg
      have htl := htl.step hbg
      have htm := htm.step hbg
      have htr := htr.step hbg
      have htg := htg.step hbg
      have hf1 := hf1.below hbg
      have hs1 := hs1.step hbg
      have hf2 := hf2.below hbg
      have hs2 := hs2.step hbg
      have hbb := hbb.trans (hbg.mono hbb.size)
      clear hhg hbg
      go_wp2_with fail
      generalize hz2e : z2.alloc (.cells #[.int .u8 1, .bool false, .int .u8 2, .bool false, .int .u8 3, .bool false, .int .u8 4, .bool false, .int .u8 5, .bool false] 59) = z2b at *
      clear hz2e
      obtain ⟨fa, hfa⟩ : ∃ fa, fa = z2.heap.size := ⟨_, rfl⟩
      rw [← hfa] at htf ⊢
      clear hfa
      have htf : TSl z2b (some ⟨fa, 0, none⟩) 5 5 five := htf
      go_wp2_with fail
      obtain ⟨v, hv⟩ : ∃ u, u = z2b.drew := ⟨_, rfl⟩
      have hq : Below z2b.heap.size z2b v := by rw [hv]; exact below_drew (Below.refl _ _)
      have KEEP : Hid (∀ U, Below z2b.heap.size z2b U → Bx U w2.heap.size s (.slice PA pn pc)) := Lib.hid fun U hU => hx.below hU
      have HR3 : Hid (∀ u, Below z2b.heap.size z2b u → ∀ TA tn tc, TSl u TA tn tc (ll ++ five) → Calls Try.prog 26 #[.agg (cells s (.slice PA pn pc)), .slice TA tn tc] u fun e w' => ∃ FA fn fc, e = .returned (.tuple #[.agg #[.slice FA fn fc, .int .i64 (0)], .bool true]) ∧ Je.SlN u.heap.size w' FA fn fc W5 ∧ Below u.heap.size u w') := Lib.hid fun u hu TA tn tc ht => by
        have := HRN.out u TA tn tc _ (hps.step hu) ht (by have h1 := ht.len; have h2 := HLN.out; simp only [List.length_append] at h1; have h3 : gap3.length = 3 := rfl; have h4 : five.length = 5 := rfl; omega)
        rw [five_end K H5.out ll, ← HW5.out] at this
        exact this
      go_cut [16, 17] from 82 to 90 (fun g e wx => ∃ G : Nat, g = .pointer (some ⟨G, 0, none⟩) ∧ e = .bool true ∧ ∃ FB fm fd, FBx wx G (.slice FB fm fd) 0 ∧ Sl wx FB fm fd W5 ∧ Below z2b.heap.size z2b wx)
      case first =>
        refine wp_region_held_drew (S := (fun U => Bx U w2.heap.size s (.slice PA pn pc))) (by kernel_rfl) ?_ (fun hHeld => ?_)
        · (try dsimp only); rw [← hv]; exact KEEP.out _ hq
        generalize z2b.drew = vg at *
        subst hv
        refine wpAnyH_take (i := 0) (oi := _) (v := ?vq49_0) rfl (by kernel_rfl) (by kernel_rfl) (by kernel_rfl) (fun _ _ _ h => h) (Or.inl ⟨rfl, ?yq49_0⟩) (by assumption) ?_
        case yq49_0 => intro w hSw; (try dsimp only at hSw); ((refine exec_load_bx2 (.tmp 9) ?_ ?_ hSw) <;> rfl)
        (try simp only [Act.put, List.getElem_toArray, List.getElem_cons_zero, List.setIfInBounds_toArray, List.set_cons_zero, List.set_cons_succ])
        refine wpAnyH_take (i := 1) (oi := _) (v := ?vq50_1) rfl (by kernel_rfl) (by kernel_rfl) (by kernel_rfl) (fun _ _ _ h => h) (Or.inl ⟨rfl, ?yq50_1⟩) (by assumption) ?_
        case yq50_1 => intro w hSw; (try dsimp only at hSw); go_simp; (try with_reducible rfl)
        (try simp only [Act.put, List.getElem_toArray, List.getElem_cons_succ, List.getElem_cons_zero, List.setIfInBounds_toArray, List.set_cons_zero, List.set_cons_succ])
        refine wpAnyH_take (i := 3) (oi := _) (v := ?vq51_3) rfl (by kernel_rfl) (by kernel_rfl) (by kernel_rfl) (fun _ _ _ h => h) (Or.inl ⟨rfl, ?yq51_3⟩) (by assumption) ?_
        case yq51_3 => intro w hSw; (try dsimp only at hSw); go_simp; (try with_reducible rfl)
        (try simp only [Act.put, List.getElem_toArray, List.getElem_cons_succ, List.getElem_cons_zero, List.setIfInBounds_toArray, List.set_cons_zero, List.set_cons_succ])
        refine wpAnyH_ready (rs := [2, 9]) (by kernel_rfl) (by simp) ?_
        refine (AllReadyH.cons (o := _) rfl (fun K hK => ?_) (AllReadyH.cons (o := _) rfl (fun K hK => ?_) AllReadyH.nil))
        · skip
          have hsrc := htl.step hq
          refine step_append_t rfl (.const (.slice none 0 0)) (.tmp 84) rfl z2b.heap.size (.slice none 0 0) ([]) rfl (show TOwn z2b.heap.size v (.slice none 0 0) [] from TOwn.nil) _ LA ln lc rfl hsrc (by have := HLN.out; have h3 : gap3.length = 3 := rfl; have h4 : five.length = 5 := rfl; (try simp only [List.length_nil]); omega) hq.size ?_
          intro vb49 u49 hownb hgb
          have hq : Below z2b.heap.size z2b u49 := hq.grown hgb hq.size (fun k hk => by cases hk)
          have hown : TOwn z2b.heap.size u49 vb49 (ll) := hownb
          clear hownb hgb hsrc
          refine hK.out _ _ ?_ (fun hHeld => ?_)
          · (try dsimp only); exact KEEP.out _ hq
          clear hK K
          (try simp only [Act.put, List.getElem_toArray, List.getElem_cons_succ, List.getElem_cons_zero, List.setIfInBounds_toArray, List.set_cons_zero, List.set_cons_succ])
          refine wpAnyH_ready (rs := [4, 9]) (by kernel_rfl) (by simp) ?_
          refine (AllReadyH.cons (o := _) rfl (fun K hK => ?_) (AllReadyH.cons (o := _) rfl (fun K hK => ?_) AllReadyH.nil))
          · skip
            have hsrc := htf.step hq
            refine step_append_t rfl (.tmp 85) (.tmp 86) rfl z2b.heap.size vb49 (ll) rfl hown _ (some ⟨fa, 0, none⟩) 5 5 rfl hsrc (by have := HLN.out; have h3 : gap3.length = 3 := rfl; have h4 : five.length = 5 := rfl; (try simp only [List.length_cons]); omega) hq.size ?_
            intro vb50 u50 hownb hgb
            have hq : Below z2b.heap.size z2b u50 := hq.grown hgb hq.size (fun k hk => (World.ownsRow.lt hown k hk).1)
            have hown : TOwn z2b.heap.size u50 vb50 (ll ++ five) := hownb
            clear hownb hgb hsrc
            refine hK.out _ _ ?_ (fun hHeld => ?_)
            · (try dsimp only); exact KEEP.out _ hq
            clear hK K
            (try simp only [Act.put, List.getElem_toArray, List.getElem_cons_succ, List.getElem_cons_zero, List.setIfInBounds_toArray, List.set_cons_zero, List.set_cons_succ])
            refine wpAnyH_ready (rs := [5, 9]) (by kernel_rfl) (by simp) ?_
            refine (AllReadyH.cons (o := _) rfl (fun K hK => ?_) (AllReadyH.cons (o := _) rfl (fun K hK => ?_) AllReadyH.nil))
            · skip
              go_simp
              obtain ⟨TA, tn, tc, hve, hts⟩ := hown.sl
              subst hve
              go_at_call 26
              have hbase : z2b.heap.size ≤ u50.heap.size := hq.size
              refine (HR3.out _ hq TA tn tc hts).mono ?_
              rintro e u51 ⟨FB, fm, fd, rfl, hs, hu51⟩
              have hq := hq.trans (hu51.mono hq.size)
              refine hK.out _ _ ?_ (fun hHeld => ?_)
              · (try dsimp only); exact KEEP.out _ hq
              clear hK K
              (try simp only [Act.put, List.getElem_toArray, List.getElem_cons_succ, List.getElem_cons_zero, List.setIfInBounds_toArray, List.set_cons_zero, List.set_cons_succ])
              refine wpAnyH_take (i := 6) (oi := _) (v := ?vq52_6) rfl (by kernel_rfl) (by kernel_rfl) (by kernel_rfl) (fun _ _ _ h => h) (Or.inl ⟨rfl, ?yq52_6⟩) (by assumption) ?_
              case yq52_6 => intro w hSw; (try dsimp only at hSw); go_simp; (try with_reducible rfl)
              (try simp only [Act.put, List.getElem_toArray, List.getElem_cons_succ, List.getElem_cons_zero, List.setIfInBounds_toArray, List.set_cons_zero, List.set_cons_succ])
              refine wpAnyH_take (i := 7) (oi := _) (v := ?vq53_7) rfl (by kernel_rfl) (by kernel_rfl) (by kernel_rfl) (fun _ _ _ h => h) (Or.inl ⟨rfl, ?yq53_7⟩) (by assumption) ?_
              case yq53_7 => intro w hSw; (try dsimp only at hSw); go_simp; (try with_reducible rfl)
              (try simp only [Act.put, List.getElem_toArray, List.getElem_cons_succ, List.getElem_cons_zero, List.setIfInBounds_toArray, List.set_cons_zero, List.set_cons_succ])
              refine wpAnyH_take (i := 8) (oi := _) (v := ?vq54_8) rfl (by kernel_rfl) (by kernel_rfl) (by kernel_rfl) (fun _ _ _ h => h) (Or.inl ⟨rfl, ?yq54_8⟩) (by assumption) ?_
              case yq54_8 => intro w hSw; (try dsimp only at hSw); go_simp; (try with_reducible rfl)
              (try simp only [Act.put, List.getElem_toArray, List.getElem_cons_succ, List.getElem_cons_zero, List.setIfInBounds_toArray, List.set_cons_zero, List.set_cons_succ])
              refine wpAnyH_ready (rs := [9]) (by kernel_rfl) (by simp) ?_
              refine (AllReadyH.cons (o := _) rfl (fun K hK => ?_) AllReadyH.nil)
              rw [if_pos (by rfl)]
              go_simp
              have hz := heap_alloc_new u51 (.cells #[.slice none 0 0, .int .i64 0] 35)
              have hz : FBx (u51.alloc (.cells #[.slice none 0 0, .int .i64 0] 35)) u51.heap.size (.slice none 0 0) 0 := hz
              have hgz : z2b.heap.size ≤ u51.heap.size := hq.size
              have hba := (Below.refl u51.heap.size u51).alloc (Nat.le_refl _) (.cells #[.slice none 0 0, .int .i64 0] 35)
              have hq := hq.alloc hq.size (.cells #[.slice none 0 0, .int .i64 0] 35)
              refine hK.out _ _ ?_ (fun hHeld => ?_)
              · (try dsimp only); exact KEEP.out _ hq
              clear hK K
              (try simp only [Act.put, List.getElem_toArray, List.getElem_cons_succ, List.getElem_cons_zero, List.setIfInBounds_toArray, List.set_cons_zero, List.set_cons_succ])
              obtain ⟨G, hG⟩ : ∃ G, G = u51.heap.size := ⟨_, rfl⟩
              have HGE := Lib.hid hG
              rw [← hG] at hz hgz ⊢
              clear hG
              obtain ⟨u52, hu52⟩ : ∃ u, u = u51.alloc (.cells #[.slice none 0 0, .int .i64 0] 35) := ⟨_, rfl⟩
              rw [← hu52] at hz hq hba hHeld ⊢
              clear hu52
              refine wpAnyH_ready (rs := [10]) (by kernel_rfl) (by simp) ?_
              refine (AllReadyH.cons (o := _) rfl (fun K hK => ?_) AllReadyH.nil)
              refine step_store_f rfl (.tmp 16) (.tmp 89) rfl G FB fm fd (.slice none 0 0) _ 0 rfl rfl hz ?_
              intro u53 hz3 hg3
              have hq3 := hq.grown hg3 hq.size (fun k hk => by injection hk with hk; rw [← hk]; exact hgz)
              have hs3 := (⟨hs.1.step (hba.grown hg3 hba.size (fun k hk => by injection hk with hk; rw [← hk, HGE.out]; exact Nat.le_refl _)), fun a ha => Nat.le_trans hbase (hs.2 a ha)⟩ : Je.SlN z2b.heap.size u53 FB fm fd _)
              refine hK.out _ _ ?_ (fun hHeld => ?_)
              · (try dsimp only); exact KEEP.out _ hq3
              clear hK K
              (try simp only [Act.put, List.getElem_toArray, List.getElem_cons_succ, List.getElem_cons_zero])
              refine wpAnyH_take (i := 11) (oi := _) (v := ?vq55_11) rfl (by kernel_rfl) (by kernel_rfl) (by kernel_rfl) (fun _ _ _ h => h) (Or.inl ⟨rfl, ?yq55_11⟩) (by assumption) ?_
              case yq55_11 => intro w hSw; (try dsimp only at hSw); go_simp; (try with_reducible rfl)
              (try simp only [Act.put, List.getElem_toArray, List.getElem_cons_succ, List.getElem_cons_zero, List.setIfInBounds_toArray, List.set_cons_zero, List.set_cons_succ])
              refine wpAnyH_done (by kernel_rfl) ?_ _
              clear hHeld
              go_wp2_with fail
              go_meet
              exact ⟨G, rfl, rfl, FB, fm, fd, hz3, hs3.1, hq3⟩
            · skip
              rw [if_pos (by rfl)]
              go_simp
              have hz := heap_alloc_new u50 (.cells #[.slice none 0 0, .int .i64 0] 35)
              have hz : FBx (u50.alloc (.cells #[.slice none 0 0, .int .i64 0] 35)) u50.heap.size (.slice none 0 0) 0 := hz
              have hgz : z2b.heap.size ≤ u50.heap.size := hq.size
              have hown := World.ownsRow.alloc hown (.cells #[.slice none 0 0, .int .i64 0] 35)
              have hq := hq.alloc hq.size (.cells #[.slice none 0 0, .int .i64 0] 35)
              refine hK.out _ _ ?_ (fun hHeld => ?_)
              · (try dsimp only); exact KEEP.out _ hq
              clear hK K
              (try simp only [Act.put, List.getElem_toArray, List.getElem_cons_succ, List.getElem_cons_zero, List.setIfInBounds_toArray, List.set_cons_zero, List.set_cons_succ])
              obtain ⟨G, hG⟩ : ∃ G, G = u50.heap.size := ⟨_, rfl⟩
              have HGE := Lib.hid hG
              rw [← hG] at hz hgz ⊢
              clear hG
              obtain ⟨u54, hu54⟩ : ∃ u, u = u50.alloc (.cells #[.slice none 0 0, .int .i64 0] 35) := ⟨_, rfl⟩
              rw [← hu54] at hz hq hown hHeld ⊢
              clear hu54
              replace hown : TOwn z2b.heap.size u54 vb50 _ := hown
              refine wpAnyH_ready (rs := [5]) (by kernel_rfl) (by simp) ?_
              refine (AllReadyH.cons (o := _) rfl (fun K hK => ?_) AllReadyH.nil)
              go_simp
              obtain ⟨TA, tn, tc, hve, hts⟩ := hown.sl
              subst hve
              go_at_call 26
              have hbase : z2b.heap.size ≤ u54.heap.size := hq.size
              have hlo := hz.lt
              refine (HR3.out _ hq TA tn tc hts).mono ?_
              rintro e u55 ⟨FB, fm, fd, rfl, hs, hu55⟩
              have hz := hz.below hu55
              have hq := hq.trans (hu55.mono hq.size)
              refine hK.out _ _ ?_ (fun hHeld => ?_)
              · (try dsimp only); exact KEEP.out _ hq
              clear hK K
              (try simp only [Act.put, List.getElem_toArray, List.getElem_cons_succ, List.getElem_cons_zero, List.setIfInBounds_toArray, List.set_cons_zero, List.set_cons_succ])
              refine wpAnyH_take (i := 6) (oi := _) (v := ?vq56_6) rfl (by kernel_rfl) (by kernel_rfl) (by kernel_rfl) (fun _ _ _ h => h) (Or.inl ⟨rfl, ?yq56_6⟩) (by assumption) ?_
              case yq56_6 => intro w hSw; (try dsimp only at hSw); go_simp; (try with_reducible rfl)
              (try simp only [Act.put, List.getElem_toArray, List.getElem_cons_succ, List.getElem_cons_zero, List.setIfInBounds_toArray, List.set_cons_zero, List.set_cons_succ])
              refine wpAnyH_take (i := 7) (oi := _) (v := ?vq57_7) rfl (by kernel_rfl) (by kernel_rfl) (by kernel_rfl) (fun _ _ _ h => h) (Or.inl ⟨rfl, ?yq57_7⟩) (by assumption) ?_
              case yq57_7 => intro w hSw; (try dsimp only at hSw); go_simp; (try with_reducible rfl)
              (try simp only [Act.put, List.getElem_toArray, List.getElem_cons_succ, List.getElem_cons_zero, List.setIfInBounds_toArray, List.set_cons_zero, List.set_cons_succ])
              refine wpAnyH_take (i := 8) (oi := _) (v := ?vq58_8) rfl (by kernel_rfl) (by kernel_rfl) (by kernel_rfl) (fun _ _ _ h => h) (Or.inl ⟨rfl, ?yq58_8⟩) (by assumption) ?_
              case yq58_8 => intro w hSw; (try dsimp only at hSw); go_simp; (try with_reducible rfl)
              (try simp only [Act.put, List.getElem_toArray, List.getElem_cons_succ, List.getElem_cons_zero, List.setIfInBounds_toArray, List.set_cons_zero, List.set_cons_succ])
              refine wpAnyH_ready (rs := [10]) (by kernel_rfl) (by simp) ?_
              refine (AllReadyH.cons (o := _) rfl (fun K hK => ?_) AllReadyH.nil)
              refine step_store_f rfl (.tmp 16) (.tmp 89) rfl G FB fm fd (.slice none 0 0) _ 0 rfl rfl hz ?_
              intro u56 hz3 hg3
              have hq3 := hq.grown hg3 hq.size (fun k hk => by injection hk with hk; rw [← hk]; exact hgz)
              have hs3 := (hs.far hg3 (by omega)).base_ hbase
              refine hK.out _ _ ?_ (fun hHeld => ?_)
              · (try dsimp only); exact KEEP.out _ hq3
              clear hK K
              (try simp only [Act.put, List.getElem_toArray, List.getElem_cons_succ, List.getElem_cons_zero])
              refine wpAnyH_take (i := 11) (oi := _) (v := ?vq59_11) rfl (by kernel_rfl) (by kernel_rfl) (by kernel_rfl) (fun _ _ _ h => h) (Or.inl ⟨rfl, ?yq59_11⟩) (by assumption) ?_
              case yq59_11 => intro w hSw; (try dsimp only at hSw); go_simp; (try with_reducible rfl)
              (try simp only [Act.put, List.getElem_toArray, List.getElem_cons_succ, List.getElem_cons_zero, List.setIfInBounds_toArray, List.set_cons_zero, List.set_cons_succ])
              refine wpAnyH_done (by kernel_rfl) ?_ _
              clear hHeld
              go_wp2_with fail
              go_meet
              exact ⟨G, rfl, rfl, FB, fm, fd, hz3, hs3.1, hq3⟩
          · skip
            rw [if_pos (by rfl)]
            go_simp
            have hz := heap_alloc_new u49 (.cells #[.slice none 0 0, .int .i64 0] 35)
            have hz : FBx (u49.alloc (.cells #[.slice none 0 0, .int .i64 0] 35)) u49.heap.size (.slice none 0 0) 0 := hz
            have hgz : z2b.heap.size ≤ u49.heap.size := hq.size
            have hown := World.ownsRow.alloc hown (.cells #[.slice none 0 0, .int .i64 0] 35)
            have hq := hq.alloc hq.size (.cells #[.slice none 0 0, .int .i64 0] 35)
            refine hK.out _ _ ?_ (fun hHeld => ?_)
            · (try dsimp only); exact KEEP.out _ hq
            clear hK K
            (try simp only [Act.put, List.getElem_toArray, List.getElem_cons_succ, List.getElem_cons_zero, List.setIfInBounds_toArray, List.set_cons_zero, List.set_cons_succ])
            obtain ⟨G, hG⟩ : ∃ G, G = u49.heap.size := ⟨_, rfl⟩
            have HGE := Lib.hid hG
            rw [← hG] at hz hgz ⊢
            clear hG
            obtain ⟨u57, hu57⟩ : ∃ u, u = u49.alloc (.cells #[.slice none 0 0, .int .i64 0] 35) := ⟨_, rfl⟩
            rw [← hu57] at hz hq hown hHeld ⊢
            clear hu57
            replace hown : TOwn z2b.heap.size u57 vb49 _ := hown
            refine wpAnyH_ready (rs := [4]) (by kernel_rfl) (by simp) ?_
            refine (AllReadyH.cons (o := _) rfl (fun K hK => ?_) AllReadyH.nil)
            have hsrc := htf.step hq
            refine step_append_t rfl (.tmp 85) (.tmp 86) rfl z2b.heap.size vb49 (ll) rfl hown _ (some ⟨fa, 0, none⟩) 5 5 rfl hsrc (by have := HLN.out; have h3 : gap3.length = 3 := rfl; have h4 : five.length = 5 := rfl; (try simp only [List.length_cons]); omega) hq.size ?_
            intro vb58 u58 hownb hgb
            have hq : Below z2b.heap.size z2b u58 := hq.grown hgb hq.size (fun k hk => (World.ownsRow.lt hown k hk).1)
            have hz := Jk.FBx.far_t hz hown hgb
            have hown : TOwn z2b.heap.size u58 vb58 (ll ++ five) := hownb
            clear hownb hgb hsrc
            refine hK.out _ _ ?_ (fun hHeld => ?_)
            · (try dsimp only); exact KEEP.out _ hq
            clear hK K
            (try simp only [Act.put, List.getElem_toArray, List.getElem_cons_succ, List.getElem_cons_zero, List.setIfInBounds_toArray, List.set_cons_zero, List.set_cons_succ])
            refine wpAnyH_ready (rs := [5]) (by kernel_rfl) (by simp) ?_
            refine (AllReadyH.cons (o := _) rfl (fun K hK => ?_) AllReadyH.nil)
            go_simp
            obtain ⟨TA, tn, tc, hve, hts⟩ := hown.sl
            subst hve
            go_at_call 26
            have hbase : z2b.heap.size ≤ u58.heap.size := hq.size
            have hlo := hz.lt
            refine (HR3.out _ hq TA tn tc hts).mono ?_
            rintro e u59 ⟨FB, fm, fd, rfl, hs, hu59⟩
            have hz := hz.below hu59
            have hq := hq.trans (hu59.mono hq.size)
            refine hK.out _ _ ?_ (fun hHeld => ?_)
            · (try dsimp only); exact KEEP.out _ hq
            clear hK K
            (try simp only [Act.put, List.getElem_toArray, List.getElem_cons_succ, List.getElem_cons_zero, List.setIfInBounds_toArray, List.set_cons_zero, List.set_cons_succ])
            refine wpAnyH_take (i := 6) (oi := _) (v := ?vq60_6) rfl (by kernel_rfl) (by kernel_rfl) (by kernel_rfl) (fun _ _ _ h => h) (Or.inl ⟨rfl, ?yq60_6⟩) (by assumption) ?_
            case yq60_6 => intro w hSw; (try dsimp only at hSw); go_simp; (try with_reducible rfl)
            (try simp only [Act.put, List.getElem_toArray, List.getElem_cons_succ, List.getElem_cons_zero, List.setIfInBounds_toArray, List.set_cons_zero, List.set_cons_succ])
            refine wpAnyH_take (i := 7) (oi := _) (v := ?vq61_7) rfl (by kernel_rfl) (by kernel_rfl) (by kernel_rfl) (fun _ _ _ h => h) (Or.inl ⟨rfl, ?yq61_7⟩) (by assumption) ?_
            case yq61_7 => intro w hSw; (try dsimp only at hSw); go_simp; (try with_reducible rfl)
            (try simp only [Act.put, List.getElem_toArray, List.getElem_cons_succ, List.getElem_cons_zero, List.setIfInBounds_toArray, List.set_cons_zero, List.set_cons_succ])
            refine wpAnyH_take (i := 8) (oi := _) (v := ?vq62_8) rfl (by kernel_rfl) (by kernel_rfl) (by kernel_rfl) (fun _ _ _ h => h) (Or.inl ⟨rfl, ?yq62_8⟩) (by assumption) ?_
            case yq62_8 => intro w hSw; (try dsimp only at hSw); go_simp; (try with_reducible rfl)
            (try simp only [Act.put, List.getElem_toArray, List.getElem_cons_succ, List.getElem_cons_zero, List.setIfInBounds_toArray, List.set_cons_zero, List.set_cons_succ])
            refine wpAnyH_ready (rs := [10]) (by kernel_rfl) (by simp) ?_
            refine (AllReadyH.cons (o := _) rfl (fun K hK => ?_) AllReadyH.nil)
            refine step_store_f rfl (.tmp 16) (.tmp 89) rfl G FB fm fd (.slice none 0 0) _ 0 rfl rfl hz ?_
            intro u60 hz3 hg3
            have hq3 := hq.grown hg3 hq.size (fun k hk => by injection hk with hk; rw [← hk]; exact hgz)
            have hs3 := (hs.far hg3 (by omega)).base_ hbase
            refine hK.out _ _ ?_ (fun hHeld => ?_)
            · (try dsimp only); exact KEEP.out _ hq3
            clear hK K
            (try simp only [Act.put, List.getElem_toArray, List.getElem_cons_succ, List.getElem_cons_zero])
            refine wpAnyH_take (i := 11) (oi := _) (v := ?vq63_11) rfl (by kernel_rfl) (by kernel_rfl) (by kernel_rfl) (fun _ _ _ h => h) (Or.inl ⟨rfl, ?yq63_11⟩) (by assumption) ?_
            case yq63_11 => intro w hSw; (try dsimp only at hSw); go_simp; (try with_reducible rfl)
            (try simp only [Act.put, List.getElem_toArray, List.getElem_cons_succ, List.getElem_cons_zero, List.setIfInBounds_toArray, List.set_cons_zero, List.set_cons_succ])
            refine wpAnyH_done (by kernel_rfl) ?_ _
            clear hHeld
            go_wp2_with fail
            go_meet
            exact ⟨G, rfl, rfl, FB, fm, fd, hz3, hs3.1, hq3⟩
        · skip
          rw [if_pos (by rfl)]
          go_simp
          have hz := heap_alloc_new v (.cells #[.slice none 0 0, .int .i64 0] 35)
          have hz : FBx (v.alloc (.cells #[.slice none 0 0, .int .i64 0] 35)) v.heap.size (.slice none 0 0) 0 := hz
          have hgz : z2b.heap.size ≤ v.heap.size := hq.size
          have hq := hq.alloc hq.size (.cells #[.slice none 0 0, .int .i64 0] 35)
          refine hK.out _ _ ?_ (fun hHeld => ?_)
          · (try dsimp only); exact KEEP.out _ hq
          clear hK K
          (try simp only [Act.put, List.getElem_toArray, List.getElem_cons_succ, List.getElem_cons_zero, List.setIfInBounds_toArray, List.set_cons_zero, List.set_cons_succ])
          obtain ⟨G, hG⟩ : ∃ G, G = v.heap.size := ⟨_, rfl⟩
          have HGE := Lib.hid hG
          rw [← hG] at hz hgz ⊢
          clear hG
          obtain ⟨u61, hu61⟩ : ∃ u, u = v.alloc (.cells #[.slice none 0 0, .int .i64 0] 35) := ⟨_, rfl⟩
          rw [← hu61] at hz hq hHeld ⊢
          clear hu61
          refine wpAnyH_ready (rs := [2]) (by kernel_rfl) (by simp) ?_
          refine (AllReadyH.cons (o := _) rfl (fun K hK => ?_) AllReadyH.nil)
          have hsrc := htl.step hq
          refine step_append_t rfl (.const (.slice none 0 0)) (.tmp 84) rfl z2b.heap.size (.slice none 0 0) ([]) rfl (show TOwn z2b.heap.size u61 (.slice none 0 0) [] from TOwn.nil) _ LA ln lc rfl hsrc (by have := HLN.out; have h3 : gap3.length = 3 := rfl; have h4 : five.length = 5 := rfl; (try simp only [List.length_nil]); omega) hq.size ?_
          intro vb62 u62 hownb hgb
          have hq : Below z2b.heap.size z2b u62 := hq.grown hgb hq.size (fun k hk => by cases hk)
          have hz := hz.kept hgb (fun e => by cases e)
          have hown : TOwn z2b.heap.size u62 vb62 (ll) := hownb
          clear hownb hgb hsrc
          refine hK.out _ _ ?_ (fun hHeld => ?_)
          · (try dsimp only); exact KEEP.out _ hq
          clear hK K
          (try simp only [Act.put, List.getElem_toArray, List.getElem_cons_succ, List.getElem_cons_zero, List.setIfInBounds_toArray, List.set_cons_zero, List.set_cons_succ])
          refine wpAnyH_ready (rs := [4]) (by kernel_rfl) (by simp) ?_
          refine (AllReadyH.cons (o := _) rfl (fun K hK => ?_) AllReadyH.nil)
          have hsrc := htf.step hq
          refine step_append_t rfl (.tmp 85) (.tmp 86) rfl z2b.heap.size vb62 (ll) rfl hown _ (some ⟨fa, 0, none⟩) 5 5 rfl hsrc (by have := HLN.out; have h3 : gap3.length = 3 := rfl; have h4 : five.length = 5 := rfl; (try simp only [List.length_cons]); omega) hq.size ?_
          intro vb63 u63 hownb hgb
          have hq : Below z2b.heap.size z2b u63 := hq.grown hgb hq.size (fun k hk => (World.ownsRow.lt hown k hk).1)
          have hz := Jk.FBx.far_t hz hown hgb
          have hown : TOwn z2b.heap.size u63 vb63 (ll ++ five) := hownb
          clear hownb hgb hsrc
          refine hK.out _ _ ?_ (fun hHeld => ?_)
          · (try dsimp only); exact KEEP.out _ hq
          clear hK K
          (try simp only [Act.put, List.getElem_toArray, List.getElem_cons_succ, List.getElem_cons_zero, List.setIfInBounds_toArray, List.set_cons_zero, List.set_cons_succ])
          refine wpAnyH_ready (rs := [5]) (by kernel_rfl) (by simp) ?_
          refine (AllReadyH.cons (o := _) rfl (fun K hK => ?_) AllReadyH.nil)
          go_simp
          obtain ⟨TA, tn, tc, hve, hts⟩ := hown.sl
          subst hve
          go_at_call 26
          have hbase : z2b.heap.size ≤ u63.heap.size := hq.size
          have hlo := hz.lt
          refine (HR3.out _ hq TA tn tc hts).mono ?_
          rintro e u64 ⟨FB, fm, fd, rfl, hs, hu64⟩
          have hz := hz.below hu64
          have hq := hq.trans (hu64.mono hq.size)
          refine hK.out _ _ ?_ (fun hHeld => ?_)
          · (try dsimp only); exact KEEP.out _ hq
          clear hK K
          (try simp only [Act.put, List.getElem_toArray, List.getElem_cons_succ, List.getElem_cons_zero, List.setIfInBounds_toArray, List.set_cons_zero, List.set_cons_succ])
          refine wpAnyH_take (i := 6) (oi := _) (v := ?vq64_6) rfl (by kernel_rfl) (by kernel_rfl) (by kernel_rfl) (fun _ _ _ h => h) (Or.inl ⟨rfl, ?yq64_6⟩) (by assumption) ?_
          case yq64_6 => intro w hSw; (try dsimp only at hSw); go_simp; (try with_reducible rfl)
          (try simp only [Act.put, List.getElem_toArray, List.getElem_cons_succ, List.getElem_cons_zero, List.setIfInBounds_toArray, List.set_cons_zero, List.set_cons_succ])
          refine wpAnyH_take (i := 7) (oi := _) (v := ?vq65_7) rfl (by kernel_rfl) (by kernel_rfl) (by kernel_rfl) (fun _ _ _ h => h) (Or.inl ⟨rfl, ?yq65_7⟩) (by assumption) ?_
          case yq65_7 => intro w hSw; (try dsimp only at hSw); go_simp; (try with_reducible rfl)
          (try simp only [Act.put, List.getElem_toArray, List.getElem_cons_succ, List.getElem_cons_zero, List.setIfInBounds_toArray, List.set_cons_zero, List.set_cons_succ])
          refine wpAnyH_take (i := 8) (oi := _) (v := ?vq66_8) rfl (by kernel_rfl) (by kernel_rfl) (by kernel_rfl) (fun _ _ _ h => h) (Or.inl ⟨rfl, ?yq66_8⟩) (by assumption) ?_
          case yq66_8 => intro w hSw; (try dsimp only at hSw); go_simp; (try with_reducible rfl)
          (try simp only [Act.put, List.getElem_toArray, List.getElem_cons_succ, List.getElem_cons_zero, List.setIfInBounds_toArray, List.set_cons_zero, List.set_cons_succ])
          refine wpAnyH_ready (rs := [10]) (by kernel_rfl) (by simp) ?_
          refine (AllReadyH.cons (o := _) rfl (fun K hK => ?_) AllReadyH.nil)
          refine step_store_f rfl (.tmp 16) (.tmp 89) rfl G FB fm fd (.slice none 0 0) _ 0 rfl rfl hz ?_
          intro u65 hz3 hg3
          have hq3 := hq.grown hg3 hq.size (fun k hk => by injection hk with hk; rw [← hk]; exact hgz)
          have hs3 := (hs.far hg3 (by omega)).base_ hbase
          refine hK.out _ _ ?_ (fun hHeld => ?_)
          · (try dsimp only); exact KEEP.out _ hq3
          clear hK K
          (try simp only [Act.put, List.getElem_toArray, List.getElem_cons_succ, List.getElem_cons_zero])
          refine wpAnyH_take (i := 11) (oi := _) (v := ?vq67_11) rfl (by kernel_rfl) (by kernel_rfl) (by kernel_rfl) (fun _ _ _ h => h) (Or.inl ⟨rfl, ?yq67_11⟩) (by assumption) ?_
          case yq67_11 => intro w hSw; (try dsimp only at hSw); go_simp; (try with_reducible rfl)
          (try simp only [Act.put, List.getElem_toArray, List.getElem_cons_succ, List.getElem_cons_zero, List.setIfInBounds_toArray, List.set_cons_zero, List.set_cons_succ])
          refine wpAnyH_done (by kernel_rfl) ?_ _
          clear hHeld
          go_wp2_with fail
          go_meet
          exact ⟨G, rfl, rfl, FB, fm, fd, hz3, hs3.1, hq3⟩
      case rest =>
        obtain ⟨G3, rfl, rfl, F3, fn3, fc3, hf3, hs3, hq3⟩ := hcut
        clear hq hv KEEP v
        obtain ⟨z3, hzz⟩ : ∃ z, z = wc := ⟨_, rfl⟩
        rw [← hzz] at hf3 hs3 hq3 ⊢
        clear hzz wc
        have hx := hx.below hq3
        have hps := hps.step hq3
        have htl := htl.step hq3
        have htm := htm.step hq3
        have htr := htr.step hq3
        have htg := htg.step hq3
        have htf := htf.step hq3
        have hf1 := hf1.below hq3
        have hs1 := hs1.step hq3
        have hf2 := hf2.below hq3
        have hs2 := hs2.step hq3
        have hbb := hbb.trans (hq3.mono hbb.size)
        clear hq3 HR3
        go_wp2_with fail
        obtain ⟨v, hv⟩ : ∃ u, u = z3.drew := ⟨_, rfl⟩
        have hq : Below z3.heap.size z3 v := by rw [hv]; exact below_drew (Below.refl _ _)
        have KEEP : Hid (∀ U, Below z3.heap.size z3 U → Bx U w2.heap.size s (.slice PA pn pc)) := Lib.hid fun U hU => hx.below hU
        have HR4 : Hid (∀ u, Below z3.heap.size z3 u → ∀ TA tn tc, TSl u TA tn tc (ml ++ five) → Calls Try.prog 26 #[.agg (cells s (.slice PA pn pc)), .slice TA tn tc] u fun e w' => ∃ FA fn fc, e = .returned (.tuple #[.agg #[.slice FA fn fc, .int .i64 (0)], .bool true]) ∧ Je.SlN u.heap.size w' FA fn fc W5 ∧ Below u.heap.size u w') := Lib.hid fun u hu TA tn tc ht => by
          have := HRN.out u TA tn tc _ (hps.step hu) ht (by have h1 := ht.len; have h2 := HLN.out; simp only [List.length_append] at h1; have h3 : gap3.length = 3 := rfl; have h4 : five.length = 5 := rfl; omega)
          rw [five_end K H5.out ml, ← HW5.out] at this
          exact this
        go_cut [18, 19] from 91 to 99 (fun g e wx => ∃ G : Nat, g = .pointer (some ⟨G, 0, none⟩) ∧ e = .bool true ∧ ∃ FB fm fd, FBx wx G (.slice FB fm fd) 0 ∧ Sl wx FB fm fd W5 ∧ Below z3.heap.size z3 wx)
        case first =>
          refine wp_region_held_drew (S := (fun U => Bx U w2.heap.size s (.slice PA pn pc))) (by kernel_rfl) ?_ (fun hHeld => ?_)
          · (try dsimp only); rw [← hv]; exact KEEP.out _ hq
          generalize z3.drew = vg at *
          subst hv
          refine wpAnyH_take (i := 0) (oi := _) (v := ?vq68_0) rfl (by kernel_rfl) (by kernel_rfl) (by kernel_rfl) (fun _ _ _ h => h) (Or.inl ⟨rfl, ?yq68_0⟩) (by assumption) ?_
          case yq68_0 => intro w hSw; (try dsimp only at hSw); ((refine exec_load_bx2 (.tmp 9) ?_ ?_ hSw) <;> rfl)
          (try simp only [Act.put, List.getElem_toArray, List.getElem_cons_zero, List.setIfInBounds_toArray, List.set_cons_zero, List.set_cons_succ])
          refine wpAnyH_take (i := 1) (oi := _) (v := ?vq69_1) rfl (by kernel_rfl) (by kernel_rfl) (by kernel_rfl) (fun _ _ _ h => h) (Or.inl ⟨rfl, ?yq69_1⟩) (by assumption) ?_
          case yq69_1 => intro w hSw; (try dsimp only at hSw); go_simp; (try with_reducible rfl)
          (try simp only [Act.put, List.getElem_toArray, List.getElem_cons_succ, List.getElem_cons_zero, List.setIfInBounds_toArray, List.set_cons_zero, List.set_cons_succ])
          refine wpAnyH_take (i := 3) (oi := _) (v := ?vq70_3) rfl (by kernel_rfl) (by kernel_rfl) (by kernel_rfl) (fun _ _ _ h => h) (Or.inl ⟨rfl, ?yq70_3⟩) (by assumption) ?_
          case yq70_3 => intro w hSw; (try dsimp only at hSw); go_simp; (try with_reducible rfl)
          (try simp only [Act.put, List.getElem_toArray, List.getElem_cons_succ, List.getElem_cons_zero, List.setIfInBounds_toArray, List.set_cons_zero, List.set_cons_succ])
          refine wpAnyH_ready (rs := [2, 9]) (by kernel_rfl) (by simp) ?_
          refine (AllReadyH.cons (o := _) rfl (fun K hK => ?_) (AllReadyH.cons (o := _) rfl (fun K hK => ?_) AllReadyH.nil))
          · skip
            have hsrc := htm.step hq
            refine step_append_t rfl (.const (.slice none 0 0)) (.tmp 93) rfl z3.heap.size (.slice none 0 0) ([]) rfl (show TOwn z3.heap.size v (.slice none 0 0) [] from TOwn.nil) _ MA mn mc rfl hsrc (by have := HLN.out; have h3 : gap3.length = 3 := rfl; have h4 : five.length = 5 := rfl; (try simp only [List.length_nil]); omega) hq.size ?_
            intro vb66 u66 hownb hgb
            have hq : Below z3.heap.size z3 u66 := hq.grown hgb hq.size (fun k hk => by cases hk)
            have hown : TOwn z3.heap.size u66 vb66 (ml) := hownb
            clear hownb hgb hsrc
            refine hK.out _ _ ?_ (fun hHeld => ?_)
            · (try dsimp only); exact KEEP.out _ hq
            clear hK K
            (try simp only [Act.put, List.getElem_toArray, List.getElem_cons_succ, List.getElem_cons_zero, List.setIfInBounds_toArray, List.set_cons_zero, List.set_cons_succ])
            refine wpAnyH_ready (rs := [4, 9]) (by kernel_rfl) (by simp) ?_
            refine (AllReadyH.cons (o := _) rfl (fun K hK => ?_) (AllReadyH.cons (o := _) rfl (fun K hK => ?_) AllReadyH.nil))
            · skip
              have hsrc := htf.step hq
              refine step_append_t rfl (.tmp 94) (.tmp 95) rfl z3.heap.size vb66 (ml) rfl hown _ (some ⟨fa, 0, none⟩) 5 5 rfl hsrc (by have := HLN.out; have h3 : gap3.length = 3 := rfl; have h4 : five.length = 5 := rfl; (try simp only [List.length_cons]); omega) hq.size ?_
              intro vb67 u67 hownb hgb
              have hq : Below z3.heap.size z3 u67 := hq.grown hgb hq.size (fun k hk => (World.ownsRow.lt hown k hk).1)
              have hown : TOwn z3.heap.size u67 vb67 (ml ++ five) := hownb
              clear hownb hgb hsrc
              refine hK.out _ _ ?_ (fun hHeld => ?_)
              · (try dsimp only); exact KEEP.out _ hq
              clear hK K
              (try simp only [Act.put, List.getElem_toArray, List.getElem_cons_succ, List.getElem_cons_zero, List.setIfInBounds_toArray, List.set_cons_zero, List.set_cons_succ])
              refine wpAnyH_ready (rs := [5, 9]) (by kernel_rfl) (by simp) ?_
              refine (AllReadyH.cons (o := _) rfl (fun K hK => ?_) (AllReadyH.cons (o := _) rfl (fun K hK => ?_) AllReadyH.nil))
              · skip
                go_simp
                obtain ⟨TA, tn, tc, hve, hts⟩ := hown.sl
                subst hve
                go_at_call 26
                have hbase : z3.heap.size ≤ u67.heap.size := hq.size
                refine (HR4.out _ hq TA tn tc hts).mono ?_
                rintro e u68 ⟨FB, fm, fd, rfl, hs, hu68⟩
                have hq := hq.trans (hu68.mono hq.size)
                refine hK.out _ _ ?_ (fun hHeld => ?_)
                · (try dsimp only); exact KEEP.out _ hq
                clear hK K
                (try simp only [Act.put, List.getElem_toArray, List.getElem_cons_succ, List.getElem_cons_zero, List.setIfInBounds_toArray, List.set_cons_zero, List.set_cons_succ])
                refine wpAnyH_take (i := 6) (oi := _) (v := ?vq71_6) rfl (by kernel_rfl) (by kernel_rfl) (by kernel_rfl) (fun _ _ _ h => h) (Or.inl ⟨rfl, ?yq71_6⟩) (by assumption) ?_
                case yq71_6 => intro w hSw; (try dsimp only at hSw); go_simp; (try with_reducible rfl)
                (try simp only [Act.put, List.getElem_toArray, List.getElem_cons_succ, List.getElem_cons_zero, List.setIfInBounds_toArray, List.set_cons_zero, List.set_cons_succ])
                refine wpAnyH_take (i := 7) (oi := _) (v := ?vq72_7) rfl (by kernel_rfl) (by kernel_rfl) (by kernel_rfl) (fun _ _ _ h => h) (Or.inl ⟨rfl, ?yq72_7⟩) (by assumption) ?_
                case yq72_7 => intro w hSw; (try dsimp only at hSw); go_simp; (try with_reducible rfl)
                (try simp only [Act.put, List.getElem_toArray, List.getElem_cons_succ, List.getElem_cons_zero, List.setIfInBounds_toArray, List.set_cons_zero, List.set_cons_succ])
                refine wpAnyH_take (i := 8) (oi := _) (v := ?vq73_8) rfl (by kernel_rfl) (by kernel_rfl) (by kernel_rfl) (fun _ _ _ h => h) (Or.inl ⟨rfl, ?yq73_8⟩) (by assumption) ?_
                case yq73_8 => intro w hSw; (try dsimp only at hSw); go_simp; (try with_reducible rfl)
                (try simp only [Act.put, List.getElem_toArray, List.getElem_cons_succ, List.getElem_cons_zero, List.setIfInBounds_toArray, List.set_cons_zero, List.set_cons_succ])
                refine wpAnyH_ready (rs := [9]) (by kernel_rfl) (by simp) ?_
                refine (AllReadyH.cons (o := _) rfl (fun K hK => ?_) AllReadyH.nil)
                rw [if_pos (by rfl)]
                go_simp
                have hz := heap_alloc_new u68 (.cells #[.slice none 0 0, .int .i64 0] 35)
                have hz : FBx (u68.alloc (.cells #[.slice none 0 0, .int .i64 0] 35)) u68.heap.size (.slice none 0 0) 0 := hz
                have hgz : z3.heap.size ≤ u68.heap.size := hq.size
                have hba := (Below.refl u68.heap.size u68).alloc (Nat.le_refl _) (.cells #[.slice none 0 0, .int .i64 0] 35)
                have hq := hq.alloc hq.size (.cells #[.slice none 0 0, .int .i64 0] 35)
                refine hK.out _ _ ?_ (fun hHeld => ?_)
                · (try dsimp only); exact KEEP.out _ hq
                clear hK K
                (try simp only [Act.put, List.getElem_toArray, List.getElem_cons_succ, List.getElem_cons_zero, List.setIfInBounds_toArray, List.set_cons_zero, List.set_cons_succ])
                obtain ⟨G, hG⟩ : ∃ G, G = u68.heap.size := ⟨_, rfl⟩
                have HGE := Lib.hid hG
                rw [← hG] at hz hgz ⊢
                clear hG
                obtain ⟨u69, hu69⟩ : ∃ u, u = u68.alloc (.cells #[.slice none 0 0, .int .i64 0] 35) := ⟨_, rfl⟩
                rw [← hu69] at hz hq hba hHeld ⊢
                clear hu69
                refine wpAnyH_ready (rs := [10]) (by kernel_rfl) (by simp) ?_
                refine (AllReadyH.cons (o := _) rfl (fun K hK => ?_) AllReadyH.nil)
                refine step_store_f rfl (.tmp 18) (.tmp 98) rfl G FB fm fd (.slice none 0 0) _ 0 rfl rfl hz ?_
                intro u70 hz3 hg3
                have hq3 := hq.grown hg3 hq.size (fun k hk => by injection hk with hk; rw [← hk]; exact hgz)
                have hs3 := (⟨hs.1.step (hba.grown hg3 hba.size (fun k hk => by injection hk with hk; rw [← hk, HGE.out]; exact Nat.le_refl _)), fun a ha => Nat.le_trans hbase (hs.2 a ha)⟩ : Je.SlN z3.heap.size u70 FB fm fd _)
                refine hK.out _ _ ?_ (fun hHeld => ?_)
                · (try dsimp only); exact KEEP.out _ hq3
                clear hK K
                (try simp only [Act.put, List.getElem_toArray, List.getElem_cons_succ, List.getElem_cons_zero])
                refine wpAnyH_take (i := 11) (oi := _) (v := ?vq74_11) rfl (by kernel_rfl) (by kernel_rfl) (by kernel_rfl) (fun _ _ _ h => h) (Or.inl ⟨rfl, ?yq74_11⟩) (by assumption) ?_
                case yq74_11 => intro w hSw; (try dsimp only at hSw); go_simp; (try with_reducible rfl)
                (try simp only [Act.put, List.getElem_toArray, List.getElem_cons_succ, List.getElem_cons_zero, List.setIfInBounds_toArray, List.set_cons_zero, List.set_cons_succ])
                refine wpAnyH_done (by kernel_rfl) ?_ _
                clear hHeld
                go_wp2_with fail
                go_meet
                exact ⟨G, rfl, rfl, FB, fm, fd, hz3, hs3.1, hq3⟩
              · skip
                rw [if_pos (by rfl)]
                go_simp
                have hz := heap_alloc_new u67 (.cells #[.slice none 0 0, .int .i64 0] 35)
                have hz : FBx (u67.alloc (.cells #[.slice none 0 0, .int .i64 0] 35)) u67.heap.size (.slice none 0 0) 0 := hz
                have hgz : z3.heap.size ≤ u67.heap.size := hq.size
                have hown := World.ownsRow.alloc hown (.cells #[.slice none 0 0, .int .i64 0] 35)
                have hq := hq.alloc hq.size (.cells #[.slice none 0 0, .int .i64 0] 35)
                refine hK.out _ _ ?_ (fun hHeld => ?_)
                · (try dsimp only); exact KEEP.out _ hq
                clear hK K
                (try simp only [Act.put, List.getElem_toArray, List.getElem_cons_succ, List.getElem_cons_zero, List.setIfInBounds_toArray, List.set_cons_zero, List.set_cons_succ])
                obtain ⟨G, hG⟩ : ∃ G, G = u67.heap.size := ⟨_, rfl⟩
                have HGE := Lib.hid hG
                rw [← hG] at hz hgz ⊢
                clear hG
                obtain ⟨u71, hu71⟩ : ∃ u, u = u67.alloc (.cells #[.slice none 0 0, .int .i64 0] 35) := ⟨_, rfl⟩
                rw [← hu71] at hz hq hown hHeld ⊢
                clear hu71
                replace hown : TOwn z3.heap.size u71 vb67 _ := hown
                refine wpAnyH_ready (rs := [5]) (by kernel_rfl) (by simp) ?_
                refine (AllReadyH.cons (o := _) rfl (fun K hK => ?_) AllReadyH.nil)
                go_simp
                obtain ⟨TA, tn, tc, hve, hts⟩ := hown.sl
                subst hve
                go_at_call 26
                have hbase : z3.heap.size ≤ u71.heap.size := hq.size
                have hlo := hz.lt
                refine (HR4.out _ hq TA tn tc hts).mono ?_
                rintro e u72 ⟨FB, fm, fd, rfl, hs, hu72⟩
                have hz := hz.below hu72
                have hq := hq.trans (hu72.mono hq.size)
                refine hK.out _ _ ?_ (fun hHeld => ?_)
                · (try dsimp only); exact KEEP.out _ hq
                clear hK K
                (try simp only [Act.put, List.getElem_toArray, List.getElem_cons_succ, List.getElem_cons_zero, List.setIfInBounds_toArray, List.set_cons_zero, List.set_cons_succ])
                refine wpAnyH_take (i := 6) (oi := _) (v := ?vq75_6) rfl (by kernel_rfl) (by kernel_rfl) (by kernel_rfl) (fun _ _ _ h => h) (Or.inl ⟨rfl, ?yq75_6⟩) (by assumption) ?_
                case yq75_6 => intro w hSw; (try dsimp only at hSw); go_simp; (try with_reducible rfl)
                (try simp only [Act.put, List.getElem_toArray, List.getElem_cons_succ, List.getElem_cons_zero, List.setIfInBounds_toArray, List.set_cons_zero, List.set_cons_succ])
                refine wpAnyH_take (i := 7) (oi := _) (v := ?vq76_7) rfl (by kernel_rfl) (by kernel_rfl) (by kernel_rfl) (fun _ _ _ h => h) (Or.inl ⟨rfl, ?yq76_7⟩) (by assumption) ?_
                case yq76_7 => intro w hSw; (try dsimp only at hSw); go_simp; (try with_reducible rfl)
                (try simp only [Act.put, List.getElem_toArray, List.getElem_cons_succ, List.getElem_cons_zero, List.setIfInBounds_toArray, List.set_cons_zero, List.set_cons_succ])
                refine wpAnyH_take (i := 8) (oi := _) (v := ?vq77_8) rfl (by kernel_rfl) (by kernel_rfl) (by kernel_rfl) (fun _ _ _ h => h) (Or.inl ⟨rfl, ?yq77_8⟩) (by assumption) ?_
                case yq77_8 => intro w hSw; (try dsimp only at hSw); go_simp; (try with_reducible rfl)
                (try simp only [Act.put, List.getElem_toArray, List.getElem_cons_succ, List.getElem_cons_zero, List.setIfInBounds_toArray, List.set_cons_zero, List.set_cons_succ])
                refine wpAnyH_ready (rs := [10]) (by kernel_rfl) (by simp) ?_
                refine (AllReadyH.cons (o := _) rfl (fun K hK => ?_) AllReadyH.nil)
                refine step_store_f rfl (.tmp 18) (.tmp 98) rfl G FB fm fd (.slice none 0 0) _ 0 rfl rfl hz ?_
                intro u73 hz3 hg3
                have hq3 := hq.grown hg3 hq.size (fun k hk => by injection hk with hk; rw [← hk]; exact hgz)
                have hs3 := (hs.far hg3 (by omega)).base_ hbase
                refine hK.out _ _ ?_ (fun hHeld => ?_)
                · (try dsimp only); exact KEEP.out _ hq3
                clear hK K
                (try simp only [Act.put, List.getElem_toArray, List.getElem_cons_succ, List.getElem_cons_zero])
                refine wpAnyH_take (i := 11) (oi := _) (v := ?vq78_11) rfl (by kernel_rfl) (by kernel_rfl) (by kernel_rfl) (fun _ _ _ h => h) (Or.inl ⟨rfl, ?yq78_11⟩) (by assumption) ?_
                case yq78_11 => intro w hSw; (try dsimp only at hSw); go_simp; (try with_reducible rfl)
                (try simp only [Act.put, List.getElem_toArray, List.getElem_cons_succ, List.getElem_cons_zero, List.setIfInBounds_toArray, List.set_cons_zero, List.set_cons_succ])
                refine wpAnyH_done (by kernel_rfl) ?_ _
                clear hHeld
                go_wp2_with fail
                go_meet
                exact ⟨G, rfl, rfl, FB, fm, fd, hz3, hs3.1, hq3⟩
            · skip
              rw [if_pos (by rfl)]
              go_simp
              have hz := heap_alloc_new u66 (.cells #[.slice none 0 0, .int .i64 0] 35)
              have hz : FBx (u66.alloc (.cells #[.slice none 0 0, .int .i64 0] 35)) u66.heap.size (.slice none 0 0) 0 := hz
              have hgz : z3.heap.size ≤ u66.heap.size := hq.size
              have hown := World.ownsRow.alloc hown (.cells #[.slice none 0 0, .int .i64 0] 35)
              have hq := hq.alloc hq.size (.cells #[.slice none 0 0, .int .i64 0] 35)
              refine hK.out _ _ ?_ (fun hHeld => ?_)
              · (try dsimp only); exact KEEP.out _ hq
              clear hK K
              (try simp only [Act.put, List.getElem_toArray, List.getElem_cons_succ, List.getElem_cons_zero, List.setIfInBounds_toArray, List.set_cons_zero, List.set_cons_succ])
              obtain ⟨G, hG⟩ : ∃ G, G = u66.heap.size := ⟨_, rfl⟩
              have HGE := Lib.hid hG
              rw [← hG] at hz hgz ⊢
              clear hG
              obtain ⟨u74, hu74⟩ : ∃ u, u = u66.alloc (.cells #[.slice none 0 0, .int .i64 0] 35) := ⟨_, rfl⟩
              rw [← hu74] at hz hq hown hHeld ⊢
              clear hu74
              replace hown : TOwn z3.heap.size u74 vb66 _ := hown
              refine wpAnyH_ready (rs := [4]) (by kernel_rfl) (by simp) ?_
              refine (AllReadyH.cons (o := _) rfl (fun K hK => ?_) AllReadyH.nil)
              have hsrc := htf.step hq
              refine step_append_t rfl (.tmp 94) (.tmp 95) rfl z3.heap.size vb66 (ml) rfl hown _ (some ⟨fa, 0, none⟩) 5 5 rfl hsrc (by have := HLN.out; have h3 : gap3.length = 3 := rfl; have h4 : five.length = 5 := rfl; (try simp only [List.length_cons]); omega) hq.size ?_
              intro vb75 u75 hownb hgb
              have hq : Below z3.heap.size z3 u75 := hq.grown hgb hq.size (fun k hk => (World.ownsRow.lt hown k hk).1)
              have hz := Jk.FBx.far_t hz hown hgb
              have hown : TOwn z3.heap.size u75 vb75 (ml ++ five) := hownb
              clear hownb hgb hsrc
              refine hK.out _ _ ?_ (fun hHeld => ?_)
              · (try dsimp only); exact KEEP.out _ hq
              clear hK K
              (try simp only [Act.put, List.getElem_toArray, List.getElem_cons_succ, List.getElem_cons_zero, List.setIfInBounds_toArray, List.set_cons_zero, List.set_cons_succ])
              refine wpAnyH_ready (rs := [5]) (by kernel_rfl) (by simp) ?_
              refine (AllReadyH.cons (o := _) rfl (fun K hK => ?_) AllReadyH.nil)
              go_simp
              obtain ⟨TA, tn, tc, hve, hts⟩ := hown.sl
              subst hve
              go_at_call 26
              have hbase : z3.heap.size ≤ u75.heap.size := hq.size
              have hlo := hz.lt
              refine (HR4.out _ hq TA tn tc hts).mono ?_
              rintro e u76 ⟨FB, fm, fd, rfl, hs, hu76⟩
              have hz := hz.below hu76
              have hq := hq.trans (hu76.mono hq.size)
              refine hK.out _ _ ?_ (fun hHeld => ?_)
              · (try dsimp only); exact KEEP.out _ hq
              clear hK K
              (try simp only [Act.put, List.getElem_toArray, List.getElem_cons_succ, List.getElem_cons_zero, List.setIfInBounds_toArray, List.set_cons_zero, List.set_cons_succ])
              refine wpAnyH_take (i := 6) (oi := _) (v := ?vq79_6) rfl (by kernel_rfl) (by kernel_rfl) (by kernel_rfl) (fun _ _ _ h => h) (Or.inl ⟨rfl, ?yq79_6⟩) (by assumption) ?_
              case yq79_6 => intro w hSw; (try dsimp only at hSw); go_simp; (try with_reducible rfl)
              (try simp only [Act.put, List.getElem_toArray, List.getElem_cons_succ, List.getElem_cons_zero, List.setIfInBounds_toArray, List.set_cons_zero, List.set_cons_succ])
              refine wpAnyH_take (i := 7) (oi := _) (v := ?vq80_7) rfl (by kernel_rfl) (by kernel_rfl) (by kernel_rfl) (fun _ _ _ h => h) (Or.inl ⟨rfl, ?yq80_7⟩) (by assumption) ?_
              case yq80_7 => intro w hSw; (try dsimp only at hSw); go_simp; (try with_reducible rfl)
              (try simp only [Act.put, List.getElem_toArray, List.getElem_cons_succ, List.getElem_cons_zero, List.setIfInBounds_toArray, List.set_cons_zero, List.set_cons_succ])
              refine wpAnyH_take (i := 8) (oi := _) (v := ?vq81_8) rfl (by kernel_rfl) (by kernel_rfl) (by kernel_rfl) (fun _ _ _ h => h) (Or.inl ⟨rfl, ?yq81_8⟩) (by assumption) ?_
              case yq81_8 => intro w hSw; (try dsimp only at hSw); go_simp; (try with_reducible rfl)
              (try simp only [Act.put, List.getElem_toArray, List.getElem_cons_succ, List.getElem_cons_zero, List.setIfInBounds_toArray, List.set_cons_zero, List.set_cons_succ])
              refine wpAnyH_ready (rs := [10]) (by kernel_rfl) (by simp) ?_
              refine (AllReadyH.cons (o := _) rfl (fun K hK => ?_) AllReadyH.nil)
              refine step_store_f rfl (.tmp 18) (.tmp 98) rfl G FB fm fd (.slice none 0 0) _ 0 rfl rfl hz ?_
              intro u77 hz3 hg3
              have hq3 := hq.grown hg3 hq.size (fun k hk => by injection hk with hk; rw [← hk]; exact hgz)
              have hs3 := (hs.far hg3 (by omega)).base_ hbase
              refine hK.out _ _ ?_ (fun hHeld => ?_)
              · (try dsimp only); exact KEEP.out _ hq3
              clear hK K
              (try simp only [Act.put, List.getElem_toArray, List.getElem_cons_succ, List.getElem_cons_zero])
              refine wpAnyH_take (i := 11) (oi := _) (v := ?vq82_11) rfl (by kernel_rfl) (by kernel_rfl) (by kernel_rfl) (fun _ _ _ h => h) (Or.inl ⟨rfl, ?yq82_11⟩) (by assumption) ?_
              case yq82_11 => intro w hSw; (try dsimp only at hSw); go_simp; (try with_reducible rfl)
              (try simp only [Act.put, List.getElem_toArray, List.getElem_cons_succ, List.getElem_cons_zero, List.setIfInBounds_toArray, List.set_cons_zero, List.set_cons_succ])
              refine wpAnyH_done (by kernel_rfl) ?_ _
              clear hHeld
              go_wp2_with fail
              go_meet
              exact ⟨G, rfl, rfl, FB, fm, fd, hz3, hs3.1, hq3⟩
          · skip
            rw [if_pos (by rfl)]
            go_simp
            have hz := heap_alloc_new v (.cells #[.slice none 0 0, .int .i64 0] 35)
            have hz : FBx (v.alloc (.cells #[.slice none 0 0, .int .i64 0] 35)) v.heap.size (.slice none 0 0) 0 := hz
            have hgz : z3.heap.size ≤ v.heap.size := hq.size
            have hq := hq.alloc hq.size (.cells #[.slice none 0 0, .int .i64 0] 35)
            refine hK.out _ _ ?_ (fun hHeld => ?_)
            · (try dsimp only); exact KEEP.out _ hq
            clear hK K
            (try simp only [Act.put, List.getElem_toArray, List.getElem_cons_succ, List.getElem_cons_zero, List.setIfInBounds_toArray, List.set_cons_zero, List.set_cons_succ])
            obtain ⟨G, hG⟩ : ∃ G, G = v.heap.size := ⟨_, rfl⟩
            have HGE := Lib.hid hG
            rw [← hG] at hz hgz ⊢
            clear hG
            obtain ⟨u78, hu78⟩ : ∃ u, u = v.alloc (.cells #[.slice none 0 0, .int .i64 0] 35) := ⟨_, rfl⟩
            rw [← hu78] at hz hq hHeld ⊢
            clear hu78
            refine wpAnyH_ready (rs := [2]) (by kernel_rfl) (by simp) ?_
            refine (AllReadyH.cons (o := _) rfl (fun K hK => ?_) AllReadyH.nil)
            have hsrc := htm.step hq
            refine step_append_t rfl (.const (.slice none 0 0)) (.tmp 93) rfl z3.heap.size (.slice none 0 0) ([]) rfl (show TOwn z3.heap.size u78 (.slice none 0 0) [] from TOwn.nil) _ MA mn mc rfl hsrc (by have := HLN.out; have h3 : gap3.length = 3 := rfl; have h4 : five.length = 5 := rfl; (try simp only [List.length_nil]); omega) hq.size ?_
            intro vb79 u79 hownb hgb
            have hq : Below z3.heap.size z3 u79 := hq.grown hgb hq.size (fun k hk => by cases hk)
            have hz := hz.kept hgb (fun e => by cases e)
            have hown : TOwn z3.heap.size u79 vb79 (ml) := hownb
            clear hownb hgb hsrc
            refine hK.out _ _ ?_ (fun hHeld => ?_)
            · (try dsimp only); exact KEEP.out _ hq
            clear hK K
            (try simp only [Act.put, List.getElem_toArray, List.getElem_cons_succ, List.getElem_cons_zero, List.setIfInBounds_toArray, List.set_cons_zero, List.set_cons_succ])
            refine wpAnyH_ready (rs := [4]) (by kernel_rfl) (by simp) ?_
            refine (AllReadyH.cons (o := _) rfl (fun K hK => ?_) AllReadyH.nil)
            have hsrc := htf.step hq
            refine step_append_t rfl (.tmp 94) (.tmp 95) rfl z3.heap.size vb79 (ml) rfl hown _ (some ⟨fa, 0, none⟩) 5 5 rfl hsrc (by have := HLN.out; have h3 : gap3.length = 3 := rfl; have h4 : five.length = 5 := rfl; (try simp only [List.length_cons]); omega) hq.size ?_
            intro vb80 u80 hownb hgb
            have hq : Below z3.heap.size z3 u80 := hq.grown hgb hq.size (fun k hk => (World.ownsRow.lt hown k hk).1)
            have hz := Jk.FBx.far_t hz hown hgb
            have hown : TOwn z3.heap.size u80 vb80 (ml ++ five) := hownb
            clear hownb hgb hsrc
            refine hK.out _ _ ?_ (fun hHeld => ?_)
            · (try dsimp only); exact KEEP.out _ hq
            clear hK K
            (try simp only [Act.put, List.getElem_toArray, List.getElem_cons_succ, List.getElem_cons_zero, List.setIfInBounds_toArray, List.set_cons_zero, List.set_cons_succ])
            refine wpAnyH_ready (rs := [5]) (by kernel_rfl) (by simp) ?_
            refine (AllReadyH.cons (o := _) rfl (fun K hK => ?_) AllReadyH.nil)
            go_simp
            obtain ⟨TA, tn, tc, hve, hts⟩ := hown.sl
            subst hve
            go_at_call 26
            have hbase : z3.heap.size ≤ u80.heap.size := hq.size
            have hlo := hz.lt
            refine (HR4.out _ hq TA tn tc hts).mono ?_
            rintro e u81 ⟨FB, fm, fd, rfl, hs, hu81⟩
            have hz := hz.below hu81
            have hq := hq.trans (hu81.mono hq.size)
            refine hK.out _ _ ?_ (fun hHeld => ?_)
            · (try dsimp only); exact KEEP.out _ hq
            clear hK K
            (try simp only [Act.put, List.getElem_toArray, List.getElem_cons_succ, List.getElem_cons_zero, List.setIfInBounds_toArray, List.set_cons_zero, List.set_cons_succ])
            refine wpAnyH_take (i := 6) (oi := _) (v := ?vq83_6) rfl (by kernel_rfl) (by kernel_rfl) (by kernel_rfl) (fun _ _ _ h => h) (Or.inl ⟨rfl, ?yq83_6⟩) (by assumption) ?_
            case yq83_6 => intro w hSw; (try dsimp only at hSw); go_simp; (try with_reducible rfl)
            (try simp only [Act.put, List.getElem_toArray, List.getElem_cons_succ, List.getElem_cons_zero, List.setIfInBounds_toArray, List.set_cons_zero, List.set_cons_succ])
            refine wpAnyH_take (i := 7) (oi := _) (v := ?vq84_7) rfl (by kernel_rfl) (by kernel_rfl) (by kernel_rfl) (fun _ _ _ h => h) (Or.inl ⟨rfl, ?yq84_7⟩) (by assumption) ?_
            case yq84_7 => intro w hSw; (try dsimp only at hSw); go_simp; (try with_reducible rfl)
            (try simp only [Act.put, List.getElem_toArray, List.getElem_cons_succ, List.getElem_cons_zero, List.setIfInBounds_toArray, List.set_cons_zero, List.set_cons_succ])
            refine wpAnyH_take (i := 8) (oi := _) (v := ?vq85_8) rfl (by kernel_rfl) (by kernel_rfl) (by kernel_rfl) (fun _ _ _ h => h) (Or.inl ⟨rfl, ?yq85_8⟩) (by assumption) ?_
            case yq85_8 => intro w hSw; (try dsimp only at hSw); go_simp; (try with_reducible rfl)
            (try simp only [Act.put, List.getElem_toArray, List.getElem_cons_succ, List.getElem_cons_zero, List.setIfInBounds_toArray, List.set_cons_zero, List.set_cons_succ])
            refine wpAnyH_ready (rs := [10]) (by kernel_rfl) (by simp) ?_
            refine (AllReadyH.cons (o := _) rfl (fun K hK => ?_) AllReadyH.nil)
            refine step_store_f rfl (.tmp 18) (.tmp 98) rfl G FB fm fd (.slice none 0 0) _ 0 rfl rfl hz ?_
            intro u82 hz3 hg3
            have hq3 := hq.grown hg3 hq.size (fun k hk => by injection hk with hk; rw [← hk]; exact hgz)
            have hs3 := (hs.far hg3 (by omega)).base_ hbase
            refine hK.out _ _ ?_ (fun hHeld => ?_)
            · (try dsimp only); exact KEEP.out _ hq3
            clear hK K
            (try simp only [Act.put, List.getElem_toArray, List.getElem_cons_succ, List.getElem_cons_zero])
            refine wpAnyH_take (i := 11) (oi := _) (v := ?vq86_11) rfl (by kernel_rfl) (by kernel_rfl) (by kernel_rfl) (fun _ _ _ h => h) (Or.inl ⟨rfl, ?yq86_11⟩) (by assumption) ?_
            case yq86_11 => intro w hSw; (try dsimp only at hSw); go_simp; (try with_reducible rfl)
            (try simp only [Act.put, List.getElem_toArray, List.getElem_cons_succ, List.getElem_cons_zero, List.setIfInBounds_toArray, List.set_cons_zero, List.set_cons_succ])
            refine wpAnyH_done (by kernel_rfl) ?_ _
            clear hHeld
            go_wp2_with fail
            go_meet
            exact ⟨G, rfl, rfl, FB, fm, fd, hz3, hs3.1, hq3⟩
        case rest =>
          obtain ⟨G4, rfl, rfl, F4, fn4, fc4, hf4, hs4, hq4⟩ := hcut
          clear hq hv KEEP v
          obtain ⟨z4, hzz⟩ : ∃ z, z = wc := ⟨_, rfl⟩
          rw [← hzz] at hf4 hs4 hq4 ⊢
          clear hzz wc
          have hx := hx.below hq4
          have hps := hps.step hq4
          have htl := htl.step hq4
          have htm := htm.step hq4
          have htr := htr.step hq4
          have htg := htg.step hq4
          have htf := htf.step hq4
          have hf1 := hf1.below hq4
          have hs1 := hs1.step hq4
          have hf2 := hf2.below hq4
          have hs2 := hs2.step hq4
          have hf3 := hf3.below hq4
          have hs3 := hs3.step hq4
          have hbb := hbb.trans (hq4.mono hbb.size)
          clear hq4 HR4
          go_wp2_with fail
          obtain ⟨v, hv⟩ : ∃ u, u = z4.drew := ⟨_, rfl⟩
          have hq : Below z4.heap.size z4 v := by rw [hv]; exact below_drew (Below.refl _ _)
          have KEEP : Hid (∀ U, Below z4.heap.size z4 U → Bx U w2.heap.size s (.slice PA pn pc)) := Lib.hid fun U hU => hx.below hU
          have HR5 : Hid (∀ u, Below z4.heap.size z4 u → ∀ TA tn tc, TSl u TA tn tc (ll ++ gap3) → Calls Try.prog 26 #[.agg (cells s (.slice PA pn pc)), .slice TA tn tc] u fun e w' => ∃ FA fn fc, e = .returned (.tuple #[.agg #[.slice FA fn fc, .int .i64 (3)], .bool true]) ∧ Je.SlN u.heap.size w' FA fn fc [] ∧ Below u.heap.size u w') := Lib.hid fun u hu TA tn tc ht => by
            have := HRN.out u TA tn tc _ (hps.step hu) ht (by have h1 := ht.len; have h2 := HLN.out; simp only [List.length_append] at h1; have h3 : gap3.length = 3 := rfl; have h4 : five.length = 5 := rfl; omega)
            rw [gap_end K ll] at this
            exact this
          go_cut [20, 21] from 100 to 108 (fun g e wx => ∃ G : Nat, g = .pointer (some ⟨G, 0, none⟩) ∧ e = .bool true ∧ ∃ FB fm fd, FBx wx G (.slice FB fm fd) 3 ∧ Sl wx FB fm fd [] ∧ Below z4.heap.size z4 wx)
          case first =>
            refine wp_region_held_drew (S := (fun U => Bx U w2.heap.size s (.slice PA pn pc))) (by kernel_rfl) ?_ (fun hHeld => ?_)
            · (try dsimp only); rw [← hv]; exact KEEP.out _ hq
            generalize z4.drew = vg at *
            subst hv
            refine wpAnyH_take (i := 0) (oi := _) (v := ?vq87_0) rfl (by kernel_rfl) (by kernel_rfl) (by kernel_rfl) (fun _ _ _ h => h) (Or.inl ⟨rfl, ?yq87_0⟩) (by assumption) ?_
            case yq87_0 => intro w hSw; (try dsimp only at hSw); ((refine exec_load_bx2 (.tmp 9) ?_ ?_ hSw) <;> rfl)
            (try simp only [Act.put, List.getElem_toArray, List.getElem_cons_zero, List.setIfInBounds_toArray, List.set_cons_zero, List.set_cons_succ])
            refine wpAnyH_take (i := 1) (oi := _) (v := ?vq88_1) rfl (by kernel_rfl) (by kernel_rfl) (by kernel_rfl) (fun _ _ _ h => h) (Or.inl ⟨rfl, ?yq88_1⟩) (by assumption) ?_
            case yq88_1 => intro w hSw; (try dsimp only at hSw); go_simp; (try with_reducible rfl)
            (try simp only [Act.put, List.getElem_toArray, List.getElem_cons_succ, List.getElem_cons_zero, List.setIfInBounds_toArray, List.set_cons_zero, List.set_cons_succ])
            refine wpAnyH_take (i := 3) (oi := _) (v := ?vq89_3) rfl (by kernel_rfl) (by kernel_rfl) (by kernel_rfl) (fun _ _ _ h => h) (Or.inl ⟨rfl, ?yq89_3⟩) (by assumption) ?_
            case yq89_3 => intro w hSw; (try dsimp only at hSw); go_simp; (try with_reducible rfl)
            (try simp only [Act.put, List.getElem_toArray, List.getElem_cons_succ, List.getElem_cons_zero, List.setIfInBounds_toArray, List.set_cons_zero, List.set_cons_succ])
            refine wpAnyH_ready (rs := [2, 9]) (by kernel_rfl) (by simp) ?_
            refine (AllReadyH.cons (o := _) rfl (fun K hK => ?_) (AllReadyH.cons (o := _) rfl (fun K hK => ?_) AllReadyH.nil))
            · skip
              have hsrc := htl.step hq
              refine step_append_t rfl (.const (.slice none 0 0)) (.tmp 102) rfl z4.heap.size (.slice none 0 0) ([]) rfl (show TOwn z4.heap.size v (.slice none 0 0) [] from TOwn.nil) _ LA ln lc rfl hsrc (by have := HLN.out; have h3 : gap3.length = 3 := rfl; have h4 : five.length = 5 := rfl; (try simp only [List.length_nil]); omega) hq.size ?_
              intro vb83 u83 hownb hgb
              have hq : Below z4.heap.size z4 u83 := hq.grown hgb hq.size (fun k hk => by cases hk)
              have hown : TOwn z4.heap.size u83 vb83 (ll) := hownb
              clear hownb hgb hsrc
              refine hK.out _ _ ?_ (fun hHeld => ?_)
              · (try dsimp only); exact KEEP.out _ hq
              clear hK K
              (try simp only [Act.put, List.getElem_toArray, List.getElem_cons_succ, List.getElem_cons_zero, List.setIfInBounds_toArray, List.set_cons_zero, List.set_cons_succ])
              refine wpAnyH_ready (rs := [4, 9]) (by kernel_rfl) (by simp) ?_
              refine (AllReadyH.cons (o := _) rfl (fun K hK => ?_) (AllReadyH.cons (o := _) rfl (fun K hK => ?_) AllReadyH.nil))
              · skip
                have hsrc := htg.step hq
                refine step_append_t rfl (.tmp 103) (.tmp 104) rfl z4.heap.size vb83 (ll) rfl hown _ (some ⟨ga, 0, none⟩) 3 3 rfl hsrc (by have := HLN.out; have h3 : gap3.length = 3 := rfl; have h4 : five.length = 5 := rfl; (try simp only [List.length_cons]); omega) hq.size ?_
                intro vb84 u84 hownb hgb
                have hq : Below z4.heap.size z4 u84 := hq.grown hgb hq.size (fun k hk => (World.ownsRow.lt hown k hk).1)
                have hown : TOwn z4.heap.size u84 vb84 (ll ++ gap3) := hownb
                clear hownb hgb hsrc
                refine hK.out _ _ ?_ (fun hHeld => ?_)
                · (try dsimp only); exact KEEP.out _ hq
                clear hK K
                (try simp only [Act.put, List.getElem_toArray, List.getElem_cons_succ, List.getElem_cons_zero, List.setIfInBounds_toArray, List.set_cons_zero, List.set_cons_succ])
                refine wpAnyH_ready (rs := [5, 9]) (by kernel_rfl) (by simp) ?_
                refine (AllReadyH.cons (o := _) rfl (fun K hK => ?_) (AllReadyH.cons (o := _) rfl (fun K hK => ?_) AllReadyH.nil))
                · skip
                  go_simp
                  obtain ⟨TA, tn, tc, hve, hts⟩ := hown.sl
                  subst hve
                  go_at_call 26
                  have hbase : z4.heap.size ≤ u84.heap.size := hq.size
                  refine (HR5.out _ hq TA tn tc hts).mono ?_
                  rintro e u85 ⟨FB, fm, fd, rfl, hs, hu85⟩
                  have hq := hq.trans (hu85.mono hq.size)
                  refine hK.out _ _ ?_ (fun hHeld => ?_)
                  · (try dsimp only); exact KEEP.out _ hq
                  clear hK K
                  (try simp only [Act.put, List.getElem_toArray, List.getElem_cons_succ, List.getElem_cons_zero, List.setIfInBounds_toArray, List.set_cons_zero, List.set_cons_succ])
                  refine wpAnyH_take (i := 6) (oi := _) (v := ?vq90_6) rfl (by kernel_rfl) (by kernel_rfl) (by kernel_rfl) (fun _ _ _ h => h) (Or.inl ⟨rfl, ?yq90_6⟩) (by assumption) ?_
                  case yq90_6 => intro w hSw; (try dsimp only at hSw); go_simp; (try with_reducible rfl)
                  (try simp only [Act.put, List.getElem_toArray, List.getElem_cons_succ, List.getElem_cons_zero, List.setIfInBounds_toArray, List.set_cons_zero, List.set_cons_succ])
                  refine wpAnyH_take (i := 7) (oi := _) (v := ?vq91_7) rfl (by kernel_rfl) (by kernel_rfl) (by kernel_rfl) (fun _ _ _ h => h) (Or.inl ⟨rfl, ?yq91_7⟩) (by assumption) ?_
                  case yq91_7 => intro w hSw; (try dsimp only at hSw); go_simp; (try with_reducible rfl)
                  (try simp only [Act.put, List.getElem_toArray, List.getElem_cons_succ, List.getElem_cons_zero, List.setIfInBounds_toArray, List.set_cons_zero, List.set_cons_succ])
                  refine wpAnyH_take (i := 8) (oi := _) (v := ?vq92_8) rfl (by kernel_rfl) (by kernel_rfl) (by kernel_rfl) (fun _ _ _ h => h) (Or.inl ⟨rfl, ?yq92_8⟩) (by assumption) ?_
                  case yq92_8 => intro w hSw; (try dsimp only at hSw); go_simp; (try with_reducible rfl)
                  (try simp only [Act.put, List.getElem_toArray, List.getElem_cons_succ, List.getElem_cons_zero, List.setIfInBounds_toArray, List.set_cons_zero, List.set_cons_succ])
                  refine wpAnyH_ready (rs := [9]) (by kernel_rfl) (by simp) ?_
                  refine (AllReadyH.cons (o := _) rfl (fun K hK => ?_) AllReadyH.nil)
                  rw [if_pos (by rfl)]
                  go_simp
                  have hz := heap_alloc_new u85 (.cells #[.slice none 0 0, .int .i64 0] 35)
                  have hz : FBx (u85.alloc (.cells #[.slice none 0 0, .int .i64 0] 35)) u85.heap.size (.slice none 0 0) 0 := hz
                  have hgz : z4.heap.size ≤ u85.heap.size := hq.size
                  have hba := (Below.refl u85.heap.size u85).alloc (Nat.le_refl _) (.cells #[.slice none 0 0, .int .i64 0] 35)
                  have hq := hq.alloc hq.size (.cells #[.slice none 0 0, .int .i64 0] 35)
                  refine hK.out _ _ ?_ (fun hHeld => ?_)
                  · (try dsimp only); exact KEEP.out _ hq
                  clear hK K
                  (try simp only [Act.put, List.getElem_toArray, List.getElem_cons_succ, List.getElem_cons_zero, List.setIfInBounds_toArray, List.set_cons_zero, List.set_cons_succ])
                  obtain ⟨G, hG⟩ : ∃ G, G = u85.heap.size := ⟨_, rfl⟩
                  have HGE := Lib.hid hG
                  rw [← hG] at hz hgz ⊢
                  clear hG
                  obtain ⟨u86, hu86⟩ : ∃ u, u = u85.alloc (.cells #[.slice none 0 0, .int .i64 0] 35) := ⟨_, rfl⟩
                  rw [← hu86] at hz hq hba hHeld ⊢
                  clear hu86
                  refine wpAnyH_ready (rs := [10]) (by kernel_rfl) (by simp) ?_
                  refine (AllReadyH.cons (o := _) rfl (fun K hK => ?_) AllReadyH.nil)
                  refine step_store_f rfl (.tmp 20) (.tmp 107) rfl G FB fm fd (.slice none 0 0) _ 0 rfl rfl hz ?_
                  intro u87 hz3 hg3
                  have hq3 := hq.grown hg3 hq.size (fun k hk => by injection hk with hk; rw [← hk]; exact hgz)
                  have hs3 := (⟨hs.1.step (hba.grown hg3 hba.size (fun k hk => by injection hk with hk; rw [← hk, HGE.out]; exact Nat.le_refl _)), fun a ha => Nat.le_trans hbase (hs.2 a ha)⟩ : Je.SlN z4.heap.size u87 FB fm fd _)
                  refine hK.out _ _ ?_ (fun hHeld => ?_)
                  · (try dsimp only); exact KEEP.out _ hq3
                  clear hK K
                  (try simp only [Act.put, List.getElem_toArray, List.getElem_cons_succ, List.getElem_cons_zero])
                  refine wpAnyH_take (i := 11) (oi := _) (v := ?vq93_11) rfl (by kernel_rfl) (by kernel_rfl) (by kernel_rfl) (fun _ _ _ h => h) (Or.inl ⟨rfl, ?yq93_11⟩) (by assumption) ?_
                  case yq93_11 => intro w hSw; (try dsimp only at hSw); go_simp; (try with_reducible rfl)
                  (try simp only [Act.put, List.getElem_toArray, List.getElem_cons_succ, List.getElem_cons_zero, List.setIfInBounds_toArray, List.set_cons_zero, List.set_cons_succ])
                  refine wpAnyH_done (by kernel_rfl) ?_ _
                  clear hHeld
                  go_wp2_with fail
                  go_meet
                  exact ⟨G, rfl, rfl, FB, fm, fd, hz3, hs3.1, hq3⟩
                · skip
                  rw [if_pos (by rfl)]
                  go_simp
                  have hz := heap_alloc_new u84 (.cells #[.slice none 0 0, .int .i64 0] 35)
                  have hz : FBx (u84.alloc (.cells #[.slice none 0 0, .int .i64 0] 35)) u84.heap.size (.slice none 0 0) 0 := hz
                  have hgz : z4.heap.size ≤ u84.heap.size := hq.size
                  have hown := World.ownsRow.alloc hown (.cells #[.slice none 0 0, .int .i64 0] 35)
                  have hq := hq.alloc hq.size (.cells #[.slice none 0 0, .int .i64 0] 35)
                  refine hK.out _ _ ?_ (fun hHeld => ?_)
                  · (try dsimp only); exact KEEP.out _ hq
                  clear hK K
                  (try simp only [Act.put, List.getElem_toArray, List.getElem_cons_succ, List.getElem_cons_zero, List.setIfInBounds_toArray, List.set_cons_zero, List.set_cons_succ])
                  obtain ⟨G, hG⟩ : ∃ G, G = u84.heap.size := ⟨_, rfl⟩
                  have HGE := Lib.hid hG
                  rw [← hG] at hz hgz ⊢
                  clear hG
                  obtain ⟨u88, hu88⟩ : ∃ u, u = u84.alloc (.cells #[.slice none 0 0, .int .i64 0] 35) := ⟨_, rfl⟩
                  rw [← hu88] at hz hq hown hHeld ⊢
                  clear hu88
                  replace hown : TOwn z4.heap.size u88 vb84 _ := hown
                  refine wpAnyH_ready (rs := [5]) (by kernel_rfl) (by simp) ?_
                  refine (AllReadyH.cons (o := _) rfl (fun K hK => ?_) AllReadyH.nil)
                  go_simp
                  obtain ⟨TA, tn, tc, hve, hts⟩ := hown.sl
                  subst hve
                  go_at_call 26
                  have hbase : z4.heap.size ≤ u88.heap.size := hq.size
                  have hlo := hz.lt
                  refine (HR5.out _ hq TA tn tc hts).mono ?_
                  rintro e u89 ⟨FB, fm, fd, rfl, hs, hu89⟩
                  have hz := hz.below hu89
                  have hq := hq.trans (hu89.mono hq.size)
                  refine hK.out _ _ ?_ (fun hHeld => ?_)
                  · (try dsimp only); exact KEEP.out _ hq
                  clear hK K
                  (try simp only [Act.put, List.getElem_toArray, List.getElem_cons_succ, List.getElem_cons_zero, List.setIfInBounds_toArray, List.set_cons_zero, List.set_cons_succ])
                  refine wpAnyH_take (i := 6) (oi := _) (v := ?vq94_6) rfl (by kernel_rfl) (by kernel_rfl) (by kernel_rfl) (fun _ _ _ h => h) (Or.inl ⟨rfl, ?yq94_6⟩) (by assumption) ?_
                  case yq94_6 => intro w hSw; (try dsimp only at hSw); go_simp; (try with_reducible rfl)
                  (try simp only [Act.put, List.getElem_toArray, List.getElem_cons_succ, List.getElem_cons_zero, List.setIfInBounds_toArray, List.set_cons_zero, List.set_cons_succ])
                  refine wpAnyH_take (i := 7) (oi := _) (v := ?vq95_7) rfl (by kernel_rfl) (by kernel_rfl) (by kernel_rfl) (fun _ _ _ h => h) (Or.inl ⟨rfl, ?yq95_7⟩) (by assumption) ?_
                  case yq95_7 => intro w hSw; (try dsimp only at hSw); go_simp; (try with_reducible rfl)
                  (try simp only [Act.put, List.getElem_toArray, List.getElem_cons_succ, List.getElem_cons_zero, List.setIfInBounds_toArray, List.set_cons_zero, List.set_cons_succ])
                  refine wpAnyH_take (i := 8) (oi := _) (v := ?vq96_8) rfl (by kernel_rfl) (by kernel_rfl) (by kernel_rfl) (fun _ _ _ h => h) (Or.inl ⟨rfl, ?yq96_8⟩) (by assumption) ?_
                  case yq96_8 => intro w hSw; (try dsimp only at hSw); go_simp; (try with_reducible rfl)
                  (try simp only [Act.put, List.getElem_toArray, List.getElem_cons_succ, List.getElem_cons_zero, List.setIfInBounds_toArray, List.set_cons_zero, List.set_cons_succ])
                  refine wpAnyH_ready (rs := [10]) (by kernel_rfl) (by simp) ?_
                  refine (AllReadyH.cons (o := _) rfl (fun K hK => ?_) AllReadyH.nil)
                  refine step_store_f rfl (.tmp 20) (.tmp 107) rfl G FB fm fd (.slice none 0 0) _ 0 rfl rfl hz ?_
                  intro u90 hz3 hg3
                  have hq3 := hq.grown hg3 hq.size (fun k hk => by injection hk with hk; rw [← hk]; exact hgz)
                  have hs3 := (hs.far hg3 (by omega)).base_ hbase
                  refine hK.out _ _ ?_ (fun hHeld => ?_)
                  · (try dsimp only); exact KEEP.out _ hq3
                  clear hK K
                  (try simp only [Act.put, List.getElem_toArray, List.getElem_cons_succ, List.getElem_cons_zero])
                  refine wpAnyH_take (i := 11) (oi := _) (v := ?vq97_11) rfl (by kernel_rfl) (by kernel_rfl) (by kernel_rfl) (fun _ _ _ h => h) (Or.inl ⟨rfl, ?yq97_11⟩) (by assumption) ?_
                  case yq97_11 => intro w hSw; (try dsimp only at hSw); go_simp; (try with_reducible rfl)
                  (try simp only [Act.put, List.getElem_toArray, List.getElem_cons_succ, List.getElem_cons_zero, List.setIfInBounds_toArray, List.set_cons_zero, List.set_cons_succ])
                  refine wpAnyH_done (by kernel_rfl) ?_ _
                  clear hHeld
                  go_wp2_with fail
                  go_meet
                  exact ⟨G, rfl, rfl, FB, fm, fd, hz3, hs3.1, hq3⟩
              · skip
                rw [if_pos (by rfl)]
                go_simp
                have hz := heap_alloc_new u83 (.cells #[.slice none 0 0, .int .i64 0] 35)
                have hz : FBx (u83.alloc (.cells #[.slice none 0 0, .int .i64 0] 35)) u83.heap.size (.slice none 0 0) 0 := hz
                have hgz : z4.heap.size ≤ u83.heap.size := hq.size
                have hown := World.ownsRow.alloc hown (.cells #[.slice none 0 0, .int .i64 0] 35)
                have hq := hq.alloc hq.size (.cells #[.slice none 0 0, .int .i64 0] 35)
                refine hK.out _ _ ?_ (fun hHeld => ?_)
                · (try dsimp only); exact KEEP.out _ hq
                clear hK K
                (try simp only [Act.put, List.getElem_toArray, List.getElem_cons_succ, List.getElem_cons_zero, List.setIfInBounds_toArray, List.set_cons_zero, List.set_cons_succ])
                obtain ⟨G, hG⟩ : ∃ G, G = u83.heap.size := ⟨_, rfl⟩
                have HGE := Lib.hid hG
                rw [← hG] at hz hgz ⊢
                clear hG
                obtain ⟨u91, hu91⟩ : ∃ u, u = u83.alloc (.cells #[.slice none 0 0, .int .i64 0] 35) := ⟨_, rfl⟩
                rw [← hu91] at hz hq hown hHeld ⊢
                clear hu91
                replace hown : TOwn z4.heap.size u91 vb83 _ := hown
                refine wpAnyH_ready (rs := [4]) (by kernel_rfl) (by simp) ?_
                refine (AllReadyH.cons (o := _) rfl (fun K hK => ?_) AllReadyH.nil)
                have hsrc := htg.step hq
                refine step_append_t rfl (.tmp 103) (.tmp 104) rfl z4.heap.size vb83 (ll) rfl hown _ (some ⟨ga, 0, none⟩) 3 3 rfl hsrc (by have := HLN.out; have h3 : gap3.length = 3 := rfl; have h4 : five.length = 5 := rfl; (try simp only [List.length_cons]); omega) hq.size ?_
                intro vb92 u92 hownb hgb
                have hq : Below z4.heap.size z4 u92 := hq.grown hgb hq.size (fun k hk => (World.ownsRow.lt hown k hk).1)
                have hz := Jk.FBx.far_t hz hown hgb
                have hown : TOwn z4.heap.size u92 vb92 (ll ++ gap3) := hownb
                clear hownb hgb hsrc
                refine hK.out _ _ ?_ (fun hHeld => ?_)
                · (try dsimp only); exact KEEP.out _ hq
                clear hK K
                (try simp only [Act.put, List.getElem_toArray, List.getElem_cons_succ, List.getElem_cons_zero, List.setIfInBounds_toArray, List.set_cons_zero, List.set_cons_succ])
                refine wpAnyH_ready (rs := [5]) (by kernel_rfl) (by simp) ?_
                refine (AllReadyH.cons (o := _) rfl (fun K hK => ?_) AllReadyH.nil)
                go_simp
                obtain ⟨TA, tn, tc, hve, hts⟩ := hown.sl
                subst hve
                go_at_call 26
                have hbase : z4.heap.size ≤ u92.heap.size := hq.size
                have hlo := hz.lt
                refine (HR5.out _ hq TA tn tc hts).mono ?_
                rintro e u93 ⟨FB, fm, fd, rfl, hs, hu93⟩
                have hz := hz.below hu93
                have hq := hq.trans (hu93.mono hq.size)
                refine hK.out _ _ ?_ (fun hHeld => ?_)
                · (try dsimp only); exact KEEP.out _ hq
                clear hK K
                (try simp only [Act.put, List.getElem_toArray, List.getElem_cons_succ, List.getElem_cons_zero, List.setIfInBounds_toArray, List.set_cons_zero, List.set_cons_succ])
                refine wpAnyH_take (i := 6) (oi := _) (v := ?vq98_6) rfl (by kernel_rfl) (by kernel_rfl) (by kernel_rfl) (fun _ _ _ h => h) (Or.inl ⟨rfl, ?yq98_6⟩) (by assumption) ?_
                case yq98_6 => intro w hSw; (try dsimp only at hSw); go_simp; (try with_reducible rfl)
                (try simp only [Act.put, List.getElem_toArray, List.getElem_cons_succ, List.getElem_cons_zero, List.setIfInBounds_toArray, List.set_cons_zero, List.set_cons_succ])
                refine wpAnyH_take (i := 7) (oi := _) (v := ?vq99_7) rfl (by kernel_rfl) (by kernel_rfl) (by kernel_rfl) (fun _ _ _ h => h) (Or.inl ⟨rfl, ?yq99_7⟩) (by assumption) ?_
                case yq99_7 => intro w hSw; (try dsimp only at hSw); go_simp; (try with_reducible rfl)
                (try simp only [Act.put, List.getElem_toArray, List.getElem_cons_succ, List.getElem_cons_zero, List.setIfInBounds_toArray, List.set_cons_zero, List.set_cons_succ])
                refine wpAnyH_take (i := 8) (oi := _) (v := ?vq100_8) rfl (by kernel_rfl) (by kernel_rfl) (by kernel_rfl) (fun _ _ _ h => h) (Or.inl ⟨rfl, ?yq100_8⟩) (by assumption) ?_
                case yq100_8 => intro w hSw; (try dsimp only at hSw); go_simp; (try with_reducible rfl)
                (try simp only [Act.put, List.getElem_toArray, List.getElem_cons_succ, List.getElem_cons_zero, List.setIfInBounds_toArray, List.set_cons_zero, List.set_cons_succ])
                refine wpAnyH_ready (rs := [10]) (by kernel_rfl) (by simp) ?_
                refine (AllReadyH.cons (o := _) rfl (fun K hK => ?_) AllReadyH.nil)
                refine step_store_f rfl (.tmp 20) (.tmp 107) rfl G FB fm fd (.slice none 0 0) _ 0 rfl rfl hz ?_
                intro u94 hz3 hg3
                have hq3 := hq.grown hg3 hq.size (fun k hk => by injection hk with hk; rw [← hk]; exact hgz)
                have hs3 := (hs.far hg3 (by omega)).base_ hbase
                refine hK.out _ _ ?_ (fun hHeld => ?_)
                · (try dsimp only); exact KEEP.out _ hq3
                clear hK K
                (try simp only [Act.put, List.getElem_toArray, List.getElem_cons_succ, List.getElem_cons_zero])
                refine wpAnyH_take (i := 11) (oi := _) (v := ?vq101_11) rfl (by kernel_rfl) (by kernel_rfl) (by kernel_rfl) (fun _ _ _ h => h) (Or.inl ⟨rfl, ?yq101_11⟩) (by assumption) ?_
                case yq101_11 => intro w hSw; (try dsimp only at hSw); go_simp; (try with_reducible rfl)
                (try simp only [Act.put, List.getElem_toArray, List.getElem_cons_succ, List.getElem_cons_zero, List.setIfInBounds_toArray, List.set_cons_zero, List.set_cons_succ])
                refine wpAnyH_done (by kernel_rfl) ?_ _
                clear hHeld
                go_wp2_with fail
                go_meet
                exact ⟨G, rfl, rfl, FB, fm, fd, hz3, hs3.1, hq3⟩
            · skip
              rw [if_pos (by rfl)]
              go_simp
              have hz := heap_alloc_new v (.cells #[.slice none 0 0, .int .i64 0] 35)
              have hz : FBx (v.alloc (.cells #[.slice none 0 0, .int .i64 0] 35)) v.heap.size (.slice none 0 0) 0 := hz
              have hgz : z4.heap.size ≤ v.heap.size := hq.size
              have hq := hq.alloc hq.size (.cells #[.slice none 0 0, .int .i64 0] 35)
              refine hK.out _ _ ?_ (fun hHeld => ?_)
              · (try dsimp only); exact KEEP.out _ hq
              clear hK K
              (try simp only [Act.put, List.getElem_toArray, List.getElem_cons_succ, List.getElem_cons_zero, List.setIfInBounds_toArray, List.set_cons_zero, List.set_cons_succ])
              obtain ⟨G, hG⟩ : ∃ G, G = v.heap.size := ⟨_, rfl⟩
              have HGE := Lib.hid hG
              rw [← hG] at hz hgz ⊢
              clear hG
              obtain ⟨u95, hu95⟩ : ∃ u, u = v.alloc (.cells #[.slice none 0 0, .int .i64 0] 35) := ⟨_, rfl⟩
              rw [← hu95] at hz hq hHeld ⊢
              clear hu95
              refine wpAnyH_ready (rs := [2]) (by kernel_rfl) (by simp) ?_
              refine (AllReadyH.cons (o := _) rfl (fun K hK => ?_) AllReadyH.nil)
              have hsrc := htl.step hq
              refine step_append_t rfl (.const (.slice none 0 0)) (.tmp 102) rfl z4.heap.size (.slice none 0 0) ([]) rfl (show TOwn z4.heap.size u95 (.slice none 0 0) [] from TOwn.nil) _ LA ln lc rfl hsrc (by have := HLN.out; have h3 : gap3.length = 3 := rfl; have h4 : five.length = 5 := rfl; (try simp only [List.length_nil]); omega) hq.size ?_
              intro vb96 u96 hownb hgb
              have hq : Below z4.heap.size z4 u96 := hq.grown hgb hq.size (fun k hk => by cases hk)
              have hz := hz.kept hgb (fun e => by cases e)
              have hown : TOwn z4.heap.size u96 vb96 (ll) := hownb
              clear hownb hgb hsrc
              refine hK.out _ _ ?_ (fun hHeld => ?_)
              · (try dsimp only); exact KEEP.out _ hq
              clear hK K
              (try simp only [Act.put, List.getElem_toArray, List.getElem_cons_succ, List.getElem_cons_zero, List.setIfInBounds_toArray, List.set_cons_zero, List.set_cons_succ])
              refine wpAnyH_ready (rs := [4]) (by kernel_rfl) (by simp) ?_
              refine (AllReadyH.cons (o := _) rfl (fun K hK => ?_) AllReadyH.nil)
              have hsrc := htg.step hq
              refine step_append_t rfl (.tmp 103) (.tmp 104) rfl z4.heap.size vb96 (ll) rfl hown _ (some ⟨ga, 0, none⟩) 3 3 rfl hsrc (by have := HLN.out; have h3 : gap3.length = 3 := rfl; have h4 : five.length = 5 := rfl; (try simp only [List.length_cons]); omega) hq.size ?_
              intro vb97 u97 hownb hgb
              have hq : Below z4.heap.size z4 u97 := hq.grown hgb hq.size (fun k hk => (World.ownsRow.lt hown k hk).1)
              have hz := Jk.FBx.far_t hz hown hgb
              have hown : TOwn z4.heap.size u97 vb97 (ll ++ gap3) := hownb
              clear hownb hgb hsrc
              refine hK.out _ _ ?_ (fun hHeld => ?_)
              · (try dsimp only); exact KEEP.out _ hq
              clear hK K
              (try simp only [Act.put, List.getElem_toArray, List.getElem_cons_succ, List.getElem_cons_zero, List.setIfInBounds_toArray, List.set_cons_zero, List.set_cons_succ])
              refine wpAnyH_ready (rs := [5]) (by kernel_rfl) (by simp) ?_
              refine (AllReadyH.cons (o := _) rfl (fun K hK => ?_) AllReadyH.nil)
              go_simp
              obtain ⟨TA, tn, tc, hve, hts⟩ := hown.sl
              subst hve
              go_at_call 26
              have hbase : z4.heap.size ≤ u97.heap.size := hq.size
              have hlo := hz.lt
              refine (HR5.out _ hq TA tn tc hts).mono ?_
              rintro e u98 ⟨FB, fm, fd, rfl, hs, hu98⟩
              have hz := hz.below hu98
              have hq := hq.trans (hu98.mono hq.size)
              refine hK.out _ _ ?_ (fun hHeld => ?_)
              · (try dsimp only); exact KEEP.out _ hq
              clear hK K
              (try simp only [Act.put, List.getElem_toArray, List.getElem_cons_succ, List.getElem_cons_zero, List.setIfInBounds_toArray, List.set_cons_zero, List.set_cons_succ])
              refine wpAnyH_take (i := 6) (oi := _) (v := ?vq102_6) rfl (by kernel_rfl) (by kernel_rfl) (by kernel_rfl) (fun _ _ _ h => h) (Or.inl ⟨rfl, ?yq102_6⟩) (by assumption) ?_
              case yq102_6 => intro w hSw; (try dsimp only at hSw); go_simp; (try with_reducible rfl)
              (try simp only [Act.put, List.getElem_toArray, List.getElem_cons_succ, List.getElem_cons_zero, List.setIfInBounds_toArray, List.set_cons_zero, List.set_cons_succ])
              refine wpAnyH_take (i := 7) (oi := _) (v := ?vq103_7) rfl (by kernel_rfl) (by kernel_rfl) (by kernel_rfl) (fun _ _ _ h => h) (Or.inl ⟨rfl, ?yq103_7⟩) (by assumption) ?_
              case yq103_7 => intro w hSw; (try dsimp only at hSw); go_simp; (try with_reducible rfl)
              (try simp only [Act.put, List.getElem_toArray, List.getElem_cons_succ, List.getElem_cons_zero, List.setIfInBounds_toArray, List.set_cons_zero, List.set_cons_succ])
              refine wpAnyH_take (i := 8) (oi := _) (v := ?vq104_8) rfl (by kernel_rfl) (by kernel_rfl) (by kernel_rfl) (fun _ _ _ h => h) (Or.inl ⟨rfl, ?yq104_8⟩) (by assumption) ?_
              case yq104_8 => intro w hSw; (try dsimp only at hSw); go_simp; (try with_reducible rfl)
              (try simp only [Act.put, List.getElem_toArray, List.getElem_cons_succ, List.getElem_cons_zero, List.setIfInBounds_toArray, List.set_cons_zero, List.set_cons_succ])
              refine wpAnyH_ready (rs := [10]) (by kernel_rfl) (by simp) ?_
              refine (AllReadyH.cons (o := _) rfl (fun K hK => ?_) AllReadyH.nil)
              refine step_store_f rfl (.tmp 20) (.tmp 107) rfl G FB fm fd (.slice none 0 0) _ 0 rfl rfl hz ?_
              intro u99 hz3 hg3
              have hq3 := hq.grown hg3 hq.size (fun k hk => by injection hk with hk; rw [← hk]; exact hgz)
              have hs3 := (hs.far hg3 (by omega)).base_ hbase
              refine hK.out _ _ ?_ (fun hHeld => ?_)
              · (try dsimp only); exact KEEP.out _ hq3
              clear hK K
              (try simp only [Act.put, List.getElem_toArray, List.getElem_cons_succ, List.getElem_cons_zero])
              refine wpAnyH_take (i := 11) (oi := _) (v := ?vq105_11) rfl (by kernel_rfl) (by kernel_rfl) (by kernel_rfl) (fun _ _ _ h => h) (Or.inl ⟨rfl, ?yq105_11⟩) (by assumption) ?_
              case yq105_11 => intro w hSw; (try dsimp only at hSw); go_simp; (try with_reducible rfl)
              (try simp only [Act.put, List.getElem_toArray, List.getElem_cons_succ, List.getElem_cons_zero, List.setIfInBounds_toArray, List.set_cons_zero, List.set_cons_succ])
              refine wpAnyH_done (by kernel_rfl) ?_ _
              clear hHeld
              go_wp2_with fail
              go_meet
              exact ⟨G, rfl, rfl, FB, fm, fd, hz3, hs3.1, hq3⟩
          case rest =>
            obtain ⟨G5, rfl, rfl, F5, fn5, fc5, hf5, hs5, hq5⟩ := hcut
            clear hq hv KEEP v
            obtain ⟨z5, hzz⟩ : ∃ z, z = wc := ⟨_, rfl⟩
            rw [← hzz] at hf5 hs5 hq5 ⊢
            clear hzz wc
            have hx := hx.below hq5
            have hps := hps.step hq5
            have htl := htl.step hq5
            have htm := htm.step hq5
            have htr := htr.step hq5
            have htg := htg.step hq5
            have htf := htf.step hq5
            have hf1 := hf1.below hq5
            have hs1 := hs1.step hq5
            have hf2 := hf2.below hq5
            have hs2 := hs2.step hq5
            have hf3 := hf3.below hq5
            have hs3 := hs3.step hq5
            have hf4 := hf4.below hq5
            have hs4 := hs4.step hq5
            have hbb := hbb.trans (hq5.mono hbb.size)
            clear hq5 HR5
            have hK5 := H5.out
            have hW5l : W5.length = K := by rw [HW5.out, List.length_drop]; show 5 - (5 - K) = K; omega
            have hF5 : full s W5 0 = true := by
              unfold full
              rw [HV.out, HKS.out, show vf true (K : Int) W5 0 = true from okF_vf (f := (W5, 0)) ⟨by rw [hW5l]; exact Nat.le_refl _, by show (0 : Int) ≤ 0; omega, by show (0 : Int) ≤ 3; omega, .inl (by show (0 : Int) < 3; omega)⟩, hW5l]
              simp
            have hF0 : full s [] 3 = false := by
              unfold full
              rw [HKS.out, show decide ((([] : List UInt8).length : Int) = (K : Int)) = false from decide_eq_false (by show ¬ ((0 : Int) = (K : Int)); omega), Bool.and_false]
            have HR5 := Lib.hid fun (u : World) FA fn fc (hp : PSl u PA pn pc s.c.p) (hf : Sl u FA fn fc W5) => HRD.out u FA fn fc W5 0 hp hf
            rw [hF5] at HR5
            have HR0 := Lib.hid fun (u : World) FA fn fc (hp : PSl u PA pn pc s.c.p) (hf : Sl u FA fn fc []) => HRD.out u FA fn fc [] 3 hp hf
            rw [hF0] at HR0
            have c0 := hf3.c0
            have c1 := hf3.c1
            clear hF5 hF0 hW5l hK5 htl htm htr htg htf hl3 hm3 hr3
            go_wp2_with (refine wpList_load_bx rfl (.tmp 9) rfl _ _ _ rfl hx ?_)
            refine (HR5.out _ _ _ _ hps hs3).mono ?_
            rintro e u1 ⟨x, hm1, -, rfl, hu1⟩
            have hx := hx.below hu1
            have hps := hps.step hu1
            have hf1 := hf1.below hu1
            have hs1 := hs1.step hu1
            have hf2 := hf2.below hu1
            have hs2 := hs2.step hu1
            have hf3 := hf3.below hu1
            have hs3 := hs3.step hu1
            have hf4 := hf4.below hu1
            have hs4 := hs4.step hu1
            have hf5 := hf5.below hu1
            have hs5 := hs5.step hu1
            have hbb := hbb.trans (hu1.mono hbb.size)
            have c0 := hf4.c0
            have c1 := hf4.c1
            clear hu1
            go_wp2_with (refine wpList_load_bx rfl (.tmp 9) rfl _ _ _ rfl hx ?_)
            refine (HR5.out _ _ _ _ hps hs4).mono ?_
            rintro e u2 ⟨y, hm2, -, rfl, hu1⟩
            obtain rfl : x = y := (hm1 (by first | exact rfl | exact trivial)).one (hm2 (by first | exact rfl | exact trivial))
            have hx := hx.below hu1
            have hps := hps.step hu1
            have hf1 := hf1.below hu1
            have hs1 := hs1.step hu1
            have hf2 := hf2.below hu1
            have hs2 := hs2.step hu1
            have hf3 := hf3.below hu1
            have hs3 := hs3.step hu1
            have hf4 := hf4.below hu1
            have hs4 := hs4.step hu1
            have hf5 := hf5.below hu1
            have hs5 := hs5.step hu1
            have hbb := hbb.trans (hu1.mono hbb.size)
            have c0 := hf5.c0
            have c1 := hf5.c1
            clear hu1 hm1 hm2
            go_wp2_with (refine wpList_load_bx rfl (.tmp 9) rfl _ _ _ rfl hx ?_)
            refine (HR0.out _ _ _ _ hps hs5).mono ?_
            rintro e u3 ⟨y, -, hm2, rfl, hu1⟩
            obtain rfl := hm2 (by first | exact rfl | exact trivial)
            have hf1 := hf1.below hu1
            have hs1 := hs1.step hu1
            have hf2 := hf2.below hu1
            have hs2 := hs2.step hu1
            have hf3 := hf3.below hu1
            have hs3 := hs3.step hu1
            have hf4 := hf4.below hu1
            have hs4 := hs4.step hu1
            have hbb := hbb.trans (hu1.mono hbb.size)
            have c0 := hf1.c0
            have c1 := hf1.c1
            have d0 := hf2.c0
            have d1 := hf2.c1
            have HS1 := Lib.hid (same_f F1 F2 fn1 fc1 fn2 fc2 R.1 R.1 R.2 R.2 u3 hs1 hs2)
            rw [decide_eq_true (rfl : R.2 = R.2), decide_eq_true (rfl : R.1 = R.1)] at HS1
            clear hx hu1 hf1 hs1 hf2 hs2 hf5 hs5 hps
            go_wp2_with fail
            refine HS1.out.mono ?_
            rintro e u4 ⟨rfl, hu4⟩
            have hf3 := hf3.below hu4
            have hs3 := hs3.step hu4
            have hf4 := hf4.below hu4
            have hs4 := hs4.step hu4
            have hbb := hbb.trans (hu4.mono hbb.size)
            have c0 := hf3.c0
            have c1 := hf3.c1
            have d0 := hf4.c0
            have d1 := hf4.c1
            have HS2 := Lib.hid (same_f F3 F4 fn3 fc3 fn4 fc4 W5 W5 0 0 u4 hs3 hs4)
            rw [decide_eq_true (rfl : (0 : Int) = 0), decide_eq_true (rfl : W5 = W5)] at HS2
            clear hu4 HS1 hf3 hs3 hf4 hs4
            go_wp2_with fail
            refine HS2.out.mono ?_
            rintro e u5 ⟨rfl, hu5⟩
            have hbb := hbb.trans (hu5.mono hbb.size)
            have xx : (((x.toNat : Nat) : Int) == ((x.toNat : Nat) : Int)) = true := beq_self_eq_true _
            clear HS2 c0 c1 d0 d1 hu5
            go_wp2_with fail
            refine (haw.out _).mono ?_
            rintro e w9 ⟨rfl, hb9⟩
            go_wp2_with fail
            go_ret
            exact ⟨rfl, hbb.trans (hb9.mono hbb.size)⟩

theorem cells_u8 : Try.prog.cellsOf 5 = 1 := by kernel_rfl
theorem cells_int : Try.prog.cellsOf 3 = 1 := by kernel_rfl
theorem own : ownKnob Try.prog.godebug = none := by kernel_rfl
theorem laidOut : laidOutB Try.prog = true := by kernel_rfl
theorem contract (H : Type) (enc : TypeId × Value → H) (W : World) (base : Nat) (args : Array Value) (ds gs : List (DataW H)) (before : List MemPlace)
    (hval : ∀ (j : Nat) t v, Try.f6.params[j]? = some t → args[j]? = some v → Value.okWide Try.prog W .any base t v)
    (hW : DataW.Whole enc Try.prog Try.f6.params.toList Rows.samplingForgetsSpec.vars false W args.toList ds gs before) :
    Calls Try.prog 6 args W fun e W' => ∃ v, e = .returned v ∧ Rows.samplingForgetsSpec.post enc Try.prog Try.f6 false true false false W args v W' := by
  have hW' := hW
  obtain ⟨p, q, hA0, hV, rfl, hfz, hnd⟩ := hW
  have hA : DataW.TrodAll enc Try.prog W 0 (fun _ => true) true Try.f6.params.toList args.toList ds p := hA0
  rw [Try.params6] at hA hval
  obtain ⟨v0, vs0, d0, ds0, p0, q0, hargs, rfl, rfl, h0, r0⟩ := trodAll_cons hA
  obtain ⟨v1, vs1, d1, ds1, p1, q1, rfl, rfl, rfl, h1, r1⟩ := trodAll_cons r0
  obtain ⟨v2, vs2, d2, ds2, p2, q2, rfl, rfl, rfl, h2, r2⟩ := trodAll_cons r1
  obtain ⟨v3, vs3, d3, ds3, p3, q3, rfl, rfl, rfl, h3, r3⟩ := trodAll_cons r2
  obtain ⟨rfl, rfl, rfl⟩ := trodAll_nil r3
  obtain rfl : args = #[v0, v1, v2, v3] := by cases args; simp_all
  obtain ⟨A0, n0, c0, l0, rfl, hn0, hr0, hw0, hc0, hm0, hk0⟩ := open_int_list Try.underlying36 Try.underlying3 cells_int (hval 0 36 v0 rfl rfl) h0
  obtain ⟨A1, n1, c1, l1, rfl, hr1⟩ := open_takes Try.underlying55 Try.underlying59 (by kernel_rfl) ⟨rfl, rfl⟩ ⟨(by kernel_rfl), (by kernel_rfl)⟩ Try.underlying5 Try.underlying4 (hval 1 55 v1 rfl rfl) h1
  obtain ⟨A2, n2, c2, l2, rfl, hr2⟩ := open_takes Try.underlying55 Try.underlying59 (by kernel_rfl) ⟨rfl, rfl⟩ ⟨(by kernel_rfl), (by kernel_rfl)⟩ Try.underlying5 Try.underlying4 (hval 2 55 v2 rfl rfl) h2
  obtain ⟨A3, n3, c3, l3, rfl, hr3⟩ := open_takes Try.underlying55 Try.underlying59 (by kernel_rfl) ⟨rfl, rfl⟩ ⟨(by kernel_rfl), (by kernel_rfl)⟩ Try.underlying5 Try.underlying4 (hval 3 55 v3 rfl rfl) h3
  clear hA0
  refine (walk A0 n0 c0 l0 hn0 hw0 hc0 hm0 hk0 A1 n1 c1 l1 A2 n2 c2 l2 A3 n3 c3 l3 W hr0 hr1 hr2 hr3).mono fun e W' ⟨he, hb⟩ => ?_
  subst he
  exact ⟨_, rfl, law_post laidOut (types_fit (by kernel_rfl)) (by kernel_rfl) Try.underlying4 rfl (fun xs hx => by
    match xs, hx with
    | [_, _, _, _], _ => rfl) hW' hb⟩

theorem lifted (os : Os) (started : os.Started) (H : Type) (enc : TypeId × Value → H) :
    ReturnsInHanded {} Try.checked os 6 .any (Rows.samplingForgetsSpec.pre6 enc Try.prog Try.f6 Rows.samplingForgetsRow.domain false) (Rows.samplingForgetsSpec.post enc Try.prog Try.f6 false true false false) := by
  refine returnsInHanded_of_change (C := Try.checked) own started (by kernel_rfl) Try.func6
    (ChangeSpec.witness6 (enc := enc) (C := Try.checked) false ⟨#[], #[.slice none 0 0, .slice none 0 0, .slice none 0 0, .slice none 0 0], []⟩ 8 (by kernel_rfl) (by kernel_rfl) (by kernel_rfl) (by kernel_rfl)) ?_
  intro W base args ds gs before hval hW _ _
  exact contract H enc W base args ds gs before hval hW

theorem proved : Rows.SamplingForgetsSaid :=
  OpenClaim.holds_of_wide 6 Try.f6 rfl rfl rfl rfl rfl rfl rfl ⟨rfl, rfl, rfl, rfl, rfl⟩ rfl rfl rfl rfl rfl (by kernel_rfl) Try.func6 (by kernel_rfl)
    (of_decide_eq_true (by kernel_rfl)) (by unfold Func.isWrapper; first | (rw [if_pos (by decide +kernel)]; kernel_rfl) | (rw [if_neg (by decide +kernel)]; exact ⟨rfl, rfl⟩))
    (fun os started H enc _ => lifted os started H enc)
end Go.Proofs.Ytekhpcfggbegaaa.samplingForgets
