/- The event log in memory: what calls and stores leave of it; its device's calls; its start, its end. -/
import Derived.Test.YtekhpcfggbegaaaGe
import Derived.Test.YtekhpcfggbegaaaGm
import Derived.StillTailTactics
import Derived.Deep.RegionHeld3
import Derived.Deep.RegionLaw
namespace Go.Proofs.Ytekhpcfggbegaaa.G9
open Go.RowKit Go.Proofs.Ytekhpcfggbegaaa.Mem Go.Proofs.Ytekhpcfggbegaaa.F2p Go.Proofs.Ytekhpcfggbegaaa.E5p Go.Proofs.Ytekhpcfggbegaaa.E5m Go.Proofs.Ytekhpcfggbegaaa.E5a Go.Proofs.Ytekhpcfggbegaaa.E5d Go.Proofs.Ytekhpcfggbegaaa.V7 Go.Proofs.Ytekhpcfggbegaaa.V9
set_option maxRecDepth 100000
set_option maxHeartbeats 1000000

theorem row_any {base e sz n : Nat} {w w' : World} {v : Value} {xs : List Value} (h : w.ownsRow base e sz v n xs) (hk : ∀ i, v.ownBlock = some i → w'.heap[i]? = w.heap[i]?) : w'.ownsRow base e sz v n xs := by
  refine ⟨h.1, ?_⟩
  rcases h.2 with ⟨rfl, h0⟩ | ⟨g', cap, cur, rfl, h1, h2, h3⟩
  · exact .inl ⟨rfl, h0⟩
  · exact .inr ⟨g', cap, cur, rfl, h1, (hk g' rfl).trans h2, h3⟩
section
variable {B : Nat} {W w w' : World} {d : Sh} {s s' : Fl} {m m' g n : Nat} {rv rv' : Value} {L L' : Lg}
theorem LA.kept (h : LA B W w d s m g rv L n) (hk : Kept d w w') (hd : At B W w' d s' m') (hl : Like s s') : LA B W w' d s' m' g rv L n :=
  ⟨hd, (hk.block _ h.lg h.n1 h.n2 h.n3).trans h.head, row_any h.own (fun i hi => by obtain ⟨a, b, c, _, e⟩ := h.r1 hi; exact hk.block i e a b c), h.low, h.ok.like hl⟩
theorem LA.step (h : LA B W w d s m g rv L n) (hb : Below w.heap.size w w') : LA B W w' d s m g rv L n :=
  h.kept (Kept.of_below hb (Nat.le_refl _)) (h.dev.step hb) (Like.refl s)
theorem LA.drew (h : LA B W w d s m g rv L n) : LA B W w.drew d s m g rv L n := ⟨h.dev.drew, h.head, h.own, h.low, h.ok⟩
theorem LA.drewN (h : LA B W w d s m g rv L n) (k : Nat) : LA B W (w.drewN k) d s m g rv L n := ⟨h.dev.drewN k, h.head, h.own, h.low, h.ok⟩
/-- A store into the head. -/
theorem LA.put (h : LA B W w d s m g rv L n) (i : Nat) (v : Value) (hc : (headOf d L rv).setIfInBounds i v = headOf d L' rv') (hr : ROwn B w rv' L'.recs) (hg : ∀ i, rv'.ownBlock = some i → i ≠ g) (ok : L'.Ok s n) : LA B W (w.setCell ⟨g, i, none⟩ v) d s m g rv' L' n := by
  have hs := set_grown w g i v
  have ho : ∀ k, k ≠ g → (w.setCell ⟨g, i, none⟩ v).heap[k]? = w.heap[k]? := fun k hk => other_block w g i k v hk
  refine ⟨⟨h.dev.dev.stays (ho _ h.n1.symm) (ho _ h.n2.symm) (ho _ h.n3.symm), h.dev.ok, h.dev.low.grown hs (by have := h.dev.base; exact this) (fun q hq => by injection hq with hq; rw [← hq]; exact h.low)⟩, ?_, row_any hr (fun k hk => ho k (hg k hk)), h.low, ok⟩
  unfold Hd
  rw [heap_setCell_same w g i _ _ v h.head, hc]
theorem LA.ne (h : LA B W w d s m g rv L n) : ∀ i, rv.ownBlock = some i → i ≠ g := fun _ hi => (h.r1 hi).2.2.2.1
theorem LA.put' (h : LA B W w d s m g rv L n) (i : Nat) (v : Value) (hc : (headOf d L rv).setIfInBounds i v = headOf d L' rv) (hr : L'.recs = L.recs) (ok : L'.Ok s n) : LA B W (w.setCell ⟨g, i, none⟩ v) d s m g rv L' n :=
  h.put i v hc (by rw [hr]; exact h.own) h.ne ok
theorem LA.c0 (h : LA B W w d s m g rv L n) : w.cell? ⟨g, 0, none⟩ = some (.pointer (some ⟨d.g, 0, none⟩)) := h.c 0
theorem LA.c1 (h : LA B W w d s m g rv L n) : w.cell? ⟨g, 1, none⟩ = some (.int .i64 (L.first : Int)) := h.c 1
theorem LA.c2 (h : LA B W w d s m g rv L n) : w.cell? ⟨g, 2, none⟩ = some (.int .i64 (L.S : Int)) := h.c 2
theorem LA.c3 (h : LA B W w d s m g rv L n) : w.cell? ⟨g, 3, none⟩ = some (.bool L.ow) := h.c 3
theorem LA.c4 (h : LA B W w d s m g rv L n) : w.cell? ⟨g, 4, none⟩ = some (.int .i64 (L.newest : Int)) := h.c 4
theorem LA.c5 (h : LA B W w d s m g rv L n) : w.cell? ⟨g, 5, none⟩ = some (.int .i64 (L.tail : Int)) := h.c 5
theorem LA.c6 (h : LA B W w d s m g rv L n) : w.cell? ⟨g, 6, none⟩ = some (.int .i64 (L.used : Int)) := h.c 6
theorem LA.c7 (h : LA B W w d s m g rv L n) : w.cell? ⟨g, 7, none⟩ = some (.int .u16 (L.nid : Int)) := h.c 7
theorem LA.c8 (h : LA B W w d s m g rv L n) : w.cell? ⟨g, 8, none⟩ = some rv := h.c 8
theorem LA.c9 (h : LA B W w d s m g rv L n) : w.cell? ⟨g, 9, none⟩ = some (.bool L.full) := h.c 9
theorem LA.c10 (h : LA B W w d s m g rv L n) : w.cell? ⟨g, 10, none⟩ = some (.int .u16 (L.resv : Int)) := h.c 10
theorem LA.c11 (h : LA B W w d s m g rv L n) : w.cell? ⟨g, 11, none⟩ = some (.bool L.rsvd) := h.c 11
end
/-- A log that has ended. -/
structure LE (B : Nat) (W w : World) (d : Sh) (s : Fl) (m g : Nat) : Prop where
  dev : At B W w d s m
  head : Hd w g headNone
  low : B ≤ g
theorem one_head : headNone.all (·.oneCell') = true := by simp [headNone, Value.oneCell']
section
variable {B : Nat} {W w : World} {d : Sh} {s : Fl} {m g n : Nat} {rv : Value} {L : Lg}
/-- The log ends. -/
theorem end_p (h : LA B W w d s m g rv L n) : Calls Try.prog 147 #[.pointer (some ⟨g, 0, none⟩)] w fun e w' => e = .returned (.tuple #[]) ∧ LE B W w' d s m g ∧ Kp d g rv (.slice none 0 0) w w' := by
  have hlg := h.lg
  have H := Lib.hid h
  clear h
  go_enter Try.func147, Try.ntmps147
  go_wp2_with (refine wpList_store_row rfl _ (.tmp 4) (.tmp 3) rfl g headNone rfl rfl _ _ H.out.head (by kernel_rfl) rfl one_head ?_)
  have hg := show w.grownBy (w.setRow g headNone) (some g) from ⟨rfl, rfl, rfl, by simp, fun k _ hk => setRow_other w g k _ (fun he => hk (by rw [he]))⟩
  have hh : Hd (w.setRow g headNone) g headNone := setRow_heap w g _ _ _ _ H.out.head
  generalize w.setRow g headNone = w1 at *
  go_end0
  have ho : ∀ k, k < w.heap.size → k ≠ g → w1.heap[k]? = w.heap[k]? := fun k hk hn => hg.block k hk (fun e => hn (by injection e))
  exact ⟨rfl, ⟨⟨H.out.dev.dev.stays (ho _ H.out.dev.dev.lg H.out.n1.symm) (ho _ H.out.dev.dev.lb.2 H.out.n2.symm) (ho _ H.out.dev.dev.lw.2 H.out.n3.symm), H.out.dev.ok, H.out.dev.low.grown hg H.out.dev.base (fun q hq => by injection hq with hq; rw [← hq]; exact H.out.low)⟩, hh, H.out.low⟩,
    ⟨hg.os, hg.tape, hg.output, hg.size, fun i hi _ _ _ e _ => ⟨ho i hi e, fun hf => by cases hf⟩⟩⟩
/-- A log notes an error. -/
theorem note_p (h : LA B W w d s m g rv L n) (e : Int) (he : -9223372036854775808 ≤ e ∧ e ≤ 9223372036854775807) : Calls Try.prog 117 #[.pointer (some ⟨g, 0, none⟩), .int .i64 e] w fun x w' => x = .returned (.tuple #[]) ∧
    (e = 10 → LE B W w' d s m g ∧ Kp d g rv (.slice none 0 0) w w') ∧ (e = 9 → LA B W w' d s m g rv { L with full := true } n ∧ Kp d g rv rv w w') ∧ (e ≠ 10 → e ≠ 9 → w' = w) := by
  have hlg := h.lg
  have c9 := h.c9
  have f9 := h.fz 9
  have HE := Lib.hid (end_p h)
  have HP := Lib.hid (h.put' 9 (.bool true) (L' := { L with full := true }) rfl rfl (h.ok.fulled true))
  clear h
  rcases Classical.em (e = 10) with rfl | h10
  · go_enter Try.func117, Try.ntmps117
    go_wp2_with fail
    refine HE.out.mono ?_
    rintro e w1 ⟨rfl, h1, h2⟩
    go_wp2_with fail
    go_end0
    exact ⟨rfl, fun _ => ⟨h1, h2⟩, fun e => absurd e (by omega), fun e => absurd rfl e⟩
  · have q10 : (e == 10) = false := by simpa using h10
    rcases Classical.em (e = 9) with rfl | h9
    · go_enter Try.func117, Try.ntmps117
      go_wp2_with fail
      go_end0
      exact ⟨rfl, fun e => absurd e (by omega), fun _ => ⟨HP.out, Kp.put _ _⟩, fun _ e => absurd rfl e⟩
    · have q9 : (e == 9) = false := by simpa using h9
      have H10 := Lib.hid h10
      have H9 := Lib.hid h9
      clear h10 h9
      go_enter Try.func117, Try.ntmps117
      go_wp2_with fail
      go_end0
      exact ⟨rfl, fun e => absurd e H10.out, fun e => absurd e H9.out, fun _ _ => rfl⟩
/-- The log ends if its device is down. -/
theorem down_no (h : LA B W w d s m g rv L n) (hd : s.down = false) : Calls Try.prog 113 #[.pointer (some ⟨g, 0, none⟩)] w fun x w' => x = .returned (.bool false) ∧ w' = w := by
  have hlg := h.lg
  have c0 := h.c0
  have HD := Lib.hid (down_p h.dev.dev)
  rw [hd] at HD
  clear h hd
  go_enter Try.func113, Try.ntmps113
  go_wp2_with fail
  refine HD.out.mono ?_
  rintro e w1 ⟨rfl, rfl⟩
  go_wp2_with fail
  go_ret
  exact ⟨rfl, rfl⟩
theorem down_yes (h : LA B W w d s m g rv L n) (hd : s.down = true) : Calls Try.prog 113 #[.pointer (some ⟨g, 0, none⟩)] w fun x w' => x = .returned (.bool true) ∧ LE B W w' d s m g ∧ Kp d g rv (.slice none 0 0) w w' := by
  have hlg := h.lg
  have c0 := h.c0
  have HD := Lib.hid (down_p h.dev.dev)
  rw [hd] at HD
  have HE := Lib.hid (end_p h)
  clear h hd
  go_enter Try.func113, Try.ntmps113
  go_wp2_with fail
  refine HD.out.mono ?_
  rintro e w1 ⟨rfl, rfl⟩
  go_wp2_with fail
  refine HE.out.mono ?_
  rintro e w1 ⟨rfl, h1, h2⟩
  have c0 : w1.cell? ⟨g, 0, none⟩ = some (.pointer none) := cell_of_row w1 g 0 _ _ _ h1.head
  go_wp2_with fail
  go_ret
  exact ⟨rfl, h1, h2⟩
theorem ended_p (h : LE B W w d s m g) : Calls Try.prog 113 #[.pointer (some ⟨g, 0, none⟩)] w fun x w' => x = .returned (.bool true) ∧ w' = w := by
  have c0 : w.cell? ⟨g, 0, none⟩ = some (.pointer none) := cell_of_row w g 0 _ _ _ h.head
  go_enter Try.func113, Try.ntmps113
  go_wp2_with fail
  go_ret
  exact ⟨rfl, rfl⟩
/-- Where a sector begins. -/
theorem start_p (h : LA B W w d s m g rv L n) (q : Nat) (h1 : 1 ≤ q) (h2 : q ≤ 4294967296) : Calls Try.prog 150 #[.pointer (some ⟨g, 0, none⟩), .int .i64 (q : Int)] w fun x w' => x = .returned (.int .i64 ((L.start s q : Nat) : Int)) ∧ ∃ k, w' = w.drewN k := by
  have hlg := h.lg
  have c0 := h.c0; have c1 := h.c1; have c2 := h.c2
  have h3 := h.ok.two; have h4 := h.ok.fits; have h5 := h.dev.ok.most; have h6 := h.dev.ok.size2
  have HS := Lib.hid (fun k => size_p (h.dev.dev.drewN k))
  have HP := Lib.hid (fun u => place_p q L.S h1 h2 (by omega) (by omega) u)
  have hmod := Nat.mod_lt (q - 1) (show 0 < L.S by omega)
  have hst : ((L.start s q : Nat) : Int) = ((L.first : Int) + ((q - 1) % L.S : Nat)) * (s.size : Int) := by unfold Lg.start Lg.sec; push_cast; rfl
  have hle : (L.first + (q - 1) % L.S) * s.size ≤ 16 * 1024 := Nat.mul_le_mul (by omega) h6
  clear h
  generalize (q - 1) % L.S = r at *
  have hw : wrap64 (((L.first : Int) + (r : Int)) * (s.size : Int)) = ((L.first : Int) + (r : Int)) * (s.size : Int) := by
    rw [← Int.natCast_add, ← Int.natCast_mul]
    unfold wrap64
    omega
  have HX := Lib.hid (hw.trans hst.symm)
  clear hst hle hw
  go_enter Try.func150, Try.ntmps150
  go_wp2_with fail
  go_quiet (first | (go_at_call 169; exact quiet_same (HP.out _)) | (go_at_call 109; exact quiet_same (HS.out _)))
  rw [HX.out]
  go_wp2_with fail
  go_ret
  exact ⟨rfl, _, rfl⟩
/-- A sector is erased unless it is erased. -/
theorem wipe_p (h : LA B W w d s m g rv L n) (hm : m ≤ 900000) (q : Nat) (h1 : 1 ≤ q) (h2 : q ≤ 4294967296) :
    Calls Try.prog 171 #[.pointer (some ⟨g, 0, none⟩), .int .i64 (q : Int)] w fun x w' => x = .returned (.int .i64 (Lg.wipe s L q).2) ∧ LA B W w' d (Lg.wipe s L q).1 (m + 1) g rv L n ∧ Kp d g rv rv w w' := by
  have hle := start_le h.ok h.dev.ok q
  have hby := h.dev.ok.bytes_le
  have h5 := h.dev.ok.most
  have h6 := h.dev.ok.size2
  have hfs := h.ok.fits
  have hS2 := h.ok.two
  have hmod := Nat.mod_lt (q - 1) (show 0 < L.S by omega)
  have hsec : ((L.sec q : Nat) : Int) = (L.first : Int) + ((q - 1) % L.S : Nat) := by unfold Lg.sec; push_cast; rfl
  have K0 : Kp d g rv rv w w.drew := (Kp.refl (d := d) (g := g) (rv := rv) (w := w)).drew
  have HP := Lib.hid (fun u => place_p q L.S h1 h2 (by omega) (by omega) u)
  obtain ⟨r, hr⟩ : ∃ r, r = (q - 1) % L.S := ⟨_, rfl⟩
  obtain ⟨X, hX⟩ : ∃ X, X = L.start s q := ⟨_, rfl⟩
  have hst : ∀ V, LA B W V d s m g rv L n → Calls Try.prog 150 #[.pointer (some ⟨g, 0, none⟩), .int .i64 (q : Int)] V fun x w' => x = .returned (.int .i64 (X : Int)) ∧ ∃ k, w' = V.drewN k := fun V hV => by rw [hX]; exact start_p hV q h1 h2
  have HST := Lib.hid hst
  rw [← hr] at HP hsec hmod
  rw [← hX] at hle
  have HV := h.drew
  have KEEP : Hid (∀ V s m, LA B W V d s m g rv L n → V.cell? ⟨g, 0, none⟩ = some (.pointer (some ⟨d.g, 0, none⟩)) ∧ V.cell? ⟨g, 1, none⟩ = some (.int .i64 (L.first : Int)) ∧ V.cell? ⟨g, 2, none⟩ = some (.int .i64 (L.S : Int))) := Lib.hid fun V _ _ hV => ⟨hV.c0, hV.c1, hV.c2⟩
  have HX := Lib.hid hX
  have HSEC := Lib.hid hsec
  have HLE := Lib.hid hle
  have hXl : X ≤ 100000 := by omega
  clear h hst hr hX hsec hle
  go_enter Try.func171, Try.ntmps171
  go_wp2_with fail
  go_region_held3 (fun V => V.cell? ⟨g, 0, none⟩ = some (.pointer (some ⟨d.g, 0, none⟩)) ∧ V.cell? ⟨g, 1, none⟩ = some (.int .i64 (L.first : Int)) ∧ V.cell? ⟨g, 2, none⟩ = some (.int .i64 (L.S : Int))) (first | exact KEEP.out _ _ _ HV)
    (first
      | (go_at_call 150; refine (HST.out _ HV).mono ?_; rintro e w2 ⟨rfl, k2, rfl⟩; have HV := HV.drewN k2; have K0 := K0.drewN k2; (simp only [World.drewN_drew] at HV K0))
      | (go_at_call 109; refine (size_p HV.dev.dev).mono ?_; rintro e w2 ⟨rfl, rfl⟩)
      | (go_at_call 110; refine (HV.dev.read (X : Int) (s.size : Int) (by omega) (by omega) (by omega) (by omega)).mono ?_; rintro e w2 ⟨A1, n1, c1, rfl, ho1, hs1, hb1, -⟩; have HV := HV.step hb1; have K0 := K0.trans (Kp.of_below hb1 (Nat.le_refl _))))
  have hcm : n1 ≤ c1 := hs1.cap
  have hcx := hs1.max
  obtain ⟨rd, hrd⟩ : ∃ rd, rd = s.read (X : Int) (s.size : Int) := ⟨_, rfl⟩
  rw [← hrd] at ho1 hs1 ⊢
  have HRD : Hid (s.read (L.start s q : Int) (s.size : Int) = rd) := Lib.hid (by rw [hrd, HX.out])
  clear hrd
  rcases Classical.em (rd.2 = 0) with he | he
  · have g0 : (rd.2 != 0) = false := by simpa using he
    have HEM := Lib.hid (erased_any A1 n1 c1 rd.1 w2 hs1)
    have HE0 := Lib.hid he
    clear he
    obtain ⟨b, hb⟩ : ∃ b, b = rd.1.all (· == 255) := ⟨_, rfl⟩
    rw [← hb] at HEM
    have HBB := Lib.hid hb
    clear hb
    go_wp2_with fail
    refine HEM.out.mono ?_
    rintro e w3 ⟨rfl, rfl⟩
    cases b
    · have hw : Lg.wipe s L q = s.erase (L.sec q) := by
        unfold Lg.wipe
        dsimp only
        rw [HRD.out, if_neg (by simp [HE0.out]), if_neg (by rw [← HBB.out]; simp)]
      rw [HSEC.out] at hw
      have HW := Lib.hid hw
      clear hw
      go_wp2_with fail
      have HV := HV.drew
      have K0 := K0.drew
      clear ho1 hs1 hb1 hcm hcx g0
      have hwr : IntKind.i64.wrap ((L.first : Int) + (r : Int)) = (L.first : Int) + (r : Int) := IntWalk.i64_in _ ⟨by omega, by omega⟩
      go_region_held3 (fun V => V.cell? ⟨g, 0, none⟩ = some (.pointer (some ⟨d.g, 0, none⟩)) ∧ V.cell? ⟨g, 1, none⟩ = some (.int .i64 (L.first : Int)) ∧ V.cell? ⟨g, 2, none⟩ = some (.int .i64 (L.S : Int))) (first | exact KEEP.out _ _ _ HV)
        (first
          | (go_at_call 169; refine (HP.out _).mono ?_; rintro e w3 ⟨rfl, rfl⟩)
          | (go_at_call 192; refine (HV.dev.erase hm ((L.first : Int) + (r : Int)) (by omega) (by omega)).mono ?_; rintro e w3 ⟨rfl, hat, hk3⟩; have HV := HV.kept hk3 hat (erase_like s _); have K0 := K0.trans (Kp.of_kept hk3)))
      go_wp2_with fail
      go_ret
      rw [HW.out]
      exact ⟨rfl, HV, K0⟩
    · have hw : Lg.wipe s L q = (s, 0) := by
        unfold Lg.wipe
        dsimp only
        rw [HRD.out, if_neg (by simp [HE0.out]), if_pos HBB.out.symm]
      have HW := Lib.hid hw
      clear hw
      go_wp2_with fail
      go_ret
      rw [HW.out]
      exact ⟨by rw [HE0.out]; rfl, ⟨⟨HV.dev.dev, HV.dev.ok.more (Nat.le_succ m), HV.dev.low⟩, HV.head, HV.own, HV.low, HV.ok⟩, K0⟩
  · have g0 : (rd.2 != 0) = true := by simpa using he
    have hw : Lg.wipe s L q = (s, rd.2) := by
      unfold Lg.wipe
      dsimp only
      rw [HRD.out, if_pos he]
    have HW := Lib.hid hw
    clear he hw
    go_wp2_with fail
    go_ret
    rw [HW.out]
    exact ⟨rfl, ⟨⟨HV.dev.dev, HV.dev.ok.more (Nat.le_succ m), HV.dev.low⟩, HV.head, HV.own, HV.low, HV.ok⟩, K0⟩
end
end Go.Proofs.Ytekhpcfggbegaaa.G9
