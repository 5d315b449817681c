/- Walks: the reference's filters: Step. -/
import Derived.Test.YtekhpcfggbegaaaS34
import Derived.Test.YtekhpcfggbegaaaS36
namespace Go.Proofs.Ytekhpcfggbegaaa.Jd
open Go.RowKit Go.Proofs.Ytekhpcfggbegaaa.Mem Go.Proofs.Ytekhpcfggbegaaa.F2p Go.Proofs.Ytekhpcfggbegaaa.C4l Go.Proofs.Ytekhpcfggbegaaa.Ta Go.Proofs.Ytekhpcfggbegaaa.Tb Go.Proofs.Ytekhpcfggbegaaa.Ja
set_option maxRecDepth 100000
set_option maxHeartbeats 1000000

theorem cut_n {base n c : Nat} {g : Nat} {w : World} {l : List UInt8} (h : Je.SlN base w (some ⟨g, 0, none⟩) n c l) (hn : 1 ≤ n) (hc : ¬ c = 1) : Je.SlN base w (some ⟨g, 1, none⟩) (n - 1) (c - 1) (l.drop 1) := by
  obtain ⟨⟨h1, h2, h3, h4, h5⟩, h6⟩ := h
  refine ⟨⟨by rw [List.length_drop, ← h1], ?_, by omega, by omega, fun hh => by cases hh⟩, fun a ha => by cases ha; exact (h6 ⟨g, 0, none⟩ rfl : base ≤ g)⟩
  have := row_cut h2 (n := 1) (cap := c) (by omega) (by omega)
  rw [if_neg hc] at this
  exact this
theorem step_r (s : Sn) (A : Option Addr) (n cp : Nat) (FA : Option Addr) (fn fc : Nat) (l : List UInt8) (m : Int) (raw : UInt8) (ok : Bool) (w : World) (hsl : PSl w A n cp s.c.p) (hnm : s.nm.size ≤ maxLen) (hf : Sl w FA fn fc l) :
    Calls Try.prog 19 #[.agg (cells s (.slice A n cp)), .agg #[.slice FA fn fc, .int .i64 m], .int .u8 (raw.toNat : Int), .bool ok] w (StO w (stW (vs s) s.sm l m raw ok) (stM (vs s) s.sm l m ok) (stE (vs s) s.sm l m)) := by
  obtain ⟨i0, hi, hq0, hq1, hq2⟩ := info_parts info5
  obtain ⟨hb0, hx0, hf0, hz0⟩ := three_boxes s (.slice A n cp) (.slice FA fn fc) m w
  have HV := Lib.hid (fvalid_r s A n cp FA fn fc l m _ (hsl.step hb0) hnm (hf.step hb0))
  obtain ⟨W, hW⟩ : ∃ W, W = stW (vs s) s.sm l m raw ok := ⟨_, rfl⟩
  obtain ⟨M, hM⟩ : ∃ M, M = stM (vs s) s.sm l m ok := ⟨_, rfl⟩
  obtain ⟨E, hE⟩ : ∃ E, E = stE (vs s) s.sm l m := ⟨_, rfl⟩
  rw [← hW, ← hM, ← hE]
  unfold stW at hW
  unfold stM at hM
  unfold stE at hE
  have hfin : ∀ (w3 : World) (u v : Value), Below w.heap.size w w3 → Below w.heap.size w ((w3.setCell ⟨w.heap.size + 2, 0, none⟩ u).setCell ⟨w.heap.size + 2, 1, none⟩ v) := fun w3 u v h => h.grown (two_set w3 _ u v) h.size (fun k hk => by injection hk; omega)
  have HFI := Lib.hid hfin
  have HFF := Lib.hid fun (h : vf (vs s) s.sm l m = true) => vf_facts h
  have HLN := Lib.hid hf.len
  have HSF := Lib.hid hf
  clear hfin hsl hf
  generalize vf (vs s) s.sm l m = b at *
  have HW := Lib.hid hW
  have HM := Lib.hid hM
  have HE := Lib.hid hE
  clear hW hM hE
  go_enter Try.func19, Try.ntmps19
  go_wp2_with (refine wpList_load_bx rfl (.tmp 4) rfl _ _ _ rfl hx0 ?_)
  refine HV.out.mono ?_
  rintro e w3 ⟨rfl, hb3⟩
  have hx3 := hx0.below hb3
  have hf3 := hf0.below hb3
  have hz3 := hz0.below hb3
  have hb := hb0.trans (hb3.mono hb0.size)
  have hlt3 := hz3.lt
  clear hf0 hx0 hz0 hb0 hb3 HV
  cases b
  · obtain rfl := HM.out
    obtain rfl := HE.out
    obtain rfl := HW.out
    have c0 := hz3.c0
    have c1 := hz3.c1
    have z0 := hz3.fz 0
    have z1 := hz3.fz 1
    have hz4 := hz3.set (.slice none 0 0) 0
    go_wp2_with fail
    (try simp only [Exit.inBlock, Exit.then])
    refine out_f2 rfl rfl rfl rfl hz4 ?_
    exact ⟨_, _, _, rfl, Je.SlN.none, HFI.out _ _ _ hb⟩
  obtain ⟨hsm, hlk, hm0, hm3, -, -⟩ := HFF.out rfl
  clear HFF
  have hfn : fn ≤ 5 := by have := HLN.out; omega
  obtain rfl := HE.out
  have hs3 := HSF.out.step hb
  have HCP := Lib.hid (Wb.copy_any FA fn fc l w3 HLN.out hs3.row (by omega))
  clear hs3 HSF
  cases ok
  · have hW := HW.out
    have hM := HM.out
    rw [if_neg (by simp), if_neg (by simp)] at hW hM
    have HW := Lib.hid hW
    clear hW HM hx3
    have c0 := hf3.c0
    have c1 := hf3.c1
    have d0 := hz3.c0
    have d1 := hz3.c1
    have z0 := hz3.fz 0
    have z1 := hz3.fz 1
    rcases (show m = 0 ∨ m = 1 ∨ m = 2 ∨ m = 3 by omega) with rfl | rfl | rfl | rfl
    · rw [if_pos (by decide)] at hM
      obtain rfl := hM
      go_wp2_with fail
      refine HCP.out.mono ?_
      rintro e w4 ⟨v, rfl, hown, hb4⟩
      obtain ⟨B, k, c, rfl, -⟩ := Sl.of_own hown
      have hs4 := Je.SlN.of_own hown
      have hz4 := hz3.below hb4
      have d0 := hz4.c0
      have d1 := hz4.c1
      have z0 := hz4.fz 0
      have z1 := hz4.fz 1
      have hz5 := hz4.set (.slice B k c) (0 + 1)
      have hbb := hb.trans (hb4.mono hb.size)
      go_wp2_with fail
      (try simp only [Exit.inBlock, Exit.then])
      refine out_f2 rfl rfl rfl rfl hz5 ?_
      exact ⟨_, _, _, rfl, by rw [HW.out]; exact (hs4.far (two_set w4 _ _ _) hlt3).base_ hb.size, HFI.out _ _ _ hbb⟩
    · rw [if_pos (by decide)] at hM
      obtain rfl := hM
      go_wp2_with fail
      refine HCP.out.mono ?_
      rintro e w4 ⟨v, rfl, hown, hb4⟩
      obtain ⟨B, k, c, rfl, -⟩ := Sl.of_own hown
      have hs4 := Je.SlN.of_own hown
      have hz4 := hz3.below hb4
      have d0 := hz4.c0
      have d1 := hz4.c1
      have z0 := hz4.fz 0
      have z1 := hz4.fz 1
      have hz5 := hz4.set (.slice B k c) (1 + 1)
      have hbb := hb.trans (hb4.mono hb.size)
      go_wp2_with fail
      (try simp only [Exit.inBlock, Exit.then])
      refine out_f2 rfl rfl rfl rfl hz5 ?_
      exact ⟨_, _, _, rfl, by rw [HW.out]; exact (hs4.far (two_set w4 _ _ _) hlt3).base_ hb.size, HFI.out _ _ _ hbb⟩
    · rw [if_neg (by decide)] at hM
      obtain rfl := hM
      have hz4 := hz3.set (.slice none 0 0) 3
      go_wp2_with fail
      (try simp only [Exit.inBlock, Exit.then])
      refine out_f2 rfl rfl rfl rfl hz4 ?_
      exact ⟨_, _, _, rfl, by rw [HW.out]; exact Je.SlN.none, HFI.out _ _ _ hb⟩
    · rw [if_neg (by decide)] at hM
      obtain rfl := hM
      have hz4 := hz3.set (.slice none 0 0) 3
      go_wp2_with fail
      (try simp only [Exit.inBlock, Exit.then])
      refine out_f2 rfl rfl rfl rfl hz4 ?_
      exact ⟨_, _, _, rfl, by rw [HW.out]; exact Je.SlN.none, HFI.out _ _ _ hb⟩
  · obtain rfl := HM.out
    have hW := HW.out
    rw [if_neg (by simp), if_pos rfl] at hW
    obtain ⟨K, hK⟩ : ∃ K : Nat, s.sm = (K : Int) := ⟨s.sm.toNat, by omega⟩
    have hK2 : 1 ≤ K ∧ K ≤ 5 := by omega
    have hKN : s.sm.toNat = K := by omega
    rw [hKN] at hW
    have HW2 := Lib.hid hW
    have c0 := hf3.c0
    clear hW hKN HW
    go_wp2_with fail
    refine HCP.out.mono ?_
    rintro e w4 ⟨v, rfl, hown, hb4⟩
    have hal := (Below.refl w4.heap.size w4).alloc (Nat.le_refl _) (.cells #[.int .u8 (raw.toNat : Int)] 5)
    have hown5 := World.ownsRow.alloc hown (.cells #[.int .u8 (raw.toNat : Int)] 5)
    have hrow5 := row_new w4 #[.int .u8 (raw.toNat : Int)] 5 [raw] rfl (Nat.lt_succ_self _)
    have hb5 := hb4.alloc hb4.size (.cells #[.int .u8 (raw.toNat : Int)] 5)
    have hll : l.length ≤ 5 := by have := HLN.out; omega
    clear hal
    go_wp2_with (at_builtin; (refine wpList_append_rd _ rfl (.tmp 20) (.tmp 22) _ rfl w3.heap.size 5 i0 _ 1 Try.underlying33 hi hq0 hq1 hq2 rfl _ _ _ rfl hown5 (w4.heap.size + 1) (some ⟨w4.heap.size, 0, none⟩) 1 1 (bvs [raw]) rfl rfl hrow5 (fun hh => by cases hh) (bvs_one _) (by unfold maxLen; omega) (by omega) hb5.size ?_); intro v6 w6 hown6 hg6; refine Hid.out ?_)
    have hb6 := below_grown hb5 hown5 hg6 hb5.size
    have hown6' : Own w3.heap.size w6 v6 (l ++ [raw]) := own_of hown6 (by simp) (bvs_app l [raw]).symm
    obtain ⟨B, k, c, rfl, -⟩ := Sl.of_own hown6'
    have hs6 := Je.SlN.of_own hown6'
    obtain ⟨g, rfl, -, -⟩ := own_some hown6' (by simp)
    have hkl : k = fn + 1 := by rw [hs6.1.len, List.length_append, ← HLN.out]; rfl
    have hck := hs6.1.cap
    have hcm : c ≤ 9223372036854775807 := by have := hs6.1.max; unfold maxLen at this; omega
    have hz6 := hz3.below hb6
    have hx6 := hx3.below hb6
    have s27 := c27 hx6
    rw [hK] at s27
    have d0 := hz6.c0
    have d1 := hz6.c1
    have z0 := hz6.fz 0
    have z1 := hz6.fz 1
    have hbb := hb.trans (hb6.mono hb.size)
    have HKL := Lib.hid hkl
    clear hkl hown hown5 hrow5 hown6 hown6' hg6 hb5 hb4 hx3 hf3 hz3 hx6 hK c0
    refine Lib.hid ?_
    by_cases hlt : K < k
    · have t1 : decide ((K : Int) < (k : Int)) = true := decide_eq_true (by omega)
      have a1 : ¬ c = 1 := by omega
      have a2 : 1 ≤ c := by omega
      have a3 : 1 ≤ k := by omega
      have e : push l raw K = (l ++ [raw]).drop 1 := by unfold push; rw [← HLN.out, if_pos (by have := HKL.out; omega)]
      have hs7 := cut_n hs6 a3 a1
      rw [← e, ← HW2.out] at hs7
      have hz7 := hz6.set (.slice (some ⟨g, 1, none⟩) (k - 1) (c - 1)) 0
      clear hs6 e
      go_wp2_with fail
      (try simp only [Exit.inBlock, Exit.then])
      refine out_f2 rfl rfl rfl rfl hz7 ?_
      exact ⟨_, _, _, rfl, (hs7.far (two_set w6 _ _ _) hlt3).base_ hb.size, HFI.out _ _ _ hbb⟩
    · have t1 : decide ((K : Int) < (k : Int)) = false := decide_eq_false (by omega)
      have e : push l raw K = l ++ [raw] := by unfold push; rw [← HLN.out, if_neg (by have := HKL.out; omega)]
      rw [← e, ← HW2.out] at hs6
      have hz7 := hz6.set (.slice (some ⟨g, 0, none⟩) k c) 0
      clear e
      go_wp2_with fail
      (try simp only [Exit.inBlock, Exit.then])
      refine out_f2 rfl rfl rfl rfl hz7 ?_
      exact ⟨_, _, _, rfl, (hs6.far (two_set w6 _ _ _) hlt3).base_ hb.size, HFI.out _ _ _ hbb⟩
theorem same_f (FA FB : Option Addr) (fn fc gn gc : Nat) (l l' : List UInt8) (m m' : Int) (w : World) (h1 : Sl w FA fn fc l) (h2 : Sl w FB gn gc l') :
    Calls Try.prog 24 #[.agg #[.slice FA fn fc, .int .i64 m], .agg #[.slice FB gn gc, .int .i64 m']] w fun e w' => e = .returned (.bool (decide (m = m') && decide (l = l'))) ∧ Below w.heap.size w w' := by
  obtain ⟨R, hR⟩ : ∃ R, R = (decide (m = m') && decide (l = l')) := ⟨_, rfl⟩
  rw [← hR]
  have hb1 : Below w.heap.size w (w.alloc (FBox (.slice FA fn fc) m)) := (Below.refl _ _).alloc (Nat.le_refl _) _
  have hf1 : FBx (w.alloc (FBox (.slice FA fn fc) m)) w.heap.size (.slice FA fn fc) m := heap_alloc_new w _
  obtain ⟨hf2, hb2⟩ := fresh_box w (FBox (.slice FA fn fc) m) (.slice FB gn gc) m'
  have hf1 := hf1.alloc (FBox (.slice FB gn gc) m')
  have HS := Lib.hid (Wb.same_any FA FB fn gn fc gc l l' _ _ h1.len h2.len (h1.step hb2).row (h2.step hb2).row (lite h1) (lite h2))
  have HR := Lib.hid hR
  have c0 := hf1.c0
  have c1 := hf1.c1
  have d0 := hf2.c0
  have d1 := hf2.c1
  clear hR h1 h2 hf1 hf2 hb1
  generalize decide (l = l') = Q at *
  go_enter Try.func24, Try.ntmps24
  by_cases hm : m = m'
  · have e1 : (m == m') = true := by simpa using hm
    obtain rfl : R = Q := by rw [HR.out, decide_eq_true hm]; rfl
    clear hm HR
    go_wp2_with fail
    refine HS.out.mono ?_
    rintro e w3 ⟨rfl, k, rfl⟩
    go_wp2_with fail
    go_ret
    exact ⟨rfl, below_drewN hb2⟩
  · have e1 : (m == m') = false := by simpa using hm
    obtain rfl : R = false := by rw [HR.out, decide_eq_false hm]; rfl
    go_wp2_with fail
    go_ret
    exact ⟨rfl, hb2⟩
end Go.Proofs.Ytekhpcfggbegaaa.Jd
