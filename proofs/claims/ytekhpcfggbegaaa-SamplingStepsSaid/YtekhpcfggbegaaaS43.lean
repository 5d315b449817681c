/- Walks: the reference's filters: Reading. -/
import Derived.Test.YtekhpcfggbegaaaS37
import Derived.Test.YtekhpcfggbegaaaS42
namespace Go.Proofs.Ytekhpcfggbegaaa.Jd
open Go.RowKit Go.Proofs.Ytekhpcfggbegaaa.Mem Go.Proofs.Ytekhpcfggbegaaa.F2p Go.Proofs.Ytekhpcfggbegaaa.C4l Go.Proofs.Ytekhpcfggbegaaa.Ta Go.Proofs.Ytekhpcfggbegaaa.Tb Go.Proofs.Ytekhpcfggbegaaa.Ja
set_option maxRecDepth 100000
set_option maxHeartbeats 1000000

theorem bef_len (s : Bool) (l : List UInt8) (i : Nat) : ∀ k, bef s l i k ≤ k
  | 0 => Nat.le_refl _
  | k + 1 => by
    have := bef_len s l i k
    unfold bef
    split <;> omega
theorem med_ex {sg : Bool} {l : List UInt8} (h : 0 < l.length) : ∃ x, Med sg l x := by
  have hp := List.mergeSort_perm l (fun a b => decide (C4p.num sg a ≤ C4p.num sg b))
  have hs := List.pairwise_mergeSort (le := fun a b => decide (C4p.num sg a ≤ C4p.num sg b)) (fun a b c h1 h2 => by simp at *; omega) (fun a b => by simp; omega) l
  generalize List.mergeSort l (fun a b => decide (C4p.num sg a ≤ C4p.num sg b)) = m at *
  have hl := hp.length_eq
  refine ⟨_, (med_sorted (s := sg) (m := m) (by omega) fun i j hij hj => ?_).perm hp⟩
  rw [List.pairwise_iff_getElem] at hs
  have := hs i j (by omega) hj hij
  rw [getD_at (by omega), getD_at hj]
  simpa using this
theorem read_r (s : Sn) (A : Option Addr) (n cp : Nat) (FA : Option Addr) (fn fc : Nat) (l : List UInt8) (m : Int) (w : World) (hsl : PSl w A n cp s.c.p) (hnm : s.nm.size ≤ maxLen) (hf : Sl w FA fn fc l) :
    Calls Try.prog 21 #[.agg (cells s (.slice A n cp)), .agg #[.slice FA fn fc, .int .i64 m]] w (RdO w s.c.s l (full s l m)) := by
  obtain ⟨hb0, hx0, hf0⟩ := two_boxes s (.slice A n cp) (.slice FA fn fc) m w
  have HV := Lib.hid (fvalid_r s A n cp FA fn fc l m _ (hsl.step hb0) hnm (hf.step hb0))
  obtain ⟨R, hR⟩ : ∃ R, R = full s l m := ⟨_, rfl⟩
  rw [← hR]
  unfold full at hR
  have HFF := Lib.hid fun (h : vf (vs s) s.sm l m = true) => vf_facts h
  have hlen := hf.len
  rw [← hlen] at hR
  have HLN := Lib.hid hlen
  have HSF := Lib.hid hf
  have hcm : fn ≤ 9223372036854775807 := by have := lite hf; unfold maxLen at this; omega
  clear hsl hf hlen
  generalize vf (vs s) s.sm l m = b at *
  obtain ⟨k, hk⟩ : ∃ k, k = s.sm := ⟨_, rfl⟩
  rw [← hk] at hR
  have HK := Lib.hid hk
  have HR := Lib.hid hR
  clear hR hk
  go_enter Try.func21, Try.ntmps21
  go_wp2_with (refine wpList_load_bx rfl (.tmp 2) rfl _ _ _ rfl hx0 ?_)
  refine HV.out.mono ?_
  rintro e w3 ⟨rfl, hb3⟩
  have hx3 := hx0.below hb3
  have hf3 := hf0.below hb3
  have hb := hb0.trans (hb3.mono hb0.size)
  clear hf0 hx0 hb0 hb3 HV
  cases b
  · obtain rfl : R = false := HR.out
    go_wp2_with fail
    go_ret2
    exact ⟨0, (fun h => by cases h), (fun _ => rfl), rfl, hb⟩
  have s27 := c27 hx3
  rw [← HK.out] at s27
  have f0 := hf3.c0
  obtain ⟨hsm, hlk, -, -, -, -⟩ := HFF.out rfl
  rw [← HK.out] at hsm hlk
  have hlk2 : (fn : Int) ≤ k := by have := HLN.out; omega
  clear HFF hlk
  by_cases h1 : (fn : Int) < k
  · have d1 : decide ((fn : Int) < k) = true := decide_eq_true h1
    obtain rfl : R = false := by rw [HR.out, show decide ((fn : Int) = k) = false from decide_eq_false (by omega)]; rfl
    go_wp2_with fail
    go_ret2
    exact ⟨0, (fun h => by cases h), (fun _ => rfl), rfl, hb⟩
  have d1 : decide ((fn : Int) < k) = false := decide_eq_false h1
  obtain rfl : R = true := by rw [HR.out, show decide ((fn : Int) = k) = true from decide_eq_true (by omega)]; rfl
  have h5 : fn = 1 ∨ fn = 3 ∨ fn = 5 := by omega
  have H5 := Lib.hid h5
  have s8 := c8 hx3
  have HRW := Lib.hid (HSF.out.step hb).row
  have HN := Lib.hid fun (z : UInt8) (u : World) => C4v.number_r s.c.s z u
  generalize s.c.s = sg at *
  obtain ⟨q0, q1⟩ : fn ≤ 5 ∧ 1 ≤ fn := by omega
  obtain ⟨a, hFA, -, hall⟩ := HRW.out (by rw [len_bvs, ← HLN.out]; omega)
  have HC : Hid (∀ i, i < fn → w3.cell? (a.add i) = some (.int .u8 ((l.getD i 0).toNat : Int))) := Lib.hid fun i hi => by
    rw [hall i (by rw [len_bvs, ← HLN.out]; exact hi), getD_at (by rw [← HLN.out]; exact hi)]
    simp [bvs, bv]
  obtain rfl := hFA
  clear hsm h5 h1 hlk2 hx3 hf3 HK hall HRW
  obtain ⟨H, hH⟩ : ∃ H : Nat, (fn : Int) / 2 = (H : Int) ∧ H = fn / 2 := ⟨fn / 2, by omega, rfl⟩
  have hHI := hH.1
  have HH := Lib.hid hH.2
  clear hH
  go_wp2_with fail
  go_loopw [6] (fun v wr => ∃ (i q : Nat), i ≤ fn ∧ v = .int .i64 (i : Int) ∧ wr = w3.drewN q ∧ ∀ j, j < i → bef sg l j l.length ≠ l.length / 2) (fun v _ => fn - (intOf v).toNat)
  case atStart => exact ⟨0, 0, Nat.zero_le _, rfl, rfl, fun j hj => by omega⟩
  case round =>
    obtain ⟨i, q, hi, rfl, hw, hno⟩ := hrel
    have HNO := Lib.hid hno
    have f0r : wr.cell? ⟨w.heap.size + 1, 0, none⟩ = some (.slice (some a) fn fc) := by rw [hw]; exact f0
    have s8r : wr.cell? ⟨w.heap.size, 8, none⟩ = some (.bool sg) := by rw [hw]; exact s8
    have HWR := Lib.hid hw
    clear hno hw
    by_cases hlt : i < fn
    · have b0 : decide ((i : Int) < (fn : Int)) = true := decide_eq_true (by omega)
      have hcr : wr.cell? (a.add i) = some (.int .u8 ((l.getD i 0).toNat : Int)) := by rw [HWR.out]; exact HC.out i hlt
      have n1 : (i : Int) < (fn : Int) := by omega
      obtain ⟨X, hX⟩ : ∃ X, X = C4p.num sg (l.getD i 0) := ⟨_, rfl⟩
      have HNI := Lib.hid fun (u : World) => HN.out (l.getD i 0) u
      rw [← hX] at HNI
      have HX := Lib.hid hX
      clear hX
      go_wp2_with fail
      go_quiet ((go_at_call 27; exact quiet_same (HNI.out _)))
      go_wp2_with fail
      go_loopw [8, 9] (fun b v wx => ∃ (k q2 : Nat), k ≤ fn ∧ v = .int .i64 (k : Int) ∧ b = .int .i64 (bef sg l i k : Int) ∧ wx = w3.drewN q2) (fun _ v _ => fn - (intOf v).toNat)
      case atStart => exact ⟨0, q + nq, Nat.zero_le _, rfl, rfl, by rw [HWR.out, World.drewN_drewN]⟩
      case round =>
        clear f0r s8r hcr HNI HWR
        obtain ⟨k2, q2, hk2, rfl, rfl, hw2⟩ := hrel
        have f0r : wr.cell? ⟨w.heap.size + 1, 0, none⟩ = some (.slice (some a) fn fc) := by rw [hw2]; exact f0
        have s8r : wr.cell? ⟨w.heap.size, 8, none⟩ = some (.bool sg) := by rw [hw2]; exact s8
        have HW2 := Lib.hid hw2
        clear hw2
        have hbl : bef sg l i k2 ≤ k2 := bef_len sg l i k2
        obtain ⟨c, hc⟩ : ∃ c, c = bef sg l i k2 := ⟨_, rfl⟩
        rw [← hc] at hbl ⊢
        have HCC := Lib.hid hc
        clear hc
        by_cases hlt2 : k2 < fn
        · have b1 : decide ((k2 : Int) < (fn : Int)) = true := decide_eq_true (by omega)
          have hcr : wr.cell? (a.add k2) = some (.int .u8 ((l.getD k2 0).toNat : Int)) := by rw [HW2.out]; exact HC.out k2 hlt2
          have n2 : (k2 : Int) < (fn : Int) := by omega
          obtain ⟨Y, hY⟩ : ∃ Y, Y = C4p.num sg (l.getD k2 0) := ⟨_, rfl⟩
          have HNK := Lib.hid fun (u : World) => HN.out (l.getD k2 0) u
          rw [← hY] at HNK
          have hst : bef sg l i (k2 + 1) = if Y < X ∨ Y = X ∧ k2 < i then c + 1 else c := by
            rw [HCC.out, hY, HX.out]; rfl
          have HST := Lib.hid hst
          clear hY hst
          go_wp2_with fail
          go_quiet ((go_at_call 27; exact quiet_same (HNK.out _)))
          by_cases e1 : Y < X
          · have d1 : decide (Y < X) = true := decide_eq_true e1
            go_wp2_with fail
            go_roundw
            case rel => exact ⟨k2 + 1, q2 + nq, by omega, by go_num, by rw [HST.out, if_pos (Or.inl e1)]; go_num, by rw [HW2.out, World.drewN_drewN]⟩
            case measure => simp [intOf]; omega
          · have d1 : decide (Y < X) = false := decide_eq_false e1
            by_cases e2 : Y = X
            · have d2 : (Y == X) = true := by simpa using e2
              by_cases e3 : k2 < i
              · have d3 : decide ((k2 : Int) < (i : Int)) = true := decide_eq_true (by omega)
                have HE2 := Lib.hid e2
                clear e2
                go_wp2_with fail
                go_roundw
                case rel => exact ⟨k2 + 1, q2 + nq, by omega, by go_num, by rw [HST.out, if_pos (Or.inr ⟨HE2.out, e3⟩)]; go_num, by rw [HW2.out, World.drewN_drewN]⟩
                case measure => simp [intOf]; omega
              · have d3 : decide ((k2 : Int) < (i : Int)) = false := decide_eq_false (by omega)
                have HE2 := Lib.hid e2
                clear e2
                go_wp2_with fail
                go_roundw
                case rel => exact ⟨k2 + 1, q2 + nq, by omega, by go_num, by rw [HST.out, if_neg (by rintro (h | h); exact e1 h; exact e3 h.2)], by rw [HW2.out, World.drewN_drewN]⟩
                case measure => simp [intOf]; omega
            · have d2 : (Y == X) = false := by simpa using e2
              go_wp2_with fail
              go_roundw
              case rel => exact ⟨k2 + 1, q2 + nq, by omega, by go_num, by rw [HST.out, if_neg (by rintro (h | h); exact e1 h; exact e2 h.1)], by rw [HW2.out, World.drewN_drewN]⟩
              case measure => simp [intOf]; omega
        · have b1 : decide ((k2 : Int) < (fn : Int)) = false := decide_eq_false (by omega)
          have hke : k2 = fn := by omega
          have HKE := Lib.hid hke
          have hcr : wr.cell? (a.add i) = some (.int .u8 ((l.getD i 0).toNat : Int)) := by rw [HW2.out]; exact HC.out i hlt
          clear hke
          by_cases e1 : c = H
          · have d1 : ((c : Int) == (H : Int)) = true := by rw [e1]; exact beq_self_eq_true _
            have HE1 := Lib.hid e1
            have hmed : Med sg l (l.getD i 0) := bef_med (by rw [← HLN.out]; exact hlt) (by rw [← HLN.out, ← HH.out, ← e1, HCC.out, HKE.out])
            have HM := Lib.hid hmed
            have hbx := hb.trans ((show Below w3.heap.size w3 wr by rw [HW2.out]; exact below_of_drawn).mono hb.size)
            clear e1 hmed
            go_wp2_with fail
            go_ret2
            exact ⟨_, (fun _ => HM.out), (fun h => by cases h), rfl, hbx⟩
          · have d1 : ((c : Int) == (H : Int)) = false := by rw [beq_eq_false_iff_ne]; omega
            have hno : bef sg l i l.length ≠ l.length / 2 := by
              rw [← HLN.out, ← HH.out, ← HKE.out, ← HCC.out]; exact e1
            go_wp2_with fail
            go_roundw
            case rel => exact ⟨i + 1, q2, by omega, by go_num, HW2.out, fun j hj => by
              by_cases ej : j = i
              · rw [ej]; exact hno
              · exact HNO.out j (by omega)⟩
            case measure => simp [intOf]; omega
    · exfalso
      obtain ⟨x, hx⟩ := med_ex (sg := sg) (l := l) (by rw [← HLN.out]; omega)
      obtain ⟨j, hj, hj2⟩ := bef_ex hx
      exact HNO.out j (by have := HLN.out; omega) hj2
end Go.Proofs.Ytekhpcfggbegaaa.Jd
