/- Walks: the event log's small functions. -/
import Derived.Test.YtekhpcfggbegaaaGc
namespace Go.Proofs.Ytekhpcfggbegaaa.G9
open Go.RowKit Go.Proofs.Ytekhpcfggbegaaa.Mem Go.Proofs.Ytekhpcfggbegaaa.E5p Go.Proofs.Ytekhpcfggbegaaa.E5m Go.Proofs.Ytekhpcfggbegaaa.E5d Go.Proofs.Ytekhpcfggbegaaa.V7 Go.Proofs.Ytekhpcfggbegaaa.V9
set_option maxRecDepth 100000
set_option maxHeartbeats 1000000

theorem slots_p (n : Nat) (h : 11 ≤ n) (hn : n ≤ 1000000) (w : World) : Calls Try.prog 82 #[.int .i64 (n : Int)] w fun e w' => e = .returned (.int .i64 (((n - 11) / 17 : Nat) : Int)) ∧ w = w' := by
  go_enter Try.func82, Try.ntmps82
  go_wp2_with fail
  go_ret
  have e1 : (((n - 11) / 17 : Nat) : Int) = ((n : Int) - 11) / 17 := by omega
  exact ⟨by rw [e1]; rfl, rfl⟩
theorem slotat_p (i : Nat) (hn : i ≤ 1000) (w : World) : Calls Try.prog 151 #[.int .i64 (i : Int)] w fun e w' => e = .returned (.int .i64 ((11 + i * 17 : Nat) : Int)) ∧ w = w' := by
  go_enter Try.func151, Try.ntmps151
  go_wp2_with fail
  go_ret
  exact ⟨rfl, rfl⟩
theorem place_p (q S : Nat) (h1 : 1 ≤ q) (h2 : q ≤ 4294967296) (h3 : 1 ≤ S) (h4 : S ≤ 100) (w : World) : Calls Try.prog 169 #[.int .i64 (q : Int), .int .i64 (S : Int)] w fun e w' => e = .returned (.int .i64 (((q - 1) % S : Nat) : Int)) ∧ w = w' := by
  go_enter Try.func169, Try.ntmps169
  go_wp2_with fail
  go_ret
  refine ⟨?_, rfl⟩
  rw [Int.natCast_emod, Int.natCast_sub h1]
  rfl
theorem behind_p (i : Nat) (h : i ≤ 65534) (w : World) : Calls Try.prog 142 #[.int .u16 (i : Int)] w fun e w' => e = .returned (.int .u16 ((Lg.behind i : Nat) : Int)) ∧ w = w' := by
  go_enter Try.func142, Try.ntmps142
  go_wp2_with fail
  · go_ret
    have : i = 65534 := by have := ‹((i : Int) == 65534) = true›; simp at this; omega
    exact ⟨by unfold Lg.behind; rw [if_pos this]; rfl, rfl⟩
  · go_ret
    have : ¬ i = 65534 := by have := ‹((i : Int) == 65534) = false›; simp at this; omega
    exact ⟨by unfold Lg.behind; rw [if_neg this]; congr 2, rfl⟩
theorem unequal_any (x : UInt8) (w : World) :
    Calls Try.prog 182 #[.int .u8 (x.toNat : Int)] w fun e w' => e = .returned (.bool (x != 255)) ∧ w = w' := by
  have hx : ((x.toNat : Int) != 255) = (x != 255) := by
    rw [Bool.eq_iff_iff]
    simp only [bne_iff_ne, ne_eq]
    refine not_congr ⟨fun h => UInt8.toNat_inj.mp (by show x.toNat = 255; omega), fun h => by rw [h]; rfl⟩
  have HX := Lib.hid hx
  clear hx
  go_enter Try.func182, Try.ntmps182
  go_wp2_with fail
  go_ret
  exact ⟨ret_bool HX.out, rfl⟩
theorem index_any (A : Option Addr) (n c : Nat) (l : List UInt8) (w : World) (hl : Sl w A n c l) :
    Calls Try.prog 194 #[.slice A n c, .func (.func 182) #[] #[]] w fun e w' => ∃ r : Int, e = .returned (.int .i64 r) ∧ decide (0 ≤ r) = !(l.all (· == 255)) ∧ w = w' := by
  have HU := Lib.hid unequal_any
  have HL := Lib.hid hl; have HN := Lib.hid hl.len
  have hcm : n ≤ 2 ^ 63 - 1 := Nat.le_trans hl.cap hl.max
  clear hl
  go_enter Try.func194, Try.ntmps194
  go_wp2_with fail
  go_loop [8] (fun v => ∃ j : Nat, j ≤ n ∧ v = .int .i64 (j : Int) ∧ (l.take j).all (· == 255) = true) (fun v => n - (intOf v).toNat)
  case atStart => exact ⟨0, Nat.zero_le _, rfl, by simp⟩
  case round =>
    obtain ⟨j, hj, rfl, hall⟩ := hrel
    by_cases hlt : j < n
    · have b0 : decide ((j : Int) < (n : Int)) = true := by simp; exact hlt
      have hjl : j < l.length := by have := HN.out; omega
      obtain ⟨a, rfl, hab, k0⟩ := row_at HL.out.row hjl
      have n1 : (j : Int) < (n : Int) := by omega
      have n2 : (0 : Int) ≤ (j : Int) := by omega
      have htk : (l.take (j + 1)).all (· == 255) = ((l.take j).all (· == 255) && (l[j] == 255)) := by
        rw [List.take_succ_eq_append_getElem hjl, List.all_append]; simp
      rw [hall, Bool.true_and] at htk
      have hno : (l[j] == 255) = false → (l.all (· == 255)) = false := fun h => by
        rw [Bool.eq_false_iff]
        intro h2
        rw [List.all_eq_true] at h2
        have := h2 _ (List.getElem_mem hjl)
        rw [h] at this
        cases this
      obtain ⟨x, hx⟩ : ∃ x, x = l[j] := ⟨_, rfl⟩
      rw [← hx] at k0 htk hno
      have HTK := Lib.hid htk; have HNO := Lib.hid hno
      clear htk hno hx hall
      go_wp2_with fail
      refine (HU.out x w).mono ?_
      rintro e w' ⟨rfl, rfl⟩
      by_cases h255 : x = 255
      · have g0 : (x != 255) = false := by rw [h255]; rfl
        have g1 : (x == 255) = true := by rw [h255]; rfl
        have HG := Lib.hid g1
        clear g1 h255
        go_wp2_with fail
        exact ⟨⟨j + 1, by omega, by push_cast; rfl, by rw [HTK.out, HG.out]⟩, by simp [intOf]; omega⟩
      · have g0 : (x != 255) = true := by simpa using h255
        have g1 : (x == 255) = false := by simpa using h255
        have HG := Lib.hid (HNO.out g1)
        clear g1 h255
        go_wp2_with fail
        go_ret
        exact ⟨_, rfl, by rw [HG.out]; simp, rfl⟩
    · have b0 : decide ((j : Int) < (n : Int)) = false := by simp; omega
      have htk : l.take j = l := List.take_of_length_le (by have := HN.out; omega)
      rw [htk] at hall
      have HA := Lib.hid hall
      clear htk hall
      go_wp2_with fail
      go_ret
      exact ⟨_, rfl, by rw [HA.out]; rfl, rfl⟩
theorem contains_any (A : Option Addr) (n c : Nat) (l : List UInt8) (w : World) (hl : Sl w A n c l) :
    Calls Try.prog 181 #[.slice A n c, .func (.func 182) #[] #[]] w fun e w' => e = .returned (.bool (!(l.all (· == 255)))) ∧ w = w' := by
  have HI := Lib.hid (index_any A n c l w hl)
  clear hl
  go_enter Try.func181, Try.ntmps181
  go_wp2_with fail
  refine HI.out.mono ?_
  rintro e w' ⟨r, rfl, hr, rfl⟩
  clear HI
  have HR := Lib.hid hr
  clear hr
  go_wp2_with fail
  go_ret
  exact ⟨ret_bool HR.out, rfl⟩
theorem erased_any (A : Option Addr) (n c : Nat) (l : List UInt8) (w : World) (hl : Sl w A n c l) :
    Calls Try.prog 165 #[.slice A n c] w fun e w' => e = .returned (.bool (l.all (· == 255))) ∧ w = w' := by
  have hc := contains_any A n c l w hl
  obtain ⟨b, hb⟩ : ∃ b, b = l.all (· == 255) := ⟨_, rfl⟩
  rw [← hb] at hc ⊢
  have HC := Lib.hid hc
  clear hl hc hb
  go_enter Try.func165, Try.ntmps165
  go_wp2_with fail
  refine HC.out.mono ?_
  rintro e w' ⟨rfl, rfl⟩
  clear HC
  cases b <;> go_wp2_with fail
  all_goals go_ret
  all_goals exact ⟨rfl, rfl⟩
end Go.Proofs.Ytekhpcfggbegaaa.G9
