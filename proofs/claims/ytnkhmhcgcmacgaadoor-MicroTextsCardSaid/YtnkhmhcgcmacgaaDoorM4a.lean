/- Walks: the reference of fixed-point numbers: Parse, a text with something behind its digits. -/
import Derived.Test.YtnkhmhcgcmacgaaDoorM3v
namespace Go.Proofs.YtnkhmhcgcmacgaaDoor.M3r
open Go.RowKit Go.Proofs.YtnkhmhcgcmacgaaDoor.Mem Go.Proofs.YtnkhmhcgcmacgaaDoor.M3p Go.Proofs.YtnkhmhcgcmacgaaDoor.F2p
set_option maxRecDepth 100000
set_option maxHeartbeats 8000000

theorem pr0c (s : ByteArray) (r i f : List UInt8) (c : UInt8) (L F : Nat) (w : World) (hs : s.size ≤ 100000) (hz : 0 < s.size) (h45 : ((s[0].toNat : Int) == 45) = false)
    (HS : Hid (bl s = [] ++ (i ++ c :: f))) (HI : Hid (∀ x ∈ i, isd x = true)) (HTW : Hid (r.takeWhile isd = i)) (HL : Hid (L = i.length)) (hle : 0 + L ≤ s.size) (HDW : Hid (r.dropWhile isd = c :: f)) (HF : Hid (F = f.length)) (hd1 : 0 + L + F + 1 ≤ s.size) (hd2 : s.size ≤ 0 + L + F + 1) (hcd : c.toNat < 48 ∨ 57 < c.toNat) (h8 : L < 8)
    (R : Int × Int) (HRU : Hid (R = psrU false r)) :
    Calls Tryd.prog 32 #[.string s] w fun e w' => e = .returned (.tuple #[.int .i64 R.1, .int .i64 R.2]) ∧ w = w' := by
  go_enter Tryd.func32, Tryd.ntmps32
  go_wp2_with fail
  go_loop [4, 7] (fun v4 v7 => ∃ k j m : Nat, j ≤ L ∧ v4 = .int .i64 k ∧ v7 = .int .i64 m ∧ k = 0 + j ∧ m = val (i.take j)) (fun v4 _ => 0 + L - (intOf v4).toNat)
  case atStart => exact ⟨0, 0, 0, Nat.zero_le _, rfl, rfl, rfl, rfl⟩
  case round =>
    obtain ⟨k, j, m, hj, rfl, rfl, hk, hm⟩ := hrel
    have HM := Lib.hid hm
    have hmb : m < 100000000 := by
      have h1 := val_lt (i.take j) (fun x hx => HI.out x (List.mem_of_mem_take hx))
      have h2 : 10 ^ (i.take j).length ≤ 10 ^ 8 := Nat.pow_le_pow_right (by omega) (by rw [List.length_take]; omega)
      omega
    clear hm
    by_cases hlt : j < L
    · have hji : j < i.length := by have := HL.out; omega
      have hks : k < s.size := by omega
      have hkI : (k : Int) < 8 := by omega
      have hsk := get_i HS.out j k hji (by rw [hk]; rfl) hks
      obtain ⟨g1, g2⟩ := dig_of (HI.out i[j] (List.getElem_mem hji))
      rw [← hsk] at g1 g2
      have hnx : 10 * m + dv s[k] = val (i.take (j + 1)) := by rw [val_take i j hji, ← HM.out, hsk]
      have hnv : ∀ z : Int, z = 10 * (m : Int) + ((s[k].toNat : Int) - 48) → z = ((10 * m + dv s[k] : Nat) : Int) := by
        intro z hz
        have : dv s[k] = s[k].toNat - 48 := rfl
        omega
      have HX := Lib.hid hnx
      have HNV := Lib.hid hnv
      have HK := Lib.hid hk
      clear hnx hnv hsk hk
      go_wp2_with fail
      exact ⟨⟨k + 1, j + 1, 10 * m + dv s[k], by omega, by go_num, vi (HNV.out _ (by omega)), by have := HK.out; omega, HX.out⟩, by have := HK.out; simp [intOf]; omega⟩
    · obtain rfl : L = j := by omega
      have hVM : m = val i := by rw [HM.out, HL.out, List.take_length]
      have HVM := Lib.hid hVM
      clear hVM HM
      obtain rfl : k = L := by omega
      clear hk
      have hks : k < s.size := by omega
      have hsk := get_d HS.out k (by rw [HL.out]; simp) hks
      rw [← hsk] at hcd
      have HSK := Lib.hid hsk
      clear hsk
      rcases hcd with g | g
      · skip
        have hN7 : ¬ 7 < (k : Int) := by omega
        by_cases h0 : k = 0
        · have hr : R = (0, 6) := by rw [HRU.out]; exact psrU_bad HTW.out (.inl (by have := HL.out; omega))
          subst hr
          have h0I : (((k : Nat) : Int) == 0) = true := by rw [h0]; rfl
          clear h0
          go_wp2_with fail
          all_goals go_ret2
          all_goals exact ⟨rfl, rfl⟩
        have h0I : (((k : Nat) : Int) == 0) = false := by rw [beq_eq_false_iff_ne]; omega
        have hb0 : 0 < s.size := by omega
        have hs0 := get_i HS.out 0 0 (by have := HL.out; omega) rfl hb0
        have hhd : i.head? = some s[0] := by rw [hs0, List.head?_eq_getElem?, List.getElem?_eq_getElem (by have := HL.out; omega)]
        clear hs0
        by_cases h1 : 1 < k ∧ s[0] = 48
        · have hr : R = (0, 6) := by rw [HRU.out]; exact psrU_bad HTW.out (.inr (.inr ⟨by have := HL.out; omega, by rw [hhd, h1.2]⟩))
          subst hr
          obtain ⟨h1, h2⟩ := h1
          have h48 : (s[0].toNat : Int) = 48 := by rw [h2]; rfl
          clear h2 hhd h0
          go_wp2_with fail
          go_ret2
          exact ⟨rfl, rfl⟩
        have hno : ¬ (i.length = 0 ∨ 7 < i.length ∨ (1 < i.length ∧ i.head? = some 48)) := by
          have hLL := HL.out
          rintro (h | h | ⟨h, h2⟩)
          · omega
          · omega
          · rw [hhd] at h2; injection h2 with h2; exact h1 ⟨by omega, h2⟩
        have h48 : ¬ 1 < k ∨ (1 < k ∧ ((s[0].toNat : Int) == 48) = false) := by
          by_cases h : 1 < k
          · refine .inr ⟨h, ?_⟩
            rw [beq_eq_false_iff_ne]
            intro e
            exact h1 ⟨h, UInt8.toNat_inj.1 (by have : (48 : UInt8).toNat = 48 := rfl; omega)⟩
          · exact .inl h
        clear hhd h1 h0
        have hr : R = if c = 46 ∧ 1 ≤ f.length ∧ f.length ≤ 6 ∧ f.all isd = true then fin false (val i * 1000000 + val f * 10 ^ (6 - f.length)) else (0, 6) := by rw [HRU.out]; exact psrU_cons HTW.out HDW.out hno
        clear hno
        have HR0 := Lib.hid hr
        clear hr
        by_cases hc : c = 46
        case neg =>
          have hr : R = (0, 6) := by rw [HR0.out]; exact if_neg (fun h => hc h.1)
          subst hr
          have hcN : s[k].toNat ≠ 46 := by
            rw [HSK.out]
            intro e
            exact hc (UInt8.toNat_inj.1 e)
          clear hc
          rcases Nat.lt_or_gt_of_ne hcN with hc1 | hc1
          · clear hcN
            rcases h48 with h1n | ⟨h1n, h48⟩
            · skip
              go_wp2_with fail
              all_goals go_ret2
              all_goals exact ⟨rfl, rfl⟩
            · skip
              go_wp2_with fail
              all_goals go_ret2
              all_goals exact ⟨rfl, rfl⟩
          · clear hcN
            rcases h48 with h1n | ⟨h1n, h48⟩
            · skip
              go_wp2_with fail
              all_goals go_ret2
              all_goals exact ⟨rfl, rfl⟩
            · skip
              go_wp2_with fail
              all_goals go_ret2
              all_goals exact ⟨rfl, rfl⟩
        have hcI : (s[k].toNat : Int) = 46 := by rw [HSK.out, hc]; rfl
        by_cases hf1 : 1 ≤ F ∧ F ≤ 6
        case neg =>
          have hr : R = (0, 6) := by rw [HR0.out]; exact if_neg (fun h => hf1 (by have := HF.out; exact ⟨by omega, by omega⟩))
          subst hr
          clear hc
          rcases (show F = 0 ∨ 6 < F by omega) with hf0 | hf0
          · have hq1 : (s.size : Int) - (k : Int) - 1 < 1 := by omega
            clear hf0
            rcases h48 with h1n | ⟨h1n, h48⟩
            · skip
              go_wp2_with fail
              go_ret2
              exact ⟨rfl, rfl⟩
            · skip
              go_wp2_with fail
              go_ret2
              exact ⟨rfl, rfl⟩
          · have hq1 : ¬ (s.size : Int) - (k : Int) - 1 < 1 := by omega
            have hq2 : 6 < (s.size : Int) - (k : Int) - 1 := by omega
            rcases h48 with h1n | ⟨h1n, h48⟩
            · skip
              go_wp2_with fail
              go_ret2
              exact ⟨rfl, rfl⟩
            · skip
              go_wp2_with fail
              go_ret2
              exact ⟨rfl, rfl⟩
        obtain ⟨hf1, hf6⟩ := hf1
        have hq1 : ¬ (s.size : Int) - (k : Int) - 1 < 1 := by omega
        have hq2 : ¬ 6 < (s.size : Int) - (k : Int) - 1 := by omega
        obtain ⟨V, hV⟩ : ∃ V, V = val i * 1000000 := ⟨_, rfl⟩
        have hVm : (m : Int) * 1000000 = (V : Int) := by have := HVM.out; omega
        have hV13 : V < 100000000000000 := by have := HVM.out; omega
        have hr : R = if f.all isd = true then fin false (V + val f * 10 ^ (6 - f.length)) else (0, 6) := by
          rw [HR0.out, hV]
          have hFF := HF.out
          by_cases ha : f.all isd = true
          · rw [if_pos ⟨hc, by omega, by omega, ha⟩, if_pos ha]
          · rw [if_neg (fun h => ha h.2.2.2), if_neg ha]
        have HR1 := Lib.hid hr
        clear hV hr HR0 hc
        rcases h48 with h1n | ⟨h1n, h48⟩
        · skip
          go_wp2_with fail
          go_loop [4, 7, 9] (fun v4 v7 v9 => ∃ k2 q n u : Nat, q ≤ F ∧ v4 = .int .i64 k2 ∧ v7 = .int .i64 n ∧ v9 = .int .i64 u ∧ k2 = k + 1 + q ∧ n = V + val (f.take q) * 10 ^ (6 - q) ∧ u = 10 ^ (6 - q) ∧ (f.take q).all isd = true) (fun v4 _ _ => k + 1 + F - (intOf v4).toNat)
          case atStart => exact ⟨k + 1, 0, V, 1000000, Nat.zero_le _, (by first | rfl | exact vi (by push_cast; omega)), (by first | rfl | exact vi (by omega)), rfl, rfl, by simp [val], rfl, rfl⟩
          case round =>
            obtain ⟨k2, q, n, u, hq, rfl, rfl, rfl, hk2, hn, hu, hqa⟩ := hrel
            have hub : u ≤ 1000000 := by rw [hu]; exact Nat.le_trans (Nat.pow_le_pow_right (by omega) (show 6 - q ≤ 6 by omega)) (by decide)
            have hnb : n < 100000001000000 := by
              have h1 := frac_lt (f.take q) (by rw [List.length_take]; omega) hqa
              rw [List.length_take, Nat.min_eq_left (by have := HF.out; omega)] at h1
              omega
            have HN := Lib.hid hn
            have HU := Lib.hid hu
            have HQ := Lib.hid hqa
            have HK2 := Lib.hid hk2
            clear hn hu hqa
            by_cases hlt : q < F
            · have hks2 : k2 < s.size := by omega
              have hqf : q < f.length := by have := HF.out; omega
              have hsk := get_f HS.out q k2 hqf (by rw [hk2, HL.out]; simp) hks2
              clear hk2
              by_cases hd : isd f[q] = true
              · obtain ⟨g1, g2⟩ := dig_of hd
                rw [← hsk] at g1 g2
                obtain ⟨u2, hu2⟩ : ∃ u2, u2 = 10 ^ (6 - (q + 1)) := ⟨_, rfl⟩
                have huu : u = 10 * u2 := by rw [HU.out, hu2, show 6 - q = 6 - (q + 1) + 1 by omega, Nat.pow_succ, Nat.mul_comm]
                have hud : (u : Int) / 10 = (u2 : Int) := by omega
                have hu26 : u2 ≤ 100000 := by omega
                obtain ⟨D, hD⟩ : ∃ D, D = u2 * dv s[k2] := ⟨_, rfl⟩
                have hdv : dv s[k2] ≤ 9 := by unfold dv; omega
                have hDb : D ≤ 900000 := by rw [hD]; exact Nat.le_trans (Nat.mul_le_mul hu26 hdv) (by decide)
                have hDI : (u2 : Int) * ((s[k2].toNat : Int) - 48) = (D : Int) := by
                  rw [hD]
                  have : (s[k2].toNat : Int) - 48 = (dv s[k2] : Int) := by unfold dv; omega
                  rw [this]; push_cast; rfl
                have hnx : n + D = V + val (f.take (q + 1)) * 10 ^ (6 - (q + 1)) := by
                  rw [val_take f q hqf, HN.out, hD, ← hu2, hsk, ← HU.out, huu, Nat.add_mul]
                  have : val (f.take q) * (10 * u2) = 10 * val (f.take q) * u2 := by rw [← Nat.mul_assoc, Nat.mul_comm (val (f.take q)) 10]
                  rw [this, Nat.mul_comm u2]
                  omega
                have hqx : (f.take (q + 1)).all isd = true := by rw [all_take_succ _ _ _ hqf, HQ.out, hd]; rfl
                have HNX := Lib.hid hnx
                have HU2 := Lib.hid hu2
                have HQX := Lib.hid hqx
                clear hnx hu2 hqx huu hD hdv hsk hd
                go_wp2_with fail
                exact ⟨⟨k2 + 1, q + 1, n + D, u2, by omega, by go_num, vi (by push_cast; omega), (by first | rfl | exact vi hud), by have := HK2.out; omega, HNX.out, HU2.out, HQX.out⟩, by have := HK2.out; simp [intOf]; omega⟩
              · have hf : f.all isd = false := all_false _ _ q hqf (by simpa using hd)
                have hr : R = (0, 6) := by rw [HR1.out, if_neg (by rw [hf]; decide)]
                subst hr
                rw [Bool.not_eq_true] at hd
                have g := dig_not hd
                rw [← hsk] at g
                clear hd hf hsk
                rcases g with g | g
                · go_wp2_with fail
                  go_ret2
                  exact ⟨rfl, rfl⟩
                · have g2 : ¬ s[k2].toNat < 48 := by omega
                  go_wp2_with fail
                  go_ret2
                  exact ⟨rfl, rfl⟩
            · obtain rfl : F = q := by omega
              have hfl : f.take F = f := by rw [HF.out, List.take_length]
              have ha : f.all isd = true := by have := HQ.out; rwa [hfl] at this
              have hr : R = fin false n := by rw [HR1.out, if_pos ha, HN.out, hfl, HF.out]
              have HR := Lib.hid hr
              have hks2 : ¬ k2 < s.size := by omega
              clear ha hr hfl hk2
              by_cases hgt : 1000000000000 < n
              · have hr2 : R = (0, 2) := by rw [HR.out]; unfold fin; rw [if_pos hgt]
                subst hr2
                go_wp2_with fail
                go_ret2
                exact ⟨rfl, rfl⟩
              · have hr2 : R = ((n : Int), 0) := by rw [HR.out]; unfold fin; rw [if_neg hgt, if_neg (by simp)]
                subst hr2
                go_wp2_with fail
                go_ret2
                exact ⟨rfl, rfl⟩
        · skip
          go_wp2_with fail
          go_loop [4, 7, 9] (fun v4 v7 v9 => ∃ k2 q n u : Nat, q ≤ F ∧ v4 = .int .i64 k2 ∧ v7 = .int .i64 n ∧ v9 = .int .i64 u ∧ k2 = k + 1 + q ∧ n = V + val (f.take q) * 10 ^ (6 - q) ∧ u = 10 ^ (6 - q) ∧ (f.take q).all isd = true) (fun v4 _ _ => k + 1 + F - (intOf v4).toNat)
          case atStart => exact ⟨k + 1, 0, V, 1000000, Nat.zero_le _, (by first | rfl | exact vi (by push_cast; omega)), (by first | rfl | exact vi (by omega)), rfl, rfl, by simp [val], rfl, rfl⟩
          case round =>
            obtain ⟨k2, q, n, u, hq, rfl, rfl, rfl, hk2, hn, hu, hqa⟩ := hrel
            have hub : u ≤ 1000000 := by rw [hu]; exact Nat.le_trans (Nat.pow_le_pow_right (by omega) (show 6 - q ≤ 6 by omega)) (by decide)
            have hnb : n < 100000001000000 := by
              have h1 := frac_lt (f.take q) (by rw [List.length_take]; omega) hqa
              rw [List.length_take, Nat.min_eq_left (by have := HF.out; omega)] at h1
              omega
            have HN := Lib.hid hn
            have HU := Lib.hid hu
            have HQ := Lib.hid hqa
            have HK2 := Lib.hid hk2
            clear hn hu hqa
            by_cases hlt : q < F
            · have hks2 : k2 < s.size := by omega
              have hqf : q < f.length := by have := HF.out; omega
              have hsk := get_f HS.out q k2 hqf (by rw [hk2, HL.out]; simp) hks2
              clear hk2
              by_cases hd : isd f[q] = true
              · obtain ⟨g1, g2⟩ := dig_of hd
                rw [← hsk] at g1 g2
                obtain ⟨u2, hu2⟩ : ∃ u2, u2 = 10 ^ (6 - (q + 1)) := ⟨_, rfl⟩
                have huu : u = 10 * u2 := by rw [HU.out, hu2, show 6 - q = 6 - (q + 1) + 1 by omega, Nat.pow_succ, Nat.mul_comm]
                have hud : (u : Int) / 10 = (u2 : Int) := by omega
                have hu26 : u2 ≤ 100000 := by omega
                obtain ⟨D, hD⟩ : ∃ D, D = u2 * dv s[k2] := ⟨_, rfl⟩
                have hdv : dv s[k2] ≤ 9 := by unfold dv; omega
                have hDb : D ≤ 900000 := by rw [hD]; exact Nat.le_trans (Nat.mul_le_mul hu26 hdv) (by decide)
                have hDI : (u2 : Int) * ((s[k2].toNat : Int) - 48) = (D : Int) := by
                  rw [hD]
                  have : (s[k2].toNat : Int) - 48 = (dv s[k2] : Int) := by unfold dv; omega
                  rw [this]; push_cast; rfl
                have hnx : n + D = V + val (f.take (q + 1)) * 10 ^ (6 - (q + 1)) := by
                  rw [val_take f q hqf, HN.out, hD, ← hu2, hsk, ← HU.out, huu, Nat.add_mul]
                  have : val (f.take q) * (10 * u2) = 10 * val (f.take q) * u2 := by rw [← Nat.mul_assoc, Nat.mul_comm (val (f.take q)) 10]
                  rw [this, Nat.mul_comm u2]
                  omega
                have hqx : (f.take (q + 1)).all isd = true := by rw [all_take_succ _ _ _ hqf, HQ.out, hd]; rfl
                have HNX := Lib.hid hnx
                have HU2 := Lib.hid hu2
                have HQX := Lib.hid hqx
                clear hnx hu2 hqx huu hD hdv hsk hd
                go_wp2_with fail
                exact ⟨⟨k2 + 1, q + 1, n + D, u2, by omega, by go_num, vi (by push_cast; omega), (by first | rfl | exact vi hud), by have := HK2.out; omega, HNX.out, HU2.out, HQX.out⟩, by have := HK2.out; simp [intOf]; omega⟩
              · have hf : f.all isd = false := all_false _ _ q hqf (by simpa using hd)
                have hr : R = (0, 6) := by rw [HR1.out, if_neg (by rw [hf]; decide)]
                subst hr
                rw [Bool.not_eq_true] at hd
                have g := dig_not hd
                rw [← hsk] at g
                clear hd hf hsk
                rcases g with g | g
                · go_wp2_with fail
                  go_ret2
                  exact ⟨rfl, rfl⟩
                · have g2 : ¬ s[k2].toNat < 48 := by omega
                  go_wp2_with fail
                  go_ret2
                  exact ⟨rfl, rfl⟩
            · obtain rfl : F = q := by omega
              have hfl : f.take F = f := by rw [HF.out, List.take_length]
              have ha : f.all isd = true := by have := HQ.out; rwa [hfl] at this
              have hr : R = fin false n := by rw [HR1.out, if_pos ha, HN.out, hfl, HF.out]
              have HR := Lib.hid hr
              have hks2 : ¬ k2 < s.size := by omega
              clear ha hr hfl hk2
              by_cases hgt : 1000000000000 < n
              · have hr2 : R = (0, 2) := by rw [HR.out]; unfold fin; rw [if_pos hgt]
                subst hr2
                go_wp2_with fail
                go_ret2
                exact ⟨rfl, rfl⟩
              · have hr2 : R = ((n : Int), 0) := by rw [HR.out]; unfold fin; rw [if_neg hgt, if_neg (by simp)]
                subst hr2
                go_wp2_with fail
                go_ret2
                exact ⟨rfl, rfl⟩
      · have g2 : ¬ s[k].toNat < 48 := by omega
        have hc46 : c ≠ 46 := by
          intro e
          have := HSK.out
          rw [this, e] at g
          exact absurd g (by decide)
        have hN7 : ¬ 7 < (k : Int) := by omega
        by_cases h0 : k = 0
        · have hr : R = (0, 6) := by rw [HRU.out]; exact psrU_bad HTW.out (.inl (by have := HL.out; omega))
          subst hr
          have h0I : (((k : Nat) : Int) == 0) = true := by rw [h0]; rfl
          clear h0
          go_wp2_with fail
          all_goals go_ret2
          all_goals exact ⟨rfl, rfl⟩
        have h0I : (((k : Nat) : Int) == 0) = false := by rw [beq_eq_false_iff_ne]; omega
        have hb0 : 0 < s.size := by omega
        have hs0 := get_i HS.out 0 0 (by have := HL.out; omega) rfl hb0
        have hhd : i.head? = some s[0] := by rw [hs0, List.head?_eq_getElem?, List.getElem?_eq_getElem (by have := HL.out; omega)]
        clear hs0
        by_cases h1 : 1 < k ∧ s[0] = 48
        · have hr : R = (0, 6) := by rw [HRU.out]; exact psrU_bad HTW.out (.inr (.inr ⟨by have := HL.out; omega, by rw [hhd, h1.2]⟩))
          subst hr
          obtain ⟨h1, h2⟩ := h1
          have h48 : (s[0].toNat : Int) = 48 := by rw [h2]; rfl
          clear h2 hhd h0
          go_wp2_with fail
          go_ret2
          exact ⟨rfl, rfl⟩
        have hno : ¬ (i.length = 0 ∨ 7 < i.length ∨ (1 < i.length ∧ i.head? = some 48)) := by
          have hLL := HL.out
          rintro (h | h | ⟨h, h2⟩)
          · omega
          · omega
          · rw [hhd] at h2; injection h2 with h2; exact h1 ⟨by omega, h2⟩
        have h48 : ¬ 1 < k ∨ (1 < k ∧ ((s[0].toNat : Int) == 48) = false) := by
          by_cases h : 1 < k
          · refine .inr ⟨h, ?_⟩
            rw [beq_eq_false_iff_ne]
            intro e
            exact h1 ⟨h, UInt8.toNat_inj.1 (by have : (48 : UInt8).toNat = 48 := rfl; omega)⟩
          · exact .inl h
        clear hhd h1 h0
        have hr : R = (0, 6) := by rw [HRU.out, psrU_cons HTW.out HDW.out hno]; exact if_neg (fun h => hc46 h.1)
        subst hr
        have hcI : ((s[k].toNat : Int) == 46) = false := by rw [beq_eq_false_iff_ne]; omega
        clear hno hc46
        rcases h48 with h1n | ⟨h1n, h48⟩
        · skip
          go_wp2_with fail
          all_goals go_ret2
          all_goals exact ⟨rfl, rfl⟩
        · skip
          go_wp2_with fail
          all_goals go_ret2
          all_goals exact ⟨rfl, rfl⟩
end Go.Proofs.YtnkhmhcgcmacgaaDoor.M3r
