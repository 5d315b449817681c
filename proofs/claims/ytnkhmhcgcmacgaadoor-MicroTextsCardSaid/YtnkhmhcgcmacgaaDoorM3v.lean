/- Walks: the reference of fixed-point numbers: Parse. -/
import Derived.Test.YtnkhmhcgcmacgaaDoorM3u
namespace Go.Proofs.YtnkhmhcgcmacgaaDoor.M3r
open Go.RowKit Go.Proofs.YtnkhmhcgcmacgaaDoor.Mem Go.Proofs.YtnkhmhcgcmacgaaDoor.M3p Go.Proofs.YtnkhmhcgcmacgaaDoor.F2p
set_option maxRecDepth 100000
set_option maxHeartbeats 8000000

theorem get_bl (s : ByteArray) (k : Nat) (hk : k < s.size) {x : UInt8} (h : (bl s)[k]? = some x) : s[k] = x := by
  have h1 : (bl s)[k]? = some s[k] := by rw [List.getElem?_eq_getElem (by rw [bl_len]; exact hk)]; rfl
  rw [h1] at h
  injection h
theorem get_i {s : ByteArray} {pre i d : List UInt8} (h : bl s = pre ++ (i ++ d)) (j k : Nat) (hj : j < i.length) (hk : k = pre.length + j) (hks : k < s.size) : s[k] = i[j] := by
  refine get_bl s k hks ?_
  subst hk
  rw [h, List.getElem?_append_right (by omega), List.getElem?_append_left (by omega), Nat.add_sub_cancel_left, List.getElem?_eq_getElem hj]
theorem get_d {s : ByteArray} {pre i f : List UInt8} {c : UInt8} (h : bl s = pre ++ (i ++ c :: f)) (k : Nat) (hk : k = pre.length + i.length) (hks : k < s.size) : s[k] = c := by
  refine get_bl s k hks ?_
  subst hk
  rw [h, List.getElem?_append_right (by omega), List.getElem?_append_right (by omega), show pre.length + i.length - pre.length - i.length = 0 by omega]
  rfl
theorem get_f {s : ByteArray} {pre i f : List UInt8} {c : UInt8} (h : bl s = pre ++ (i ++ c :: f)) (q k : Nat) (hq : q < f.length) (hk : k = pre.length + i.length + 1 + q) (hks : k < s.size) : s[k] = f[q] := by
  refine get_bl s k hks ?_
  subst hk
  rw [h, List.getElem?_append_right (by omega), List.getElem?_append_right (by omega), show pre.length + i.length + 1 + q - pre.length - i.length = q + 1 by omega, List.getElem?_cons_succ, List.getElem?_eq_getElem hq]
theorem dig_of {x : UInt8} (h : isd x = true) : 48 ≤ x.toNat ∧ x.toNat ≤ 57 := by unfold isd at h; rwa [decide_eq_true_eq] at h
theorem dig_not {x : UInt8} (h : isd x = false) : x.toNat < 48 ∨ 57 < x.toNat := by unfold isd at h; rw [decide_eq_false_iff_not] at h; omega
theorem val_take (l : List UInt8) (j : Nat) (hj : j < l.length) : val (l.take (j + 1)) = 10 * val (l.take j) + dv l[j] := by
  rw [List.take_succ_eq_append_getElem hj, val_snoc]
/-- The parts of a text behind the sign: its digits, and what follows. -/
theorem parts (r : List UInt8) : ∃ i d, r = i ++ d ∧ (∀ x ∈ i, isd x = true) ∧ r.takeWhile isd = i ∧ r.dropWhile isd = d ∧ (d = [] ∨ ∃ c f, d = c :: f ∧ isd c = false) := by
  refine ⟨_, _, (List.takeWhile_append_dropWhile (p := isd)).symm, while_all r, rfl, rfl, ?_⟩
  rcases hd : r.dropWhile isd with _ | ⟨c, f⟩
  · exact .inl rfl
  · have := List.head?_dropWhile_not isd r
    rw [hd] at this
    exact .inr ⟨c, f, rfl, by simpa using this⟩
theorem psrU_bad {neg : Bool} {r i : List UInt8} (hi : r.takeWhile isd = i) (h : i.length = 0 ∨ 7 < i.length ∨ (1 < i.length ∧ i.head? = some 48)) : psrU neg r = (0, 6) := by
  unfold psrU; rw [hi, if_pos h]
theorem psrU_nil {neg : Bool} {r i : List UInt8} (hi : r.takeWhile isd = i) (hd : r.dropWhile isd = []) (h : ¬ (i.length = 0 ∨ 7 < i.length ∨ (1 < i.length ∧ i.head? = some 48))) : psrU neg r = fin neg (val i * 1000000) := by
  unfold psrU; rw [hi, hd, if_neg h]
theorem psrU_cons {neg : Bool} {r i f : List UInt8} {c : UInt8} (hi : r.takeWhile isd = i) (hd : r.dropWhile isd = c :: f) (h : ¬ (i.length = 0 ∨ 7 < i.length ∨ (1 < i.length ∧ i.head? = some 48))) :
    psrU neg r = if c = 46 ∧ 1 ≤ f.length ∧ f.length ≤ 6 ∧ f.all isd = true then fin neg (val i * 1000000 + val f * 10 ^ (6 - f.length)) else (0, 6) := by
  unfold psrU; rw [hi, hd, if_neg h]
theorem pr0a (s : ByteArray) (r i d : List UInt8) (L : Nat) (w : World) (hs : s.size ≤ 100000) (hz : 0 < s.size) (h45 : ((s[0].toNat : Int) == 45) = false)
    (HS : Hid (bl s = [] ++ (i ++ d))) (HI : Hid (∀ x ∈ i, isd x = true)) (HTW : Hid (r.takeWhile isd = i)) (HL : Hid (L = i.length)) (hle : 0 + L ≤ s.size) (h8 : 8 ≤ L)
    (R : Int × Int) (HRU : Hid (R = psrU false r)) :
    Calls Tryd.prog 32 #[.string s] w fun e w' => e = .returned (.tuple #[.int .i64 R.1, .int .i64 R.2]) ∧ w = w' := by
  have hr : R = (0, 6) := by rw [HRU.out]; exact psrU_bad HTW.out (.inr (.inl (by have := HL.out; omega)))
  subst hr
  go_enter Tryd.func32, Tryd.ntmps32
  go_wp2_with fail
  go_loop [4, 7] (fun v4 v7 => ∃ k j m : Nat, j ≤ 8 ∧ v4 = .int .i64 k ∧ v7 = .int .i64 m ∧ k = 0 + j ∧ m = val (i.take j)) (fun v4 _ => 0 + 8 - (intOf v4).toNat)
  case atStart => exact ⟨0, 0, 0, Nat.zero_le _, rfl, rfl, rfl, rfl⟩
  case round =>
    obtain ⟨k, j, m, hj, rfl, rfl, hk, hm⟩ := hrel
    have HM := Lib.hid hm
    have hmb : m < 100000000 := by
      have h1 := val_lt (i.take j) (fun x hx => HI.out x (List.mem_of_mem_take hx))
      have h2 : 10 ^ (i.take j).length ≤ 10 ^ 8 := Nat.pow_le_pow_right (by omega) (by rw [List.length_take]; omega)
      omega
    clear hm
    by_cases hlt : j < 8
    · have hji : j < i.length := by have := HL.out; omega
      have hks : k < s.size := by omega
      have hkI : (k : Int) < 8 := by omega
      have hsk := get_i HS.out j k hji (by rw [hk]; rfl) hks
      obtain ⟨g1, g2⟩ := dig_of (HI.out i[j] (List.getElem_mem hji))
      rw [← hsk] at g1 g2
      have hnx : 10 * m + dv s[k] = val (i.take (j + 1)) := by rw [val_take i j hji, ← HM.out, hsk]
      have hnv : ∀ z : Int, z = 10 * (m : Int) + ((s[k].toNat : Int) - 48) → z = ((10 * m + dv s[k] : Nat) : Int) := by
        intro z hz
        have : dv s[k] = s[k].toNat - 48 := rfl
        omega
      have HX := Lib.hid hnx
      have HNV := Lib.hid hnv
      have HK := Lib.hid hk
      clear hnx hnv hsk hk
      go_wp2_with fail
      exact ⟨⟨k + 1, j + 1, 10 * m + dv s[k], by omega, by go_num, vi (HNV.out _ (by omega)), by have := HK.out; omega, HX.out⟩, by have := HK.out; simp [intOf]; omega⟩
    · obtain rfl : j = 8 := by omega
      clear HS HI HM
      go_wp2_with fail
      all_goals go_ret2
      all_goals exact ⟨rfl, rfl⟩
theorem pr1a (s : ByteArray) (r i d : List UInt8) (L : Nat) (w : World) (hs : s.size ≤ 100000) (hz : 0 < s.size) (h45 : (s[0].toNat : Int) = 45)
    (HS : Hid (bl s = [45] ++ (i ++ d))) (HI : Hid (∀ x ∈ i, isd x = true)) (HTW : Hid (r.takeWhile isd = i)) (HL : Hid (L = i.length)) (hle : 1 + L ≤ s.size) (h8 : 8 ≤ L)
    (R : Int × Int) (HRU : Hid (R = psrU true r)) :
    Calls Tryd.prog 32 #[.string s] w fun e w' => e = .returned (.tuple #[.int .i64 R.1, .int .i64 R.2]) ∧ w = w' := by
  have hr : R = (0, 6) := by rw [HRU.out]; exact psrU_bad HTW.out (.inr (.inl (by have := HL.out; omega)))
  subst hr
  go_enter Tryd.func32, Tryd.ntmps32
  go_wp2_with fail
  go_loop [4, 7] (fun v4 v7 => ∃ k j m : Nat, j ≤ 8 ∧ v4 = .int .i64 k ∧ v7 = .int .i64 m ∧ k = 1 + j ∧ m = val (i.take j)) (fun v4 _ => 1 + 8 - (intOf v4).toNat)
  case atStart => exact ⟨1, 0, 0, Nat.zero_le _, rfl, rfl, rfl, rfl⟩
  case round =>
    obtain ⟨k, j, m, hj, rfl, rfl, hk, hm⟩ := hrel
    have HM := Lib.hid hm
    have hmb : m < 100000000 := by
      have h1 := val_lt (i.take j) (fun x hx => HI.out x (List.mem_of_mem_take hx))
      have h2 : 10 ^ (i.take j).length ≤ 10 ^ 8 := Nat.pow_le_pow_right (by omega) (by rw [List.length_take]; omega)
      omega
    clear hm
    by_cases hlt : j < 8
    · have hji : j < i.length := by have := HL.out; omega
      have hks : k < s.size := by omega
      have hkI : (k : Int) - 1 < 8 := by omega
      have hsk := get_i HS.out j k hji (by rw [hk]; rfl) hks
      obtain ⟨g1, g2⟩ := dig_of (HI.out i[j] (List.getElem_mem hji))
      rw [← hsk] at g1 g2
      have hnx : 10 * m + dv s[k] = val (i.take (j + 1)) := by rw [val_take i j hji, ← HM.out, hsk]
      have hnv : ∀ z : Int, z = 10 * (m : Int) + ((s[k].toNat : Int) - 48) → z = ((10 * m + dv s[k] : Nat) : Int) := by
        intro z hz
        have : dv s[k] = s[k].toNat - 48 := rfl
        omega
      have HX := Lib.hid hnx
      have HNV := Lib.hid hnv
      have HK := Lib.hid hk
      clear hnx hnv hsk hk
      go_wp2_with fail
      exact ⟨⟨k + 1, j + 1, 10 * m + dv s[k], by omega, by go_num, vi (HNV.out _ (by omega)), by have := HK.out; omega, HX.out⟩, by have := HK.out; simp [intOf]; omega⟩
    · obtain rfl : j = 8 := by omega
      have hkL : (k : Int) - 1 = 8 := by omega
      clear HS HI HM
      go_wp2_with fail
      all_goals go_ret2
      all_goals exact ⟨rfl, rfl⟩
theorem pr0b (s : ByteArray) (r i d : List UInt8) (L : Nat) (w : World) (hs : s.size ≤ 100000) (hz : 0 < s.size) (h45 : ((s[0].toNat : Int) == 45) = false)
    (HS : Hid (bl s = [] ++ (i ++ d))) (HI : Hid (∀ x ∈ i, isd x = true)) (HTW : Hid (r.takeWhile isd = i)) (HL : Hid (L = i.length)) (hle : 0 + L ≤ s.size) (HDW : Hid (r.dropWhile isd = [])) (hd1 : s.size ≤ 0 + L) (h8 : L < 8)
    (R : Int × Int) (HRU : Hid (R = psrU false r)) :
    Calls Tryd.prog 32 #[.string s] w fun e w' => e = .returned (.tuple #[.int .i64 R.1, .int .i64 R.2]) ∧ w = w' := by
  go_enter Tryd.func32, Tryd.ntmps32
  go_wp2_with fail
  go_loop [4, 7] (fun v4 v7 => ∃ k j m : Nat, j ≤ L ∧ v4 = .int .i64 k ∧ v7 = .int .i64 m ∧ k = 0 + j ∧ m = val (i.take j)) (fun v4 _ => 0 + L - (intOf v4).toNat)
  case atStart => exact ⟨0, 0, 0, Nat.zero_le _, rfl, rfl, rfl, rfl⟩
  case round =>
    obtain ⟨k, j, m, hj, rfl, rfl, hk, hm⟩ := hrel
    have HM := Lib.hid hm
    have hmb : m < 100000000 := by
      have h1 := val_lt (i.take j) (fun x hx => HI.out x (List.mem_of_mem_take hx))
      have h2 : 10 ^ (i.take j).length ≤ 10 ^ 8 := Nat.pow_le_pow_right (by omega) (by rw [List.length_take]; omega)
      omega
    clear hm
    by_cases hlt : j < L
    · have hji : j < i.length := by have := HL.out; omega
      have hks : k < s.size := by omega
      have hkI : (k : Int) < 8 := by omega
      have hsk := get_i HS.out j k hji (by rw [hk]; rfl) hks
      obtain ⟨g1, g2⟩ := dig_of (HI.out i[j] (List.getElem_mem hji))
      rw [← hsk] at g1 g2
      have hnx : 10 * m + dv s[k] = val (i.take (j + 1)) := by rw [val_take i j hji, ← HM.out, hsk]
      have hnv : ∀ z : Int, z = 10 * (m : Int) + ((s[k].toNat : Int) - 48) → z = ((10 * m + dv s[k] : Nat) : Int) := by
        intro z hz
        have : dv s[k] = s[k].toNat - 48 := rfl
        omega
      have HX := Lib.hid hnx
      have HNV := Lib.hid hnv
      have HK := Lib.hid hk
      clear hnx hnv hsk hk
      go_wp2_with fail
      exact ⟨⟨k + 1, j + 1, 10 * m + dv s[k], by omega, by go_num, vi (HNV.out _ (by omega)), by have := HK.out; omega, HX.out⟩, by have := HK.out; simp [intOf]; omega⟩
    · obtain rfl : L = j := by omega
      have hVM : m = val i := by rw [HM.out, HL.out, List.take_length]
      have HVM := Lib.hid hVM
      clear hVM HM
      obtain rfl : k = L := by omega
      clear hk
      have hN7 : ¬ 7 < (k : Int) := by omega
      by_cases h0 : k = 0
      · have hr : R = (0, 6) := by rw [HRU.out]; exact psrU_bad HTW.out (.inl (by have := HL.out; omega))
        subst hr
        have h0I : (((k : Nat) : Int) == 0) = true := by rw [h0]; rfl
        clear h0
        go_wp2_with fail
        all_goals go_ret2
        all_goals exact ⟨rfl, rfl⟩
      have h0I : (((k : Nat) : Int) == 0) = false := by rw [beq_eq_false_iff_ne]; omega
      have hb0 : 0 < s.size := by omega
      have hs0 := get_i HS.out 0 0 (by have := HL.out; omega) rfl hb0
      have hhd : i.head? = some s[0] := by rw [hs0, List.head?_eq_getElem?, List.getElem?_eq_getElem (by have := HL.out; omega)]
      clear hs0
      by_cases h1 : 1 < k ∧ s[0] = 48
      · have hr : R = (0, 6) := by rw [HRU.out]; exact psrU_bad HTW.out (.inr (.inr ⟨by have := HL.out; omega, by rw [hhd, h1.2]⟩))
        subst hr
        obtain ⟨h1, h2⟩ := h1
        have h48 : (s[0].toNat : Int) = 48 := by rw [h2]; rfl
        clear h2 hhd h0
        go_wp2_with fail
        go_ret2
        exact ⟨rfl, rfl⟩
      have hno : ¬ (i.length = 0 ∨ 7 < i.length ∨ (1 < i.length ∧ i.head? = some 48)) := by
        have hLL := HL.out
        rintro (h | h | ⟨h, h2⟩)
        · omega
        · omega
        · rw [hhd] at h2; injection h2 with h2; exact h1 ⟨by omega, h2⟩
      have h48 : ¬ 1 < k ∨ (1 < k ∧ ((s[0].toNat : Int) == 48) = false) := by
        by_cases h : 1 < k
        · refine .inr ⟨h, ?_⟩
          rw [beq_eq_false_iff_ne]
          intro e
          exact h1 ⟨h, UInt8.toNat_inj.1 (by have : (48 : UInt8).toNat = 48 := rfl; omega)⟩
        · exact .inl h
      clear hhd h1 h0
      have hr : R = fin false (val i * 1000000) := by rw [HRU.out]; exact psrU_nil HTW.out HDW.out hno
      obtain ⟨T, hT⟩ : ∃ T, T = val i * 1000000 := ⟨_, rfl⟩
      have hTm : (m : Int) * 1000000 = (T : Int) := by have := HVM.out; omega
      rw [← hT] at hr
      have HR := Lib.hid hr
      have hT13 : T < 100000000000000 := by have := HVM.out; omega
      clear hT hr hno
      rcases h48 with h1n | ⟨h1n, h48⟩
      · skip
        by_cases hgt : 1000000000000 < T
        · have hr2 : R = (0, 2) := by rw [HR.out]; unfold fin; rw [if_pos hgt]
          subst hr2
          go_wp2_with fail
          go_ret2
          exact ⟨rfl, rfl⟩
        · have hr2 : R = ((T : Int), 0) := by rw [HR.out]; unfold fin; rw [if_neg hgt, if_neg (by simp)]
          subst hr2
          go_wp2_with fail
          go_ret2
          exact ⟨rfl, rfl⟩
      · skip
        by_cases hgt : 1000000000000 < T
        · have hr2 : R = (0, 2) := by rw [HR.out]; unfold fin; rw [if_pos hgt]
          subst hr2
          go_wp2_with fail
          go_ret2
          exact ⟨rfl, rfl⟩
        · have hr2 : R = ((T : Int), 0) := by rw [HR.out]; unfold fin; rw [if_neg hgt, if_neg (by simp)]
          subst hr2
          go_wp2_with fail
          go_ret2
          exact ⟨rfl, rfl⟩
theorem pr1b (s : ByteArray) (r i d : List UInt8) (L : Nat) (w : World) (hs : s.size ≤ 100000) (hz : 0 < s.size) (h45 : (s[0].toNat : Int) = 45)
    (HS : Hid (bl s = [45] ++ (i ++ d))) (HI : Hid (∀ x ∈ i, isd x = true)) (HTW : Hid (r.takeWhile isd = i)) (HL : Hid (L = i.length)) (hle : 1 + L ≤ s.size) (HDW : Hid (r.dropWhile isd = [])) (hd1 : s.size ≤ 1 + L) (h8 : L < 8)
    (R : Int × Int) (HRU : Hid (R = psrU true r)) :
    Calls Tryd.prog 32 #[.string s] w fun e w' => e = .returned (.tuple #[.int .i64 R.1, .int .i64 R.2]) ∧ w = w' := by
  go_enter Tryd.func32, Tryd.ntmps32
  go_wp2_with fail
  go_loop [4, 7] (fun v4 v7 => ∃ k j m : Nat, j ≤ L ∧ v4 = .int .i64 k ∧ v7 = .int .i64 m ∧ k = 1 + j ∧ m = val (i.take j)) (fun v4 _ => 1 + L - (intOf v4).toNat)
  case atStart => exact ⟨1, 0, 0, Nat.zero_le _, rfl, rfl, rfl, rfl⟩
  case round =>
    obtain ⟨k, j, m, hj, rfl, rfl, hk, hm⟩ := hrel
    have HM := Lib.hid hm
    have hmb : m < 100000000 := by
      have h1 := val_lt (i.take j) (fun x hx => HI.out x (List.mem_of_mem_take hx))
      have h2 : 10 ^ (i.take j).length ≤ 10 ^ 8 := Nat.pow_le_pow_right (by omega) (by rw [List.length_take]; omega)
      omega
    clear hm
    by_cases hlt : j < L
    · have hji : j < i.length := by have := HL.out; omega
      have hks : k < s.size := by omega
      have hkI : (k : Int) - 1 < 8 := by omega
      have hsk := get_i HS.out j k hji (by rw [hk]; rfl) hks
      obtain ⟨g1, g2⟩ := dig_of (HI.out i[j] (List.getElem_mem hji))
      rw [← hsk] at g1 g2
      have hnx : 10 * m + dv s[k] = val (i.take (j + 1)) := by rw [val_take i j hji, ← HM.out, hsk]
      have hnv : ∀ z : Int, z = 10 * (m : Int) + ((s[k].toNat : Int) - 48) → z = ((10 * m + dv s[k] : Nat) : Int) := by
        intro z hz
        have : dv s[k] = s[k].toNat - 48 := rfl
        omega
      have HX := Lib.hid hnx
      have HNV := Lib.hid hnv
      have HK := Lib.hid hk
      clear hnx hnv hsk hk
      go_wp2_with fail
      exact ⟨⟨k + 1, j + 1, 10 * m + dv s[k], by omega, by go_num, vi (HNV.out _ (by omega)), by have := HK.out; omega, HX.out⟩, by have := HK.out; simp [intOf]; omega⟩
    · obtain rfl : L = j := by omega
      have hVM : m = val i := by rw [HM.out, HL.out, List.take_length]
      have HVM := Lib.hid hVM
      clear hVM
      have hkL : (k : Int) - 1 = (L : Int) := by omega
      have hk1 : 1 + L ≤ k := by omega
      have hk2 : k ≤ 1 + L := by omega
      have HK := Lib.hid hk
      clear hk
      have hN7 : ¬ 7 < (L : Int) := by omega
      by_cases h0 : L = 0
      · have hr : R = (0, 6) := by rw [HRU.out]; exact psrU_bad HTW.out (.inl (by have := HL.out; omega))
        subst hr
        have h0I : (((L : Nat) : Int) == 0) = true := by rw [h0]; rfl
        clear h0
        go_wp2_with fail
        all_goals go_ret2
        all_goals exact ⟨rfl, rfl⟩
      have h0I : (((L : Nat) : Int) == 0) = false := by rw [beq_eq_false_iff_ne]; omega
      have hb0 : 1 < s.size := by omega
      have hs0 := get_i HS.out 0 1 (by have := HL.out; omega) rfl hb0
      have hhd : i.head? = some s[1] := by rw [hs0, List.head?_eq_getElem?, List.getElem?_eq_getElem (by have := HL.out; omega)]
      clear hs0
      by_cases h1 : 1 < L ∧ s[1] = 48
      · have hr : R = (0, 6) := by rw [HRU.out]; exact psrU_bad HTW.out (.inr (.inr ⟨by have := HL.out; omega, by rw [hhd, h1.2]⟩))
        subst hr
        obtain ⟨h1, h2⟩ := h1
        have h48 : (s[1].toNat : Int) = 48 := by rw [h2]; rfl
        clear h2 hhd h0
        go_wp2_with fail
        go_ret2
        exact ⟨rfl, rfl⟩
      have hno : ¬ (i.length = 0 ∨ 7 < i.length ∨ (1 < i.length ∧ i.head? = some 48)) := by
        have hLL := HL.out
        rintro (h | h | ⟨h, h2⟩)
        · omega
        · omega
        · rw [hhd] at h2; injection h2 with h2; exact h1 ⟨by omega, h2⟩
      have h48 : ¬ 1 < L ∨ (1 < L ∧ ((s[1].toNat : Int) == 48) = false) := by
        by_cases h : 1 < L
        · refine .inr ⟨h, ?_⟩
          rw [beq_eq_false_iff_ne]
          intro e
          exact h1 ⟨h, UInt8.toNat_inj.1 (by have : (48 : UInt8).toNat = 48 := rfl; omega)⟩
        · exact .inl h
      clear hhd h1 h0
      have hr : R = fin true (val i * 1000000) := by rw [HRU.out]; exact psrU_nil HTW.out HDW.out hno
      obtain ⟨T, hT⟩ : ∃ T, T = val i * 1000000 := ⟨_, rfl⟩
      have hTm : (m : Int) * 1000000 = (T : Int) := by have := HVM.out; omega
      rw [← hT] at hr
      have HR := Lib.hid hr
      have hT13 : T < 100000000000000 := by have := HVM.out; omega
      clear hT hr hno
      rcases h48 with h1n | ⟨h1n, h48⟩
      · skip
        by_cases hgt : 1000000000000 < T
        · have hr2 : R = (0, 2) := by rw [HR.out]; unfold fin; rw [if_pos hgt]
          subst hr2
          go_wp2_with fail
          go_ret2
          exact ⟨rfl, rfl⟩
        · have hr2 : R = (-(T : Int), 0) := by rw [HR.out]; unfold fin; rw [if_neg hgt, if_pos rfl]
          subst hr2
          go_wp2_with fail
          go_ret2
          exact ⟨rfl, rfl⟩
      · skip
        by_cases hgt : 1000000000000 < T
        · have hr2 : R = (0, 2) := by rw [HR.out]; unfold fin; rw [if_pos hgt]
          subst hr2
          go_wp2_with fail
          go_ret2
          exact ⟨rfl, rfl⟩
        · have hr2 : R = (-(T : Int), 0) := by rw [HR.out]; unfold fin; rw [if_neg hgt, if_pos rfl]
          subst hr2
          go_wp2_with fail
          go_ret2
          exact ⟨rfl, rfl⟩
end Go.Proofs.YtnkhmhcgcmacgaaDoor.M3r
