/- Walks: the program's package micro: Parse. -/
import Derived.Test.YtnkhmhcgcmacgaaDoorM3y
namespace Go.Proofs.YtnkhmhcgcmacgaaDoor.M3w
open Go.RowKit Go.Proofs.YtnkhmhcgcmacgaaDoor.Mem Go.Proofs.YtnkhmhcgcmacgaaDoor.M3p Go.Proofs.YtnkhmhcgcmacgaaDoor.M3r Go.Proofs.YtnkhmhcgcmacgaaDoor.F2p
set_option maxRecDepth 100000
set_option maxHeartbeats 1000000

theorem conv_bytes (s : ByteArray) (w : World) (hs : s.size ≤ 100000) : ∃ c w', (convert 9 60 (.string s)).run Tryd.prog w = .ok (.slice (some ⟨w.heap.size, 0, none⟩) s.size c) w' ∧ Sl w' (some ⟨w.heap.size, 0, none⟩) s.size c (bl s) ∧ Below w.heap.size w w' := by
  have h := run_bytes_of_string (P := Tryd.prog) w 9 60 5 s Tryd.underlying9 Tryd.underlying60 Tryd.underlying5
  have hge := grownCap_ge w s.size 0 5
  have hle := grownCap_le_maxLen w s.size 0 5 (by unfold maxLen; omega)
  generalize grownCap w s.size 0 5 = c at *
  refine ⟨c, _, h, ⟨(bl_len s).symm, ?_, hge, hle, fun hh => by cases hh⟩, ?_⟩
  · have h1 := (Rd.new w.drew (bytesRow s c) 5 ((bytesRow s c).size, (bytesRow s c).size + 1)).take s.size
    have h2 : (bytesRow s c).toList.take s.size = bvs (bl s) := by
      unfold bytesRow
      rw [Array.toList_append, List.take_left' (by simp)]
      simp [bvs, bl, bv]
    rw [h2] at h1
    exact h1.more (by simp)
  · exact ((⟨rfl, rfl, rfl, Nat.le_refl _, fun _ _ => rfl⟩ : Below w.heap.size w w.drew)).alloc (Nat.le_refl _) _
theorem split_pt (l : List UInt8) : (∀ x ∈ l, notpt x = true) ∨ ∃ i f, l = i ++ 46 :: f ∧ ∀ x ∈ i, notpt x = true := by
  induction l with
  | nil => exact .inl (fun x hx => by cases hx)
  | cons a l ih =>
    by_cases ha : a = 46
    · subst ha
      exact .inr ⟨[], l, rfl, fun x hx => by cases hx⟩
    · have hn : notpt a = true := decide_eq_true ha
      rcases ih with h | ⟨i, f, rfl, h⟩
      · exact .inl fun x hx => by
          rcases List.mem_cons.1 hx with rfl | hx
          · exact hn
          · exact h x hx
      · exact .inr ⟨a :: i, f, rfl, fun x hx => by
          rcases List.mem_cons.1 hx with rfl | hx
          · exact hn
          · exact h x hx⟩
theorem cutp_any (s : ByteArray) (w : World) :
    Calls Tryd.prog 39 #[.string s, .string ⟨#[45]⟩] w fun e w' => (∃ (t : ByteArray) (b : Bool), e = .returned (.tuple #[.string t, .bool b]) ∧ psr (bl s) = psrU b (bl t) ∧ t.size ≤ s.size) ∧ w = w' := by
  by_cases h : (bl s).head? = some 45
  · rcases hb : bl s with _ | ⟨x, r⟩
    · rw [hb] at h; cases h
    · rw [hb] at h
      injection h with h
      subst h
      have ht : bl s = 45 :: bl ⟨r.toArray⟩ := by rw [hb]; rfl
      refine (cutp_yes s ⟨r.toArray⟩ w ht).mono ?_
      rintro e w' ⟨rfl, rfl⟩
      refine ⟨⟨_, _, rfl, ?_, ?_⟩, rfl⟩
      · rw [← hb, ht, psr_cons]
      · rw [← bl_len s, ← bl_len, ht, List.length_cons]; omega
  · refine (cutp_no s w h).mono ?_
    rintro e w' ⟨rfl, rfl⟩
    exact ⟨⟨_, _, rfl, psr_plain h, Nat.le_refl _⟩, rfl⟩
theorem cut_any (s : ByteArray) (w : World) (hs : s.size ≤ 100000) :
    Calls Tryd.prog 40 #[.string s, .string ⟨#[46]⟩] w fun e w' => (∃ (a f : ByteArray) (pt : Bool), e = .returned (.tuple #[.string a, .string f, .bool pt]) ∧ (∀ neg, psrU neg (bl s) = psrC neg (bl a) pt (bl f)) ∧ a.size ≤ s.size ∧ f.size ≤ s.size ∧ (pt = false → f = ⟨#[]⟩)) ∧ Below w.heap.size w w' := by
  rcases split_pt (bl s) with h | ⟨i, f, hb, h⟩
  · refine (cut_no s w h).mono ?_
    rintro e w' ⟨rfl, rfl⟩
    exact ⟨⟨_, _, _, rfl, fun neg => psrU_whole neg _ h, Nat.le_refl _, Nat.zero_le _, fun _ => rfl⟩, Below.refl _ _⟩
  · have ht : bl s = bl ⟨i.toArray⟩ ++ 46 :: bl ⟨f.toArray⟩ := by rw [hb]; rfl
    have hz : s.size = i.length + 1 + f.length := by rw [← bl_len, hb, List.length_append, List.length_cons]; omega
    refine (cut_yes s ⟨i.toArray⟩ ⟨f.toArray⟩ w ht h hs).mono ?_
    rintro e w' ⟨rfl, k, rfl⟩
    refine ⟨⟨_, _, _, rfl, fun neg => ?_, ?_, ?_, fun hh => by cases hh⟩, ⟨rfl, rfl, rfl, Nat.le_refl _, fun _ _ => rfl⟩⟩
    · rw [hb]; exact psrU_point neg i f h
    · rw [← bl_len ⟨i.toArray⟩]; show i.length ≤ _; omega
    · rw [← bl_len ⟨f.toArray⟩]; show f.length ≤ _; omega
theorem only_p (s : ByteArray) (w : World) (hs : s.size ≤ 100000) :
    Calls Tryd.prog 48 #[.string s] w fun e w' => e = .returned (.bool ((bl s).all isd && decide (bl s ≠ []))) ∧ Below w.heap.size w w' := by
  obtain ⟨c, w1, hcv, hsl, hb⟩ := conv_bytes s w hs
  go_enter Tryd.func48, Tryd.ntmps48
  go_wp2_with fail
  go_loop [8] (fun i => ∃ j : Nat, j ≤ s.size ∧ i = .int .i64 j ∧ ((bl s).take j).all isd = true) (fun i => s.size - (intOf i).toNat)
  case atStart => exact ⟨0, Nat.zero_le _, rfl, rfl⟩
  case round =>
    obtain ⟨j, hj, rfl, hok⟩ := hrel
    have HK := Lib.hid hok; clear hok
    by_cases hlt : j < s.size
    · have hjl : j < (bl s).length := by rw [bl_len]; exact hlt
      obtain ⟨a', ea, hab', hcell⟩ := row_at hsl.row hjl
      injection ea with ea
      subst ea
      rw [add_spot] at hcell
      have hx := (bl s)[j].toNat_lt
      by_cases hd : isd (bl s)[j] = true
      · have hd2 := hd
        unfold isd at hd2
        rw [decide_eq_true_eq] at hd2
        obtain ⟨d1, d2⟩ := hd2
        have HD := Lib.hid hd
        clear hd
        go_wp2_with fail
        refine ⟨⟨j + 1, by omega, by go_num, ?_⟩, by simp [intOf]; omega⟩
        rw [all_take_succ _ _ _ hjl, HK.out, HD.out]; rfl
      · have hf : (bl s).all isd = false := all_false _ _ j hjl (by simpa using hd)
        have hd2 : (bl s)[j].toNat < 48 ∨ 57 < (bl s)[j].toNat := by
          unfold isd at hd
          rw [decide_eq_true_eq] at hd
          omega
        have HF := Lib.hid hf; clear hf hd
        rcases hd2 with hd2 | hd2
        · go_wp2_with fail
          go_ret
          exact ⟨ret_bool (by rw [HF.out]; rfl), hb⟩
        · have hd3 : ¬ (bl s)[j].toNat < 48 := by omega
          go_wp2_with fail
          go_ret
          exact ⟨ret_bool (by rw [HF.out]; rfl), hb⟩
    · have ha : (bl s).all isd = true := by have := HK.out; rwa [List.take_of_length_le (by rw [bl_len]; omega)] at this
      have HA := Lib.hid ha; clear ha
      go_wp2_with fail
      go_ret
      refine ⟨ret_bool ?_, hb⟩
      rw [HA.out, Bool.true_and, toList_bl]
      rcases bl s with _ | ⟨x, r⟩
      · rfl
      · simp
theorem appd_p (v : Nat) (s : ByteArray) (w : World) (hd : (bl s).all isd = true) (hv : (v + 1) * 10 ^ s.size ≤ 1000000000000000) (hs : s.size ≤ 100000) :
    Calls Tryd.prog 43 #[.int .i64 (v : Int), .string s] w fun e w' => e = .returned (.int .i64 ((v * 10 ^ s.size + val (bl s) : Nat) : Int)) ∧ Below w.heap.size w w' := by
  obtain ⟨c, w1, hcv, hsl, hb⟩ := conv_bytes s w hs
  have HV := Lib.hid hv
  have HD := Lib.hid hd
  obtain ⟨R, hR⟩ : ∃ R : Nat, R = v * 10 ^ s.size + val (bl s) := ⟨_, rfl⟩
  rw [← hR]
  have HR := Lib.hid hR
  clear hd hv hR
  go_enter Tryd.func43, Tryd.ntmps43
  go_wp2_with fail
  go_loop [0, 10] (fun r i => ∃ j m : Nat, j ≤ s.size ∧ i = .int .i64 j ∧ r = .int .i64 m ∧ m = ((bl s).take j).foldl (fun v x => 10 * v + dv x) v) (fun _ i => s.size - (intOf i).toNat)
  case atStart => exact ⟨0, v, Nat.zero_le _, rfl, rfl, rfl⟩
  case round =>
    obtain ⟨j, m, hj, rfl, rfl, hm⟩ := hrel
    have HM := Lib.hid hm
    have hmb : m < 1000000000000000 := by
      have h1 := fold_lt ((bl s).take j) v (fun x hx => List.all_eq_true.1 HD.out x (List.mem_of_mem_take hx))
      rw [← hm] at h1
      have h2 : (v + 1) * 10 ^ ((bl s).take j).length ≤ (v + 1) * 10 ^ s.size := Nat.mul_le_mul_left _ (Nat.pow_le_pow_right (by omega) (by rw [List.length_take, bl_len]; omega))
      have := HV.out
      omega
    clear hm
    by_cases hlt : j < s.size
    · have hjl : j < (bl s).length := by rw [bl_len]; exact hlt
      obtain ⟨a', ea, hab', hcell⟩ := row_at hsl.row hjl
      injection ea with ea
      subst ea
      rw [add_spot] at hcell
      have hx := (bl s)[j].toNat_lt
      have hdj := List.all_eq_true.1 HD.out (bl s)[j] (List.getElem_mem hjl)
      unfold isd at hdj
      rw [decide_eq_true_eq] at hdj
      obtain ⟨d1, d2⟩ := hdj
      have hnx : 10 * m + dv (bl s)[j] = ((bl s).take (j + 1)).foldl (fun v x => 10 * v + dv x) v := by
        rw [List.take_succ_eq_append_getElem hjl, List.foldl_append, ← HM.out]; rfl
      have HX := Lib.hid hnx
      have hdv : ((bl s)[j].toNat : Int) - 48 = (dv (bl s)[j] : Int) := by unfold dv; omega
      have hdl : dv (bl s)[j] ≤ 9 := by unfold dv; omega
      have HDV := Lib.hid hdv
      have hval : ∀ z : Int, z = 10 * (m : Int) + (((bl s)[j].toNat : Int) - 48) → z = ((10 * m + dv (bl s)[j] : Nat) : Int) := by
        intro z hz
        rw [hz, HDV.out]; push_cast; rfl
      have HVAL := Lib.hid hval
      clear hnx hdv hval
      go_wp2_with fail
      exact ⟨⟨j + 1, 10 * m + dv (bl s)[j], by omega, by go_num, vi (HVAL.out _ (by omega)), HX.out⟩, by simp [intOf]; omega⟩
    · have ha : m = v * 10 ^ s.size + val (bl s) := by
        have := HM.out
        rw [List.take_of_length_le (by rw [bl_len]; omega), fold_acc, bl_len] at this
        exact this
      have HA := Lib.hid ha; clear ha
      go_wp2_with fail
      go_ret
      exact ⟨ret_int (by rw [HA.out, HR.out]), hb⟩
theorem whole_p (s : ByteArray) (w : World) (hs : s.size ≤ 100000) :
    Calls Tryd.prog 41 #[.string s] w fun e w' => e = .returned (.bool (wholeOk (bl s))) ∧ Below w.heap.size w w' := by
  have ho := Lib.hid (fun u => only_p s u hs)
  by_cases h1 : ((bl s).all isd && decide (bl s ≠ [])) = true
  · have HO := Lib.hid (fun u => by have := only_p s u hs; rw [h1] at this; exact this)
    clear ho
    rw [Bool.and_eq_true, decide_eq_true_eq] at h1
    obtain ⟨h1, h2⟩ := h1
    have hpos : 1 ≤ s.size := by rw [← bl_len]; rcases hb : bl s with _ | ⟨x, r⟩ <;> simp_all
    have hw : wholeOk (bl s) = (decide (s.size ≤ 7) && (decide (bl s = [48]) || decide ((bl s).head? ≠ some 48))) := by
      unfold wholeOk
      rw [h1, decide_eq_true h2, bl_len]; rfl
    rw [hw]
    by_cases h7 : s.size ≤ 7
    · rw [decide_eq_true h7, Bool.true_and]
      by_cases he : bl s = [48]
      · rw [decide_eq_true he, Bool.true_or]
        have hbe : (s.toList == [48]) = true := by rw [toList_bl, he]; rfl
        clear he h1 h2 hw
        go_enter Tryd.func41, Tryd.ntmps41
        go_wp2_with fail
        refine (HO.out _).mono ?_
        rintro e w' ⟨rfl, hb⟩
        go_wp2_with fail
        go_ret
        exact ⟨rfl, hb⟩
      · rw [decide_eq_false he, Bool.false_or]
        have hbe : (s.toList == [48]) = false := by rw [toList_bl, beq_eq_false_iff_ne]; exact he
        have hhd : decide ((bl s).head? ≠ some 48) = ((s[0].toNat : Int) != 48) := by
          have hh : (bl s).head? = some s[0] := by
            rw [List.head?_eq_getElem?, List.getElem?_eq_getElem (by rw [bl_len]; omega)]; rfl
          rw [hh]
          have hi : (some s[0] ≠ some 48) ↔ ¬ ((s[0].toNat : Int) = 48) := by
            constructor
            · intro h e; exact h (congrArg some (UInt8.toNat_inj.1 (by have : (48 : UInt8).toNat = 48 := rfl; omega)))
            · intro h e; injection e with e; rw [e] at h; exact h rfl
          rw [show decide (some s[0] ≠ some 48) = decide (¬ ((s[0].toNat : Int) = 48)) from decide_eq_decide.2 hi]
          by_cases hz : (s[0].toNat : Int) = 48
          · simp [hz]
          · simp [hz]
        rw [hhd]
        clear he h1 h2 hw hhd
        go_enter Tryd.func41, Tryd.ntmps41
        go_wp2_with fail
        refine (HO.out _).mono ?_
        rintro e w' ⟨rfl, hb⟩
        go_wp2_with fail
        go_ret
        exact ⟨rfl, hb⟩
    · rw [decide_eq_false h7, Bool.false_and]
      clear h1 h2 hw
      go_enter Tryd.func41, Tryd.ntmps41
      go_wp2_with fail
      refine (HO.out _).mono ?_
      rintro e w' ⟨rfl, hb⟩
      go_wp2_with fail
      go_ret
      exact ⟨rfl, hb⟩
  · rw [Bool.not_eq_true] at h1
    have HO := Lib.hid (fun u => by have := only_p s u hs; rw [h1] at this; exact this)
    have hw : wholeOk (bl s) = false := by
      unfold wholeOk
      rw [h1]; rfl
    rw [hw]
    clear h1 hw ho
    go_enter Tryd.func41, Tryd.ntmps41
    go_wp2_with fail
    refine (HO.out _).mono ?_
    rintro e w' ⟨rfl, hb⟩
    go_wp2_with fail
    go_ret
    exact ⟨rfl, hb⟩
theorem frac_p (s : ByteArray) (w : World) (hs : s.size ≤ 100000) :
    Calls Tryd.prog 42 #[.string s] w fun e w' => e = .returned (.bool (fracOk (bl s))) ∧ Below w.heap.size w w' := by
  have ho := Lib.hid (fun u => only_p s u hs)
  have hw : fracOk (bl s) = (((bl s).all isd && decide (bl s ≠ [])) && decide (s.size ≤ 6)) := by unfold fracOk; rw [bl_len]
  rw [hw]
  clear hw
  generalize ((bl s).all isd && decide (bl s ≠ [])) = B at *
  cases B
  · go_enter Tryd.func42, Tryd.ntmps42
    go_wp2_with fail
    refine (ho.out _).mono ?_
    rintro e w' ⟨rfl, hb⟩
    go_wp2_with fail
    go_ret
    exact ⟨rfl, hb⟩
  · go_enter Tryd.func42, Tryd.ntmps42
    go_wp2_with fail
    refine (ho.out _).mono ?_
    rintro e w' ⟨rfl, hb⟩
    go_wp2_with fail
    go_ret
    refine ⟨ret_bool ?_, hb⟩
    rw [Bool.true_and]
    exact decide_eq_decide.2 (by omega)
theorem pow_6 (k : Nat) (h : k ≤ 6) : 10 ^ k ≤ 1000000 := Nat.le_trans (Nat.pow_le_pow_right (by omega) h) (by decide)
theorem parse_p (s : ByteArray) (w : World) (hs : s.size ≤ 100000) :
    Calls Tryd.prog 31 #[.string s] w fun e w' => e = .returned (.tuple #[.int .i64 (psr (bl s)).1, .int .i64 (psr (bl s)).2]) ∧ Below w.heap.size w w' := by
  obtain ⟨R, hR⟩ : ∃ R, R = psr (bl s) := ⟨_, rfl⟩
  rw [← hR]
  have HP := Lib.hid (fun u => by have := cutp_any s u; rw [← hR] at this; exact this)
  clear hR
  go_enter Tryd.func31, Tryd.ntmps31
  go_wp2_with fail
  refine (HP.out _).mono ?_
  rintro e w0 ⟨⟨t, neg, rfl, hR, ht⟩, rfl⟩
  have HR := Lib.hid hR
  clear hR
  go_wp2_with fail
  refine (cut_any t _ (by omega)).mono ?_
  rintro e w1 ⟨⟨a, f, pt, rfl, hC, ha, hf, hpf⟩, hb1⟩
  have HR2 := Lib.hid (HR.out.trans (hC neg))
  clear HR hC
  go_wp2_with fail
  refine (whole_p a _ (by omega)).mono ?_
  rintro e w2 ⟨rfl, hb2⟩
  have hb2 : Below w.heap.size w w2 := hb1.trans (hb2.mono hb1.size)
  rcases hw : wholeOk (bl a) with _ | _
  · have hr : R = (0, 6) := by rw [HR2.out]; exact psrC_no (fun h => by rw [hw] at h; exact absurd h.1 (by decide))
    subst hr
    go_wp2_with fail
    go_ret2
    exact ⟨rfl, hb2⟩
  have hwo := hw
  unfold wholeOk at hwo
  simp only [Bool.and_eq_true, decide_eq_true_eq, bl_len] at hwo
  obtain ⟨⟨⟨hda, -⟩, ha7⟩, -⟩ := hwo
  rcases pt with _ | _
  · obtain rfl := hpf rfl
    have hr : R = fin neg (val (bl a) * 1000000 + val (bl (⟨#[]⟩ : ByteArray)) * 10 ^ (6 - (⟨#[]⟩ : ByteArray).size)) := by rw [HR2.out]; exact psrC_yes hw (fun h => by cases h)
    have hdf : (bl (⟨#[]⟩ : ByteArray)).all isd = true := rfl
    obtain ⟨f, hfe⟩ : ∃ f : ByteArray, f = ⟨#[]⟩ := ⟨_, rfl⟩
    rw [← hfe] at hr hdf
    rw [← hfe]
    have hf6 : f.size ≤ 6 := by rw [hfe]; decide
    have hfz : (f.size : Int) ≤ 6 := by omega
    clear hpf hf HR2 hfe
    clear hw
    go_wp2_with fail

    refine (appd_p 0 a _ hda (by rw [Nat.zero_add, Nat.one_mul]; exact Nat.le_trans (Nat.pow_le_pow_right (by omega) ha7) (by decide)) (by omega)).mono ?_
    rintro e w4 ⟨rfl, hb4⟩
    have hb4 : Below w.heap.size w w4 := (hb2).trans (hb4.mono (hb2).size)
    rw [Nat.zero_mul, Nat.zero_add]
    have hva : val (bl a) < 10000000 := by
      have h1 := val_lt (bl a) (fun x hx => List.all_eq_true.1 hda x hx)
      have h2 : 10 ^ (bl a).length ≤ 10 ^ 7 := Nat.pow_le_pow_right (by omega) (by rw [bl_len]; omega)
      omega
    have hvf : val (bl f) * 10 ^ (6 - f.size) < 1000000 := by rw [← bl_len]; exact frac_lt (bl f) (by rw [bl_len]; exact hf6) hdf
    have hp6 := pow_6 f.size hf6
    have hV : (val (bl a) * 10 ^ f.size + val (bl f)) * 10 ^ (6 - f.size) = val (bl a) * 1000000 + val (bl f) * 10 ^ (6 - f.size) := by
      rw [Nat.add_mul, Nat.mul_assoc, ← Nat.pow_add, show f.size + (6 - f.size) = 6 by omega]
    have hap := appd_p (val (bl a)) f w4 hdf (Nat.le_trans (Nat.mul_le_mul (show val (bl a) + 1 ≤ 10000000 by omega) hp6) (by decide)) (by omega)
    have HAP := Lib.hid hap
    clear hap
    obtain ⟨V, hVV⟩ : ∃ V, V = val (bl a) * 10 ^ f.size + val (bl f) := ⟨_, rfl⟩
    obtain ⟨T, hT⟩ : ∃ T, T = val (bl a) * 1000000 + val (bl f) * 10 ^ (6 - f.size) := ⟨_, rfl⟩
    rw [← hVV] at HAP hV
    rw [← hT] at hV hr
    have hT13 : T < 100000000000000 := by omega
    clear hT hVV hva hvf hp6
    have HV := Lib.hid hV
    have HR3 := Lib.hid hr
    clear hV hr
    go_wp2_with fail
    refine (HAP.out).mono ?_
    rintro e w5 ⟨rfl, hb5⟩
    have hb5 : Below w.heap.size w w5 := hb4.trans (hb5.mono hb4.size)
    clear HAP hb4
    go_wp2_with fail
    go_loop [9, 39] (fun v9 v39 => ∃ j m : Nat, j ≤ 6 - f.size ∧ v39 = .int .i64 j ∧ v9 = .int .i64 m ∧ m = V * 10 ^ j) (fun _ v39 => 6 - f.size - (intOf v39).toNat)
    case atStart => exact ⟨0, V, Nat.zero_le _, rfl, rfl, by rw [Nat.pow_zero, Nat.mul_one]⟩
    case round =>
      obtain ⟨j, m, hj, rfl, rfl, hm⟩ := hrel
      have HM := Lib.hid hm
      have hmT : m ≤ T := by rw [hm, ← HV.out]; exact Nat.mul_le_mul_left _ (Nat.pow_le_pow_right (by omega) hj)
      clear hm
      by_cases hlt : j < 6 - f.size
      · have hlI : (j : Int) < 6 - (f.size : Int) := by omega
        have hm2 : m * 10 = V * 10 ^ (j + 1) := by rw [HM.out, Nat.pow_succ, Nat.mul_assoc]
        have HM2 := Lib.hid hm2
        clear hm2
        go_wp2_with fail
        exact ⟨⟨j + 1, m * 10, by omega, by go_num, vi (by push_cast; omega), HM2.out⟩, by simp [intOf]; omega⟩
      · have hlI : ¬ (j : Int) < 6 - (f.size : Int) := by omega
        obtain rfl : j = 6 - f.size := by omega
        obtain rfl : m = T := by rw [HM.out, HV.out]
        by_cases hgt : 1000000000000 < m
        · have hr2 : R = (0, 2) := by rw [HR3.out]; unfold fin; rw [if_pos hgt]
          subst hr2
          go_wp2_with fail
          go_ret2
          exact ⟨rfl, hb5⟩
        · cases neg
          · have hr2 : R = ((m : Int), 0) := by rw [HR3.out]; unfold fin; rw [if_neg hgt, if_neg (by simp)]
            subst hr2
            go_wp2_with fail
            go_ret2
            exact ⟨rfl, hb5⟩
          · have hr2 : R = (-(m : Int), 0) := by rw [HR3.out]; unfold fin; rw [if_neg hgt, if_pos rfl]
            subst hr2
            go_wp2_with fail
            go_ret2
            exact ⟨rfl, hb5⟩

  · go_wp2_with fail
    refine (frac_p f _ (by omega)).mono ?_
    rintro e w3 ⟨rfl, hb3⟩
    have hb3 : Below w.heap.size w w3 := hb2.trans (hb3.mono hb2.size)
    rcases hf2 : fracOk (bl f) with _ | _
    · have hr : R = (0, 6) := by rw [HR2.out]; exact psrC_no (fun h => by have := h.2 rfl; rw [hf2] at this; cases this)
      subst hr
      go_wp2_with fail
      go_ret2
      exact ⟨rfl, hb3⟩
    have hr : R = fin neg (val (bl a) * 1000000 + val (bl f) * 10 ^ (6 - f.size)) := by rw [HR2.out, ← bl_len f]; exact psrC_yes hw (fun _ => hf2)
    have hfo := hf2
    unfold fracOk at hfo
    simp only [Bool.and_eq_true, decide_eq_true_eq, bl_len] at hfo
    obtain ⟨⟨hdf, -⟩, hf6⟩ := hfo
    have hfz : (f.size : Int) ≤ 6 := by omega
    clear hpf hf HR2
    clear hw hf2
    go_wp2_with fail

    refine (appd_p 0 a _ hda (by rw [Nat.zero_add, Nat.one_mul]; exact Nat.le_trans (Nat.pow_le_pow_right (by omega) ha7) (by decide)) (by omega)).mono ?_
    rintro e w4 ⟨rfl, hb4⟩
    have hb4 : Below w.heap.size w w4 := (hb3).trans (hb4.mono (hb3).size)
    rw [Nat.zero_mul, Nat.zero_add]
    have hva : val (bl a) < 10000000 := by
      have h1 := val_lt (bl a) (fun x hx => List.all_eq_true.1 hda x hx)
      have h2 : 10 ^ (bl a).length ≤ 10 ^ 7 := Nat.pow_le_pow_right (by omega) (by rw [bl_len]; omega)
      omega
    have hvf : val (bl f) * 10 ^ (6 - f.size) < 1000000 := by rw [← bl_len]; exact frac_lt (bl f) (by rw [bl_len]; exact hf6) hdf
    have hp6 := pow_6 f.size hf6
    have hV : (val (bl a) * 10 ^ f.size + val (bl f)) * 10 ^ (6 - f.size) = val (bl a) * 1000000 + val (bl f) * 10 ^ (6 - f.size) := by
      rw [Nat.add_mul, Nat.mul_assoc, ← Nat.pow_add, show f.size + (6 - f.size) = 6 by omega]
    have hap := appd_p (val (bl a)) f w4 hdf (Nat.le_trans (Nat.mul_le_mul (show val (bl a) + 1 ≤ 10000000 by omega) hp6) (by decide)) (by omega)
    have HAP := Lib.hid hap
    clear hap
    obtain ⟨V, hVV⟩ : ∃ V, V = val (bl a) * 10 ^ f.size + val (bl f) := ⟨_, rfl⟩
    obtain ⟨T, hT⟩ : ∃ T, T = val (bl a) * 1000000 + val (bl f) * 10 ^ (6 - f.size) := ⟨_, rfl⟩
    rw [← hVV] at HAP hV
    rw [← hT] at hV hr
    have hT13 : T < 100000000000000 := by omega
    clear hT hVV hva hvf hp6
    have HV := Lib.hid hV
    have HR3 := Lib.hid hr
    clear hV hr
    go_wp2_with fail
    refine (HAP.out).mono ?_
    rintro e w5 ⟨rfl, hb5⟩
    have hb5 : Below w.heap.size w w5 := hb4.trans (hb5.mono hb4.size)
    clear HAP hb4
    go_wp2_with fail
    go_loop [9, 39] (fun v9 v39 => ∃ j m : Nat, j ≤ 6 - f.size ∧ v39 = .int .i64 j ∧ v9 = .int .i64 m ∧ m = V * 10 ^ j) (fun _ v39 => 6 - f.size - (intOf v39).toNat)
    case atStart => exact ⟨0, V, Nat.zero_le _, rfl, rfl, by rw [Nat.pow_zero, Nat.mul_one]⟩
    case round =>
      obtain ⟨j, m, hj, rfl, rfl, hm⟩ := hrel
      have HM := Lib.hid hm
      have hmT : m ≤ T := by rw [hm, ← HV.out]; exact Nat.mul_le_mul_left _ (Nat.pow_le_pow_right (by omega) hj)
      clear hm
      by_cases hlt : j < 6 - f.size
      · have hlI : (j : Int) < 6 - (f.size : Int) := by omega
        have hm2 : m * 10 = V * 10 ^ (j + 1) := by rw [HM.out, Nat.pow_succ, Nat.mul_assoc]
        have HM2 := Lib.hid hm2
        clear hm2
        go_wp2_with fail
        exact ⟨⟨j + 1, m * 10, by omega, by go_num, vi (by push_cast; omega), HM2.out⟩, by simp [intOf]; omega⟩
      · have hlI : ¬ (j : Int) < 6 - (f.size : Int) := by omega
        obtain rfl : j = 6 - f.size := by omega
        obtain rfl : m = T := by rw [HM.out, HV.out]
        by_cases hgt : 1000000000000 < m
        · have hr2 : R = (0, 2) := by rw [HR3.out]; unfold fin; rw [if_pos hgt]
          subst hr2
          go_wp2_with fail
          go_ret2
          exact ⟨rfl, hb5⟩
        · cases neg
          · have hr2 : R = ((m : Int), 0) := by rw [HR3.out]; unfold fin; rw [if_neg hgt, if_neg (by simp)]
            subst hr2
            go_wp2_with fail
            go_ret2
            exact ⟨rfl, hb5⟩
          · have hr2 : R = (-(m : Int), 0) := by rw [HR3.out]; unfold fin; rw [if_neg hgt, if_pos rfl]
            subst hr2
            go_wp2_with fail
            go_ret2
            exact ⟨rfl, hb5⟩
end Go.Proofs.YtnkhmhcgcmacgaaDoor.M3w
