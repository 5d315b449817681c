/- Walks: the program's package micro: Format. -/
import Derived.Test.YtnkhmhcgcmacgaaDoorSh
import Derived.Test.YtnkhmhcgcmacgaaDoorM3w
namespace Go.Proofs.YtnkhmhcgcmacgaaDoor.M3w
open Go.RowKit Go.Proofs.YtnkhmhcgcmacgaaDoor.Mem Go.Proofs.YtnkhmhcgcmacgaaDoor.M3p Go.Proofs.YtnkhmhcgcmacgaaDoor.M3r Go.Proofs.YtnkhmhcgcmacgaaDoor.F2p
set_option maxRecDepth 100000
set_option maxHeartbeats 1000000

theorem dgs_dec (n : Nat) : dgs n = Lib.decDigits n := by
  rw [dgs, Lib.decDigits]
  by_cases h : n < 10
  · rw [dif_pos h, dif_pos h]
  · rw [dif_neg h, dif_neg h, dgs_dec (n / 10)]
termination_by n
decreasing_by omega
theorem bvs_cells (l : List UInt8) : bvs l = Lib.byteCells l := rfl
/-- The library's table of powers of ten is as it was laid. -/
def PowTab (w : World) : Prop := Lib.TabIs Tryd.prog w "internal/strconv.uint64pow10" .u64 Lib.pow10Tab
def PowBelow (B : Nat) (w : World) : Prop := Lib.TabBelow Tryd.prog B w "internal/strconv.uint64pow10" .u64 Lib.pow10Tab
theorem PowTab.start {w : World} (h : PowTab w) : PowBelow w.heap.size w := Lib.tabBelow_of_tabIs h
theorem PowBelow.on {B : Nat} {w w1 : World} (h : PowBelow B w) (hb : Below B w w1) : PowBelow B w1 := Lib.TabBelow.on h hb
theorem PowBelow.at_ {B : Nat} {w w1 : World} (h : PowBelow B w) (hb : Below B w w1) : PowTab w1 := h w1 hb
theorem appint (base : Nat) (l : List UInt8) (i : Nat) (v : Value) (w : World) (hi : i ≤ 1000000000) (hown : Own base w v l) (hB : base ≤ w.heap.size) (hl : l.length ≤ 1000) (htab : PowBelow base w) :
    Calls Tryd.prog 44 #[v, .int .i64 (i : Int), .int .i64 10] w fun e w' => ∃ v', e = .returned v' ∧ Own base w' v' (l ++ dgs i) ∧ Below base w w' := by
  refine (Any.strconv_AppendInt_10 Sh.lays base l.length (i : Int) (by omega) (by omega) v (bvs l) w hown hB (by omega) htab).mono ?_
  rintro e w' ⟨v', rfl, ho, hb, -⟩
  refine ⟨v', rfl, ?_, hb⟩
  rw [Lib.itoa_nonneg, ← dgs_dec] at ho
  exact own_of ho (by rw [List.length_append]) (by unfold bvs; rw [List.map_append]; rfl)
theorem str_own {base : Nat} {w : World} {v : Value} {l : List UInt8} (h : Own base w v l) (hl : 1 ≤ l.length) : (convert 60 9 v).run Tryd.prog w = .ok (.string ⟨l.toArray⟩) w := by
  rcases h.2 with ⟨_, h0⟩ | ⟨g, cap, cur, rfl, -⟩
  · omega
  · exact run_convert_bytes_back w _ _ _ ⟨g, 0, none⟩ cap l Tryd.underlying60 Tryd.underlying5 Tryd.underlying9 fun j hj => h.cells (g := g) rfl j _ (by simp [bvs, bv, hj])
theorem ret_str {a b : List UInt8} (h : a = b) : Ending.returned (.string ⟨a.toArray⟩) = .returned (.string ⟨b.toArray⟩) := by rw [h]
def lenV : Value → Nat
  | .slice _ n _ => n
  | _ => 0
theorem lenV_own {base : Nat} {w : World} {v : Value} {l : List UInt8} (h : Own base w v l) : lenV v = l.length := by
  rcases h.2 with ⟨rfl, h0⟩ | ⟨g, cap, cur, rfl, -⟩
  · exact h0.symm
  · rfl
theorem format_p (v : Int) (w : World) (htab : PowTab w) :
    Calls Tryd.prog 33 #[.int .i64 v] w fun e w' => e = .returned (.string ⟨(fmt (clp v)).toArray⟩) ∧ Below w.heap.size w w' := by
  obtain ⟨a1, a2⟩ := clp_le v
  unfold lim at a1 a2
  have ca := Lib.hid (fun u => clamp_p v u)
  have HT := htab.start
  obtain ⟨i0, hi, hz0, hz1, hzq⟩ := info_parts info5
  clear htab
  generalize clp v = x at *
  obtain ⟨n, hn⟩ : ∃ n : Nat, n = x.natAbs := ⟨_, rfl⟩
  have hn12 : n ≤ 1000000000000 := by omega
  obtain ⟨q, hq⟩ : ∃ q : Nat, q = n / 1000000 := ⟨_, rfl⟩
  obtain ⟨P, hP⟩ : ∃ P : Nat, P = n % 1000000 := ⟨_, rfl⟩
  have HXN := Lib.hid hn.symm
  have HQ := Lib.hid hq.symm
  have HP := Lib.hid hP.symm
  have hqI : (n : Int) / 1000000 = (q : Int) := by omega
  have hpI : (n : Int) % 1000000 = (P : Int) := by omega
  have hq6 : q ≤ 1000000 := by omega
  have hP6 : P < 1000000 := by omega
  by_cases hx : x < 0
  · skip
    have hxI : x = -(n : Int) := by omega
    have hng : -x = (n : Int) := by omega
    clear hn hq hP
    have hfull := Lib.hid (show fmt x = [45] ++ (dgs q ++ if P = 0 then [] else 46 :: frc 6 P) from by unfold fmt fmtN; rw [HXN.out, HQ.out, HP.out]; rw [if_pos (by omega)])
    clear hxI
    have hsz : w.heap.size ≤ w.heap.size := Nat.le_refl _
    go_enter Tryd.func33, Tryd.ntmps33
    go_wp2_with fail
    refine (ca.out _).mono ?_
    rintro e w' ⟨rfl, rfl⟩
    go_wp2_with (at_builtin; go_loud (refine wpList_append_rd _ rfl _ _ _ rfl w.heap.size 5 i0 _ 1 Tryd.underlying60 hi hz0 hz1 hzq rfl _ 0 [] rfl (World.ownsRow_nil _ _ _ _) _ _ 1 1 (bvs [45]) rfl rfl (Rd.new w _ _) (fun hh => by cases hh) (bvs_one _) (by unfold maxLen; omega) (by omega) (by simp) ?_); intro v1 w1 hown1 hg1)
    have own1 : Own w.heap.size w1 v1 [45] := own_of hown1 rfl rfl
    have hb1 : Below w.heap.size w w1 := ((Below.refl w.heap.size w).alloc (Nat.le_refl _) _).grown hg1 (by simp) (fun k hk => by cases hk)
    go_wp2_with fail
    refine (appint w.heap.size [45] q v1 w1 (by omega) own1 hb1.size (by simp) (HT.on hb1)).mono ?_
    rintro e w2 ⟨v2, rfl, own2, hb2⟩
    have hb2 : Below w.heap.size w w2 := hb1.trans hb2
    clear own1 hown1 hg1 hb1
    have hl2 : ([45] ++ dgs q).length ≤ 9 := by
      have := dgs_len q 8 (by omega) (by omega)
      simp; omega
    obtain ⟨t2, ht2⟩ : ∃ t2, t2 = [45] ++ dgs q := ⟨_, rfl⟩
    have hpos : 1 ≤ t2.length := by have := (val_dgs q).2.2; rw [ht2, List.length_append]; omega
    rw [← ht2] at own2 hl2
    have HT2 := Lib.hid ht2
    have hfull2 := Lib.hid (show fmt x = t2 ++ if P = 0 then [] else 46 :: frc 6 P from by rw [ht2, hfull.out, List.append_assoc])
    clear ht2
    by_cases hP0 : P = 0
    · subst hP0
      have hstr := str_own own2 hpos
      go_wp2_with fail
      go_loopw [3, 4] (fun v3 v4 wr => v3 = v2 ∧ v4 = .int .i64 0 ∧ wr = w2) (fun _ _ _ => 0)
      case atStart => exact ⟨rfl, vi (by omega), rfl⟩
      case round =>
        obtain ⟨rfl, rfl, rfl⟩ := hrel
        go_wp2_with fail
        go_ret
        exact ⟨ret_str (by rw [hfull2.out]; simp), hb2⟩
    · have hpz : ((P : Int) == 0) = false := by rw [beq_eq_false_iff_ne]; omega
      have hsz := hb2.size
      go_wp2_with (at_builtin; go_loud (refine wpList_append_rd _ rfl _ _ _ rfl w.heap.size 5 i0 _ 1 Tryd.underlying60 hi hz0 hz1 hzq rfl _ _ (bvs t2) rfl (World.ownsRow.alloc own2 _) _ _ 1 1 (bvs [46]) rfl rfl (Rd.new w2 _ _) (fun hh => by cases hh) (bvs_one _) (by unfold maxLen; omega) (by omega) (by have := hsz; simp; omega) ?_); intro v3 w3 hown3 hg3)
      have own3 : Own w.heap.size w3 v3 (t2 ++ [46]) := own_app hown3
      have hb3 : Below w.heap.size w w3 := (hb2.alloc hb2.size _).grown hg3 (by simp; omega) (fun k hk => (World.ownsRow.lt own2 k hk).1)
      have hS1 : (t2 ++ [46]).length ≤ 10 := by rw [List.length_append]; simp; omega
      have hS0 : (t2 ++ [46]) ++ frc 6 P = fmt x := by rw [hfull2.out, if_neg hP0, List.append_assoc]; rfl
      clear hb2 own2 hown3 hg3 hsz hl2 hpos
      go_loopw [3, 4] (fun v3 v4 wr => ∃ (k p : Nat) (t : List UInt8), k ≤ 6 ∧ v4 = .int .i64 p ∧ p = P * 10 ^ k % 1000000 ∧ t.length ≤ 10 + k ∧ 1 ≤ t.length ∧ t ++ frc (6 - k) p = fmt x ∧ Own w.heap.size wr v3 t ∧ Below w.heap.size w wr) (fun v3 _ _ => 60 - lenV v3)
      case atStart => exact ⟨0, P, _, by omega, (by first | rfl | exact vi hpI), by rw [Nat.pow_zero, Nat.mul_one, Nat.mod_eq_of_lt hP6], hS1, by simp, hS0, own3, hb3⟩
      case round =>
        obtain ⟨k, p, t, hk, rfl, hp, hts, ht1, hfm, hown, hb⟩ := hrel
        have HPK := Lib.hid hp
        have HFM := Lib.hid hfm
        have hp6 : p < 1000000 := by rw [hp]; exact Nat.mod_lt _ (by omega)
        have hsz := hb.size
        clear hp hfm hS0 hS1 hqI hpI hng own3 hb3
        by_cases hp0 : p = 0
        · subst hp0
          have hstr := str_own hown ht1
          go_wp2_with fail
          go_ret
          exact ⟨ret_str (by have := HFM.out; rw [frc_zero, List.append_nil] at this; exact this), hb⟩
        · have hk6 : k < 6 := by
            rcases Nat.lt_or_ge k 6 with h | h
            · exact h
            · exact absurd (HPK.out.trans (frac_end P k h)) hp0
          obtain ⟨d, hd⟩ : ∃ d : Nat, d = 10 * p / 1000000 := ⟨_, rfl⟩
          obtain ⟨r, hr⟩ : ∃ r : Nat, r = 10 * p % 1000000 := ⟨_, rfl⟩
          have hdI2 : (p : Int) / 100000 = (d : Int) := by omega
          have hrI2 : (p : Int) % 100000 * 10 = (r : Int) := by omega
          have hd10 : d < 10 := by omega
          have hpz2 : ((p : Int) == 0) = false := by rw [beq_eq_false_iff_ne]; omega
          have hrn : r = P * 10 ^ (k + 1) % 1000000 := by rw [hr, HPK.out, frac_next]
          have hfr : frc (6 - k) p = UInt8.ofNat (48 + d) :: frc (6 - (k + 1)) r := by
            rw [show 6 - k = (6 - (k + 1)) + 1 by omega, frc, if_neg hp0, ← hd, ← hr]
          have HRN := Lib.hid hrn
          have HFR := Lib.hid hfr
          clear hd hr hrn hfr
          go_wp2_with (at_builtin; go_loud (refine wpList_append_rd _ rfl _ _ _ rfl w.heap.size 5 i0 _ 1 Tryd.underlying60 hi hz0 hz1 hzq rfl _ _ (bvs t) rfl (World.ownsRow.alloc hown _) _ _ 1 1 [.int .u8 (48 + (d : Int))] rfl rfl (Rd.new wr _ _) (fun hh => by cases hh) (by simp [Value.oneCell']) (by unfold maxLen; omega) (by omega) (by have := hsz; simp; omega) ?_); intro v5 w5 hown5 hg5)
          have own5 : Own w.heap.size w5 v5 (t ++ [UInt8.ofNat (48 + d)]) := own_of hown5 (by simp) (by have e := bv_nat (y := 48 + d) (by omega); unfold bvs; rw [List.map_append]; simp only [List.map_cons, List.map_nil]; rw [← e]; push_cast; rfl)
          have hb5 : Below w.heap.size w w5 := (hb.alloc hb.size _).grown hg5 (by simp; omega) (fun k hk => (World.ownsRow.lt hown k hk).1)
          exact ⟨⟨k + 1, r, _, by omega, (by first | rfl | exact vi hrI2), HRN.out, by rw [List.length_append]; simp; omega, by rw [List.length_append]; omega, by have := HFM.out; rw [HFR.out] at this; rw [← this, List.append_assoc]; rfl, own5, hb5⟩, by rw [lenV_own hown, lenV_own own5, List.length_append]; simp; omega⟩
  · skip
    have hxI : x = (n : Int) := by omega
    have hdI : x / 1000000 = (q : Int) := by rw [hxI]; exact hqI
    have hmI : x % 1000000 = (P : Int) := by rw [hxI]; exact hpI
    clear hn hq hP
    have hfull := Lib.hid (show fmt x = [] ++ (dgs q ++ if P = 0 then [] else 46 :: frc 6 P) from by unfold fmt fmtN; rw [HXN.out, HQ.out, HP.out]; rw [if_neg (by omega)])
    clear hxI
    have hsz : w.heap.size ≤ w.heap.size := Nat.le_refl _
    go_enter Tryd.func33, Tryd.ntmps33
    go_wp2_with fail
    refine (ca.out _).mono ?_
    rintro e w' ⟨rfl, rfl⟩
    go_wp2_with fail
    refine (appint w.heap.size [] q (.slice none 0 0) w (by omega) Own.nil (Nat.le_refl _) (by simp) HT).mono ?_
    rintro e w2 ⟨v2, rfl, own2, hb2⟩
    have hl2 : ([] ++ dgs q).length ≤ 9 := by
      have := dgs_len q 8 (by omega) (by omega)
      simp; omega
    obtain ⟨t2, ht2⟩ : ∃ t2, t2 = [] ++ dgs q := ⟨_, rfl⟩
    have hpos : 1 ≤ t2.length := by have := (val_dgs q).2.2; rw [ht2, List.length_append]; omega
    rw [← ht2] at own2 hl2
    have HT2 := Lib.hid ht2
    have hfull2 := Lib.hid (show fmt x = t2 ++ if P = 0 then [] else 46 :: frc 6 P from by rw [ht2, hfull.out, List.append_assoc])
    clear ht2
    by_cases hP0 : P = 0
    · subst hP0
      have hstr := str_own own2 hpos
      go_wp2_with fail
      go_loopw [3, 4] (fun v3 v4 wr => v3 = v2 ∧ v4 = .int .i64 0 ∧ wr = w2) (fun _ _ _ => 0)
      case atStart => exact ⟨rfl, vi (by omega), rfl⟩
      case round =>
        obtain ⟨rfl, rfl, rfl⟩ := hrel
        go_wp2_with fail
        go_ret
        exact ⟨ret_str (by rw [hfull2.out]; simp), hb2⟩
    · have hpz : ((P : Int) == 0) = false := by rw [beq_eq_false_iff_ne]; omega
      have hsz := hb2.size
      go_wp2_with (at_builtin; go_loud (refine wpList_append_rd _ rfl _ _ _ rfl w.heap.size 5 i0 _ 1 Tryd.underlying60 hi hz0 hz1 hzq rfl _ _ (bvs t2) rfl (World.ownsRow.alloc own2 _) _ _ 1 1 (bvs [46]) rfl rfl (Rd.new w2 _ _) (fun hh => by cases hh) (bvs_one _) (by unfold maxLen; omega) (by omega) (by have := hsz; simp; omega) ?_); intro v3 w3 hown3 hg3)
      have own3 : Own w.heap.size w3 v3 (t2 ++ [46]) := own_app hown3
      have hb3 : Below w.heap.size w w3 := (hb2.alloc hb2.size _).grown hg3 (by simp; omega) (fun k hk => (World.ownsRow.lt own2 k hk).1)
      have hS1 : (t2 ++ [46]).length ≤ 10 := by rw [List.length_append]; simp; omega
      have hS0 : (t2 ++ [46]) ++ frc 6 P = fmt x := by rw [hfull2.out, if_neg hP0, List.append_assoc]; rfl
      clear hb2 own2 hown3 hg3 hsz hl2 hpos
      go_loopw [3, 4] (fun v3 v4 wr => ∃ (k p : Nat) (t : List UInt8), k ≤ 6 ∧ v4 = .int .i64 p ∧ p = P * 10 ^ k % 1000000 ∧ t.length ≤ 10 + k ∧ 1 ≤ t.length ∧ t ++ frc (6 - k) p = fmt x ∧ Own w.heap.size wr v3 t ∧ Below w.heap.size w wr) (fun v3 _ _ => 60 - lenV v3)
      case atStart => exact ⟨0, P, _, by omega, (by first | rfl | exact vi hmI), by rw [Nat.pow_zero, Nat.mul_one, Nat.mod_eq_of_lt hP6], hS1, by simp, hS0, own3, hb3⟩
      case round =>
        obtain ⟨k, p, t, hk, rfl, hp, hts, ht1, hfm, hown, hb⟩ := hrel
        have HPK := Lib.hid hp
        have HFM := Lib.hid hfm
        have hp6 : p < 1000000 := by rw [hp]; exact Nat.mod_lt _ (by omega)
        have hsz := hb.size
        clear hp hfm hS0 hS1 hqI hpI hdI hmI own3 hb3
        by_cases hp0 : p = 0
        · subst hp0
          have hstr := str_own hown ht1
          go_wp2_with fail
          go_ret
          exact ⟨ret_str (by have := HFM.out; rw [frc_zero, List.append_nil] at this; exact this), hb⟩
        · have hk6 : k < 6 := by
            rcases Nat.lt_or_ge k 6 with h | h
            · exact h
            · exact absurd (HPK.out.trans (frac_end P k h)) hp0
          obtain ⟨d, hd⟩ : ∃ d : Nat, d = 10 * p / 1000000 := ⟨_, rfl⟩
          obtain ⟨r, hr⟩ : ∃ r : Nat, r = 10 * p % 1000000 := ⟨_, rfl⟩
          have hdI2 : (p : Int) / 100000 = (d : Int) := by omega
          have hrI2 : (p : Int) % 100000 * 10 = (r : Int) := by omega
          have hd10 : d < 10 := by omega
          have hpz2 : ((p : Int) == 0) = false := by rw [beq_eq_false_iff_ne]; omega
          have hrn : r = P * 10 ^ (k + 1) % 1000000 := by rw [hr, HPK.out, frac_next]
          have hfr : frc (6 - k) p = UInt8.ofNat (48 + d) :: frc (6 - (k + 1)) r := by
            rw [show 6 - k = (6 - (k + 1)) + 1 by omega, frc, if_neg hp0, ← hd, ← hr]
          have HRN := Lib.hid hrn
          have HFR := Lib.hid hfr
          clear hd hr hrn hfr
          go_wp2_with (at_builtin; go_loud (refine wpList_append_rd _ rfl _ _ _ rfl w.heap.size 5 i0 _ 1 Tryd.underlying60 hi hz0 hz1 hzq rfl _ _ (bvs t) rfl (World.ownsRow.alloc hown _) _ _ 1 1 [.int .u8 (48 + (d : Int))] rfl rfl (Rd.new wr _ _) (fun hh => by cases hh) (by simp [Value.oneCell']) (by unfold maxLen; omega) (by omega) (by have := hsz; simp; omega) ?_); intro v5 w5 hown5 hg5)
          have own5 : Own w.heap.size w5 v5 (t ++ [UInt8.ofNat (48 + d)]) := own_of hown5 (by simp) (by have e := bv_nat (y := 48 + d) (by omega); unfold bvs; rw [List.map_append]; simp only [List.map_cons, List.map_nil]; rw [← e]; push_cast; rfl)
          have hb5 : Below w.heap.size w w5 := (hb.alloc hb.size _).grown hg5 (by simp; omega) (fun k hk => (World.ownsRow.lt hown k hk).1)
          exact ⟨⟨k + 1, r, _, by omega, (by first | rfl | exact vi hrI2), HRN.out, by rw [List.length_append]; simp; omega, by rw [List.length_append]; omega, by have := HFM.out; rw [HFR.out] at this; rw [← this, List.append_assoc]; rfl, own5, hb5⟩, by rw [lenV_own hown, lenV_own own5, List.length_append]; simp; omega⟩
end Go.Proofs.YtnkhmhcgcmacgaaDoor.M3w
