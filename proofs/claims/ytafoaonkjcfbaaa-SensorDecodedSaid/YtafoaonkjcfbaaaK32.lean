/- Walks: the program's conversions: bytes in two's complement. -/
import Derived.Test.YtafoaonkjcfbaaaK12
import Derived.Test.YtafoaonkjcfbaaaK31
namespace Go.Proofs.Ytafoaonkjcfbaaa.P5
open Go.RowKit Go.Proofs.Ytafoaonkjcfbaaa.Mem Go.Proofs.Ytafoaonkjcfbaaa.M3p Go.Proofs.Ytafoaonkjcfbaaa.C4p Go.Proofs.Ytafoaonkjcfbaaa.C4l Go.Proofs.Ytafoaonkjcfbaaa.C4v Go.Proofs.Ytafoaonkjcfbaaa.P4
set_option maxRecDepth 100000
set_option maxHeartbeats 1000000

theorem div_mod64 (v : Int) (k : Nat) (hk : k < 8) : (v % 18446744073709551616) / 256 ^ k % 256 = v / 256 ^ k % 256 := by
  rcases (show k = 0 ∨ k = 1 ∨ k = 2 ∨ k = 3 ∨ k = 4 ∨ k = 5 ∨ k = 6 ∨ k = 7 by omega) with rfl | rfl | rfl | rfl | rfl | rfl | rfl | rfl
  · rw [show (256 : Int) ^ 0 = 1 by decide]; omega
  · rw [show (256 : Int) ^ 1 = 256 by decide]; omega
  · rw [show (256 : Int) ^ 2 = 65536 by decide]; omega
  · rw [show (256 : Int) ^ 3 = 16777216 by decide]; omega
  · rw [show (256 : Int) ^ 4 = 4294967296 by decide]; omega
  · rw [show (256 : Int) ^ 5 = 1099511627776 by decide]; omega
  · rw [show (256 : Int) ^ 6 = 281474976710656 by decide]; omega
  · rw [show (256 : Int) ^ 7 = 72057594037927936 by decide]; omega
theorem le_snoc (v : Int) (k : Nat) (hk : k < 8) : le v (k + 1) = le v k ++ [UInt8.ofNat ((v / 256 ^ k) % 256).toNat] := by
  unfold le
  rw [F2p.lit_snoc]
  have h0 : 0 ≤ v % 18446744073709551616 := Int.emod_nonneg _ (by decide)
  obtain ⟨x, hx⟩ := Int.eq_ofNat_of_zero_le h0
  have h1 := div_mod64 v k hk
  rw [hx] at h1 ⊢
  rw [Int.toNat_natCast]
  have h2 : ((x / 256 ^ k % 256 : Nat) : Int) = v / 256 ^ k % 256 := by rw [← h1, Int.natCast_emod, Int.natCast_ediv, Int.natCast_pow]; rfl
  rw [← h2, Int.toNat_natCast]
theorem appn_p (base : Nat) (u : Value) (l : List UInt8) (v : Int) (n : Nat) (w : World) (hown : Mem.Own base w u l) (hb : base ≤ w.heap.size) (hn : n ≤ 8) (hl : l.length ≤ 1000) :
    Calls Try.prog 134 #[u, .int .i64 v, .int .i64 (n : Int)] w fun e w' => ∃ u', e = .returned u' ∧ Mem.Own base w' u' (l ++ le v n) ∧ Below base w w' := by
  obtain ⟨i0, hi, hz0, hz1, hz2⟩ := info_parts info5
  go_enter Try.func134, Try.ntmps134
  go_wp2
  go_loopw [0, 1, 8] (fun x v1 i wr => ∃ k : Nat, k ≤ n ∧ i = .int .i64 (k : Int) ∧ v1 = .int .i64 (v / 256 ^ k) ∧ Mem.Own base wr x (l ++ le v k) ∧ Below base w wr) (fun _ _ i _ => n - (intOf i).toNat)
  case atStart => exact ⟨0, Nat.zero_le _, rfl, by simp, by simpa [le, F2p.lit] using hown, Below.refl _ _⟩
  case round =>
    obtain ⟨k, hk, rfl, rfl, hown, hbel⟩ := hrel
    have hsz := hbel.size
    by_cases hlt : k < n
    · have HS := Lib.hid (le_snoc v k (by omega))
      have hdiv : v / 256 ^ (k + 1) = v / 256 ^ k / 256 := by rw [Int.pow_succ, Int.ediv_ediv_of_nonneg (Int.pow_nonneg (by decide))]
      have HD := Lib.hid hdiv
      clear hdiv
      have hlen := le_len v k
      generalize hy : v / 256 ^ k = y at *
      have HY := Lib.hid hy
      clear hy
      go_wp2_with (at_builtin; go_loud (refine wpList_append_rd _ rfl (.tmp 10) (.tmp 13) _ rfl base 5 i0 _ 1 Try.underlying60 hi hz0 hz1 hz2 rfl _ _ (bvs (l ++ le v k)) rfl (World.ownsRow.alloc hown _) _ _ 1 1 [.int .u8 (y % 256)] rfl rfl (Rd.new wr _ _) (fun hh => by cases hh) one_int (by unfold maxLen; rw [List.length_append, hlen]; omega) (by rw [List.length_append, hlen]; omega) (by simp; omega) ?_); intro v' w1 hown1 hg1)
      have hbel1 : Below base w w1 := below_grown (hbel.alloc (by omega) _) (World.ownsRow.alloc hown _) hg1 (by simp; omega)
      refine ⟨⟨k + 1, by omega, by go_num, vi (by rw [HD.out]), own_of hown1 ?_ ?_, hbel1⟩, by simp [intOf]; omega⟩
      · rw [HS.out]; simp [Nat.add_assoc]
      · rw [HS.out, ← List.append_assoc, bvs_app (l ++ le v k)]
        congr 1
        show _ = [bv _]
        unfold bv
        rw [UInt8.toNat_ofNat']
        have h0 := Int.emod_nonneg y (show (256 : Int) ≠ 0 by decide)
        have h1 := Int.emod_lt_of_pos y (show (0 : Int) < 256 by decide)
        congr 2
        omega
    · obtain rfl : k = n := by omega
      go_wp2
      go_ret
      exact ⟨_, rfl, hown, hbel⟩
/-- The bytes of points. -/
theorem appp_p (base : Nat) (u : Value) (l0 : List UInt8) (A : Option Addr) (n cp : Nat) (l : List Pt) (w : World) (hown : Mem.Own base w u l0) (hrow : PRow base w A l) (hln : n = l.length) (hb : base ≤ w.heap.size) (hn : n ≤ 12) (hl : l0.length ≤ 100) :
    Calls Try.prog 133 #[u, .slice A n cp] w fun e w' => ∃ u', e = .returned u' ∧ Mem.Own base w' u' (l0 ++ [UInt8.ofNat n] ++ body l) ∧ Below base w w' := by
  obtain ⟨i0, hi, hz0, hz1, hz2⟩ := info_parts info5
  have HLN := Lib.hid hln
  have hnv : Value.int .u8 (n : Int) = bv (UInt8.ofNat n) := bv_nat (by omega)
  have HNV := Lib.hid hnv
  have hw8 : IntKind.u8.wrap (n : Int) = (n : Int) := by rw [IntKind.wrap_u8]; omega
  have HB0 := Lib.hid ((Below.refl base w).alloc hb (.cells #[.int .u8 (n : Int)] 5))
  clear hln hnv
  go_enter Try.func133, Try.ntmps133
  go_wp2_with (at_builtin; go_loud (refine wpList_append_rd _ rfl _ _ _ rfl base 5 i0 _ 1 Try.underlying60 hi hz0 hz1 hz2 rfl _ _ (bvs l0) rfl (World.ownsRow.alloc hown _) _ _ 1 1 [.int .u8 (n : Int)] rfl rfl (Rd.new w _ _) (fun hh => by cases hh) one_int (by unfold maxLen; omega) (by omega) (by simp; omega) ?_); intro v1 u1 hown1 hg1; refine Hid.out ?_)
  refine Lib.hid ?_
  have own1 : Mem.Own base u1 v1 (l0 ++ [UInt8.ofNat n]) := own_of hown1 (by simp) (by rw [HNV.out, bvs_app]; rfl)
  have hbu1 : Below base w u1 := below_grown HB0.out (World.ownsRow.alloc hown _) hg1 (by simp; omega)
  clear hown hown1 hg1
  go_wp2_with fail
  go_loopw [0, 15] (fun x i wr => ∃ j : Nat, j ≤ n ∧ i = .int .i64 (j : Int) ∧ Mem.Own base wr x (l0 ++ [UInt8.ofNat n] ++ body (l.take j)) ∧ Below base w wr) (fun _ i _ => n - (intOf i).toNat)
  case atStart => exact ⟨0, Nat.zero_le _, rfl, by simpa [body] using own1, hbu1⟩
  case round =>
    obtain ⟨j, hj, rfl, hown, hbr⟩ := hrel
    clear own1 hbu1
    have hsz := hbr.size
    have hbl := body_len (l.take j)
    rw [List.length_take] at hbl
    have HBL := Lib.hid hbl
    clear hbl
    by_cases hlt : j < n
    · have hjl : j < l.length := by rw [← HLN.out]; exact hlt
      obtain ⟨a, q, rfl, hab, hq, hqb, hc0, hc1⟩ := prow_q (Rd.below hrow hbr) hjl
      have hbs := Lib.hid (body_snoc hjl)
      obtain ⟨r, hr0⟩ : ∃ r, r = l[j].1 := ⟨_, rfl⟩
      obtain ⟨v, hv0⟩ : ∃ v, v = l[j].2 := ⟨_, rfl⟩
      rw [← hr0, ← hv0] at hbs
      rw [← hr0] at hc0
      rw [← hv0] at hc1
      obtain ⟨X, hX⟩ : ∃ X, X = l0 ++ [UInt8.ofNat n] ++ body (l.take j) := ⟨_, rfl⟩
      have hXl : X.length ≤ 300 := by
        have := HBL.out
        rw [hX]
        simp
        omega
      rw [← hX] at hown
      have HX := Lib.hid hX
      clear hr0 hv0 hX
      have hownb : Mem.Own base (wr.alloc (.cells #[.int .u8 (r.toNat : Int), .int .i64 v] 150)) _ X := World.ownsRow.alloc hown _
      have hrowb := heap_alloc_new wr (.cells #[.int .u8 (r.toNat : Int), .int .i64 v] 150)
      have hbb : Below base w (wr.alloc (.cells #[.int .u8 (r.toNat : Int), .int .i64 v] 150)) := hbr.alloc (by omega) _
      have hzb : (wr.alloc (.cells #[.int .u8 (r.toNat : Int), .int .i64 v] 150)).heap.size = wr.heap.size + 1 := World.size_alloc ..
      have hne := fun k (hk : _ = some k) => (World.ownsRow.lt hown k hk).2
      have HZB := Lib.hid hzb
      have HROWB := Lib.hid hrowb
      have HBB := Lib.hid hbb
      have hrd : Rd (wr.heap.size + 1 + 1) ((wr.alloc (.cells #[.int .u8 (r.toNat : Int), .int .i64 v] 150)).alloc (.cells #[.int .u8 (r.toNat : Int)] 5)) (some ⟨wr.heap.size + 1, 0, none⟩) [.int .u8 (r.toNat : Int)] := by
        have := Rd.new (wr.alloc (.cells #[.int .u8 (r.toNat : Int), .int .i64 v] 150)) #[.int .u8 (r.toNat : Int)] 5
        simpa using this
      clear hrowb hbb hzb
      go_wp2_with (at_builtin; go_loud (refine wpList_append_rd _ rfl _ _ _ rfl base 5 i0 _ 1 Try.underlying60 hi hz0 hz1 hz2 rfl _ _ (bvs X) rfl (World.ownsRow.alloc hownb _) _ _ 1 1 [.int .u8 (r.toNat : Int)] rfl rfl hrd (fun hh => by cases hh) one_int (by unfold maxLen; omega) (by omega) (by simp; omega) ?_); intro v3 u3 hown3 hg3; refine Hid.out ?_)
      refine Lib.hid ?_
      have own3 : Mem.Own base u3 v3 (X ++ [r]) := own_of hown3 (by simp) (by unfold bvs; rw [List.map_append]; rfl)
      have hbu3 : Below base w u3 := below_grown (HBB.out.alloc (by rw [HZB.out]; omega) _) (World.ownsRow.alloc hownb _) hg3 (by simp; omega)
      have hrow3 := (hg3.block wr.heap.size (by simp; omega) (fun e => by have := hne _ e.symm; omega)).trans ((Below.heap_alloc _ _ _ (by rw [HZB.out]; omega)).trans HROWB.out)
      have k1 : u3.cell? ⟨wr.heap.size, 1, none⟩ = some (.int .i64 v) := (cell_of_row u3 _ 1 _ _ _ hrow3).trans rfl
      have hz3 := hbu3.size
      clear hown hownb hg3 hown3 hrow3 hne hrd hc0 hc1
      go_wp2_with fail
      refine (appn_p base v3 (X ++ [r]) v 6 u3 own3 (by omega) (by omega) (by simp; omega)).mono ?_
      rintro e u4 ⟨x4, rfl, own4, hb4⟩
      have hbu4 := hbu3.trans hb4
      clear own3 hbu3 hb4 k1
      go_wp2_with fail
      refine ⟨⟨j + 1, by omega, by go_num, ?_, hbu4⟩, by simp [intOf]; omega⟩
      have e : l0 ++ [UInt8.ofNat n] ++ body (l.take (j + 1)) = X ++ [r] ++ le v 6 := by rw [hbs.out, HX.out]; simp [List.append_assoc]
      rw [e]
      exact own4
    · obtain rfl : j = n := by omega
      have htk : l.take j = l := List.take_of_length_le (by rw [← HLN.out]; exact Nat.le_refl _)
      rw [htk] at hown
      go_wp2_with fail
      go_ret
      exact ⟨_, rfl, hown, hbr⟩
end Go.Proofs.Ytafoaonkjcfbaaa.P5
