/- Walks: the program's conversions: bytes in two's complement. Walks: the program's conversions: Encode. -/
import Derived.Test.YtcnkiecdagjgmaaP4c
import Derived.Test.YtcnkiecdagjgmaaC5a
namespace Go.Proofs.Ytcnkiecdagjgmaa.P5
open Go.RowKit Go.Proofs.Ytcnkiecdagjgmaa.Mem Go.Proofs.Ytcnkiecdagjgmaa.M3p Go.Proofs.Ytcnkiecdagjgmaa.C4p Go.Proofs.Ytcnkiecdagjgmaa.C4l Go.Proofs.Ytcnkiecdagjgmaa.C4v Go.Proofs.Ytcnkiecdagjgmaa.P4
set_option maxRecDepth 100000
set_option maxHeartbeats 1000000

theorem div_mod64 (v : Int) (k : Nat) (hk : k < 8) : (v % 18446744073709551616) / 256 ^ k % 256 = v / 256 ^ k % 256 := by
  rcases (show k = 0 ∨ k = 1 ∨ k = 2 ∨ k = 3 ∨ k = 4 ∨ k = 5 ∨ k = 6 ∨ k = 7 by omega) with rfl | rfl | rfl | rfl | rfl | rfl | rfl | rfl
  · rw [show (256 : Int) ^ 0 = 1 by decide]; omega
  · rw [show (256 : Int) ^ 1 = 256 by decide]; omega
  · rw [show (256 : Int) ^ 2 = 65536 by decide]; omega
  · rw [show (256 : Int) ^ 3 = 16777216 by decide]; omega
  · rw [show (256 : Int) ^ 4 = 4294967296 by decide]; omega
  · rw [show (256 : Int) ^ 5 = 1099511627776 by decide]; omega
  · rw [show (256 : Int) ^ 6 = 281474976710656 by decide]; omega
  · rw [show (256 : Int) ^ 7 = 72057594037927936 by decide]; omega
theorem le_snoc (v : Int) (k : Nat) (hk : k < 8) : le v (k + 1) = le v k ++ [UInt8.ofNat ((v / 256 ^ k) % 256).toNat] := by
  unfold le
  rw [F2p.lit_snoc]
  have h0 : 0 ≤ v % 18446744073709551616 := Int.emod_nonneg _ (by decide)
  obtain ⟨x, hx⟩ := Int.eq_ofNat_of_zero_le h0
  have h1 := div_mod64 v k hk
  rw [hx] at h1 ⊢
  rw [Int.toNat_natCast]
  have h2 : ((x / 256 ^ k % 256 : Nat) : Int) = v / 256 ^ k % 256 := by rw [← h1, Int.natCast_emod, Int.natCast_ediv, Int.natCast_pow]; rfl
  rw [← h2, Int.toNat_natCast]
theorem appn_p (base : Nat) (u : Value) (l : List UInt8) (v : Int) (n : Nat) (w : World) (hown : Mem.Own base w u l) (hb : base ≤ w.heap.size) (hn : n ≤ 8) (hl : l.length ≤ 1000) :
    Calls Try.prog 139 #[u, .int .i64 v, .int .i64 (n : Int)] w fun e w' => ∃ u', e = .returned u' ∧ Mem.Own base w' u' (l ++ le v n) ∧ Below base w w' := by
  obtain ⟨i0, hi, hz0, hz1, hz2⟩ := info_parts info5
  go_enter Try.func139, Try.ntmps139
  go_wp2
  go_loopw [0, 1, 8] (fun x v1 i wr => ∃ k : Nat, k ≤ n ∧ i = .int .i64 (k : Int) ∧ v1 = .int .i64 (v / 256 ^ k) ∧ Mem.Own base wr x (l ++ le v k) ∧ Below base w wr) (fun _ _ i _ => n - (intOf i).toNat)
  case atStart => exact ⟨0, Nat.zero_le _, rfl, by simp, by simpa [le, F2p.lit] using hown, Below.refl _ _⟩
  case round =>
    obtain ⟨k, hk, rfl, rfl, hown, hbel⟩ := hrel
    have hsz := hbel.size
    by_cases hlt : k < n
    · have HS := Lib.hid (le_snoc v k (by omega))
      have hdiv : v / 256 ^ (k + 1) = v / 256 ^ k / 256 := by rw [Int.pow_succ, Int.ediv_ediv_of_nonneg (Int.pow_nonneg (by decide))]
      have HD := Lib.hid hdiv
      clear hdiv
      have hlen := le_len v k
      generalize hy : v / 256 ^ k = y at *
      have HY := Lib.hid hy
      clear hy
      go_wp2_with (at_builtin; go_loud (refine wpList_append_rd _ rfl (.tmp 10) (.tmp 13) _ rfl base 5 i0 _ 1 Try.underlying42 hi hz0 hz1 hz2 rfl _ _ (bvs (l ++ le v k)) rfl (World.ownsRow.alloc hown _) _ _ 1 1 [.int .u8 (y % 256)] rfl rfl (Rd.new wr _ _) (fun hh => by cases hh) one_int (by unfold maxLen; rw [List.length_append, hlen]; omega) (by rw [List.length_append, hlen]; omega) (by simp; omega) ?_); intro v' w1 hown1 hg1)
      have hbel1 : Below base w w1 := below_grown (hbel.alloc (by omega) _) (World.ownsRow.alloc hown _) hg1 (by simp; omega)
      refine ⟨⟨k + 1, by omega, by go_num, vi (by rw [HD.out]), own_of hown1 ?_ ?_, hbel1⟩, by simp [intOf]; omega⟩
      · rw [HS.out]; simp [Nat.add_assoc]
      · rw [HS.out, ← List.append_assoc, bvs_app (l ++ le v k)]
        congr 1
        show _ = [bv _]
        unfold bv
        rw [UInt8.toNat_ofNat']
        have h0 := Int.emod_nonneg y (show (256 : Int) ≠ 0 by decide)
        have h1 := Int.emod_lt_of_pos y (show (0 : Int) < 256 by decide)
        congr 2
        omega
    · obtain rfl : k = n := by omega
      go_wp2
      go_ret
      exact ⟨_, rfl, hown, hbel⟩
/-- The bytes of points. -/
theorem appp_p (base : Nat) (u : Value) (l0 : List UInt8) (A : Option Addr) (n cp : Nat) (l : List Pt) (w : World) (hown : Mem.Own base w u l0) (hrow : PRow base w A l) (hln : n = l.length) (hb : base ≤ w.heap.size) (hn : n ≤ 12) (hl : l0.length ≤ 100) :
    Calls Try.prog 138 #[u, .slice A n cp] w fun e w' => ∃ u', e = .returned u' ∧ Mem.Own base w' u' (l0 ++ [UInt8.ofNat n] ++ body l) ∧ Below base w w' := by
  obtain ⟨i0, hi, hz0, hz1, hz2⟩ := info_parts info5
  have HLN := Lib.hid hln
  have hnv : Value.int .u8 (n : Int) = bv (UInt8.ofNat n) := bv_nat (by omega)
  have HNV := Lib.hid hnv
  have hw8 : IntKind.u8.wrap (n : Int) = (n : Int) := by rw [IntKind.wrap_u8]; omega
  have HB0 := Lib.hid ((Below.refl base w).alloc hb (.cells #[.int .u8 (n : Int)] 5))
  clear hln hnv
  go_enter Try.func138, Try.ntmps138
  go_wp2_with (at_builtin; go_loud (refine wpList_append_rd _ rfl _ _ _ rfl base 5 i0 _ 1 Try.underlying42 hi hz0 hz1 hz2 rfl _ _ (bvs l0) rfl (World.ownsRow.alloc hown _) _ _ 1 1 [.int .u8 (n : Int)] rfl rfl (Rd.new w _ _) (fun hh => by cases hh) one_int (by unfold maxLen; omega) (by omega) (by simp; omega) ?_); intro v1 u1 hown1 hg1; refine Hid.out ?_)
  refine Lib.hid ?_
  have own1 : Mem.Own base u1 v1 (l0 ++ [UInt8.ofNat n]) := own_of hown1 (by simp) (by rw [HNV.out, bvs_app]; rfl)
  have hbu1 : Below base w u1 := below_grown HB0.out (World.ownsRow.alloc hown _) hg1 (by simp; omega)
  clear hown hown1 hg1
  go_wp2_with fail
  go_loopw [0, 15] (fun x i wr => ∃ j : Nat, j ≤ n ∧ i = .int .i64 (j : Int) ∧ Mem.Own base wr x (l0 ++ [UInt8.ofNat n] ++ body (l.take j)) ∧ Below base w wr) (fun _ i _ => n - (intOf i).toNat)
  case atStart => exact ⟨0, Nat.zero_le _, rfl, by simpa [body] using own1, hbu1⟩
  case round =>
    obtain ⟨j, hj, rfl, hown, hbr⟩ := hrel
    clear own1 hbu1
    have hsz := hbr.size
    have hbl := body_len (l.take j)
    rw [List.length_take] at hbl
    have HBL := Lib.hid hbl
    clear hbl
    by_cases hlt : j < n
    · have hjl : j < l.length := by rw [← HLN.out]; exact hlt
      obtain ⟨a, q, rfl, hab, hq, hqb, hc0, hc1⟩ := prow_q (Rd.below hrow hbr) hjl
      have hbs := Lib.hid (body_snoc hjl)
      obtain ⟨r, hr0⟩ : ∃ r, r = l[j].1 := ⟨_, rfl⟩
      obtain ⟨v, hv0⟩ : ∃ v, v = l[j].2 := ⟨_, rfl⟩
      rw [← hr0, ← hv0] at hbs
      rw [← hr0] at hc0
      rw [← hv0] at hc1
      obtain ⟨X, hX⟩ : ∃ X, X = l0 ++ [UInt8.ofNat n] ++ body (l.take j) := ⟨_, rfl⟩
      have hXl : X.length ≤ 300 := by
        have := HBL.out
        rw [hX]
        simp
        omega
      rw [← hX] at hown
      have HX := Lib.hid hX
      clear hr0 hv0 hX
      have hownb : Mem.Own base (wr.alloc (.cells #[.int .u8 (r.toNat : Int), .int .i64 v] 143)) _ X := World.ownsRow.alloc hown _
      have hrowb := heap_alloc_new wr (.cells #[.int .u8 (r.toNat : Int), .int .i64 v] 143)
      have hbb : Below base w (wr.alloc (.cells #[.int .u8 (r.toNat : Int), .int .i64 v] 143)) := hbr.alloc (by omega) _
      have hzb : (wr.alloc (.cells #[.int .u8 (r.toNat : Int), .int .i64 v] 143)).heap.size = wr.heap.size + 1 := World.size_alloc ..
      have hne := fun k (hk : _ = some k) => (World.ownsRow.lt hown k hk).2
      have HZB := Lib.hid hzb
      have HROWB := Lib.hid hrowb
      have HBB := Lib.hid hbb
      have hrd : Rd (wr.heap.size + 1 + 1) ((wr.alloc (.cells #[.int .u8 (r.toNat : Int), .int .i64 v] 143)).alloc (.cells #[.int .u8 (r.toNat : Int)] 5)) (some ⟨wr.heap.size + 1, 0, none⟩) [.int .u8 (r.toNat : Int)] := by
        have := Rd.new (wr.alloc (.cells #[.int .u8 (r.toNat : Int), .int .i64 v] 143)) #[.int .u8 (r.toNat : Int)] 5
        simpa using this
      clear hrowb hbb hzb
      go_wp2_with (at_builtin; go_loud (refine wpList_append_rd _ rfl _ _ _ rfl base 5 i0 _ 1 Try.underlying42 hi hz0 hz1 hz2 rfl _ _ (bvs X) rfl (World.ownsRow.alloc hownb _) _ _ 1 1 [.int .u8 (r.toNat : Int)] rfl rfl hrd (fun hh => by cases hh) one_int (by unfold maxLen; omega) (by omega) (by simp; omega) ?_); intro v3 u3 hown3 hg3; refine Hid.out ?_)
      refine Lib.hid ?_
      have own3 : Mem.Own base u3 v3 (X ++ [r]) := own_of hown3 (by simp) (by unfold bvs; rw [List.map_append]; rfl)
      have hbu3 : Below base w u3 := below_grown (HBB.out.alloc (by rw [HZB.out]; omega) _) (World.ownsRow.alloc hownb _) hg3 (by simp; omega)
      have hrow3 := (hg3.block wr.heap.size (by simp; omega) (fun e => by have := hne _ e.symm; omega)).trans ((Below.heap_alloc _ _ _ (by rw [HZB.out]; omega)).trans HROWB.out)
      have k1 : u3.cell? ⟨wr.heap.size, 1, none⟩ = some (.int .i64 v) := (cell_of_row u3 _ 1 _ _ _ hrow3).trans rfl
      have hz3 := hbu3.size
      clear hown hownb hg3 hown3 hrow3 hne hrd hc0 hc1
      go_wp2_with fail
      refine (appn_p base v3 (X ++ [r]) v 6 u3 own3 (by omega) (by omega) (by simp; omega)).mono ?_
      rintro e u4 ⟨x4, rfl, own4, hb4⟩
      have hbu4 := hbu3.trans hb4
      clear own3 hbu3 hb4 k1
      go_wp2_with fail
      refine ⟨⟨j + 1, by omega, by go_num, ?_, hbu4⟩, by simp [intOf]; omega⟩
      have e : l0 ++ [UInt8.ofNat n] ++ body (l.take (j + 1)) = X ++ [r] ++ le v 6 := by rw [hbs.out, HX.out]; simp [List.append_assoc]
      rw [e]
      exact own4
    · obtain rfl : j = n := by omega
      have htk : l.take j = l := List.take_of_length_le (by rw [← HLN.out]; exact Nat.le_refl _)
      rw [htk] at hown
      go_wp2_with fail
      go_ret
      exact ⟨_, rfl, hown, hbr⟩
end Go.Proofs.Ytcnkiecdagjgmaa.P5
namespace Go.Proofs.Ytcnkiecdagjgmaa.P5
open Go.RowKit Go.Proofs.Ytcnkiecdagjgmaa.Mem Go.Proofs.Ytcnkiecdagjgmaa.M3p Go.Proofs.Ytcnkiecdagjgmaa.C4p Go.Proofs.Ytcnkiecdagjgmaa.C4l Go.Proofs.Ytcnkiecdagjgmaa.C4v Go.Proofs.Ytcnkiecdagjgmaa.P4
set_option maxRecDepth 100000
set_option maxHeartbeats 4000000

theorem or_128 (x : Nat) (h : x < 128) : bits .or .u8 (x : Int) 128 = ((x + 128 : Nat) : Int) := by
  have : ∀ x : Fin 128, bits .or .u8 ((x.val : Nat) : Int) 128 = ((x.val + 128 : Nat) : Int) := by decide +kernel
  exact this ⟨x, h⟩
theorem encn_p (f m b k1 k2 : Int) (s : Bool) (A : Option Addr) (n cp : Nat) (l : List Pt) (w : World) (hsl : PSl w A n cp l) (hv : C4p.vld ⟨f, s, m, b, k1, k2, l⟩ = false) :
    Calls Try.prog 122 #[.agg #[.int .i64 f, .bool s, .int .i64 m, .int .i64 b, .int .i64 k1, .int .i64 k2, .slice A n cp]] w fun e w' => e = .returned (.tuple #[.slice none 0 0, .int .i64 1]) ∧ Below w.heap.size w w' := by
  have hb1 : Below w.heap.size w (w.alloc (.cells #[.int .i64 f, .bool s, .int .i64 m, .int .i64 b, .int .i64 k1, .int .i64 k2, .slice A n cp] 26)) := (Below.refl _ _).alloc (Nat.le_refl _) _
  have HV := Lib.hid (by have := valid_p f m b k1 k2 s A n cp l _ (hsl.step hb1); rw [hv] at this; exact this)
  clear hsl hv
  go_enter Try.func122, Try.ntmps122
  go_wp2_with fail
  refine (HV.out).mono ?_
  rintro e w2 ⟨rfl, hb2⟩
  go_wp2_with fail
  go_ret2
  exact ⟨rfl, hb1.trans (hb2.mono hb1.size)⟩
theorem encp_p (f m b k1 k2 : Int) (s : Bool) (A : Option Addr) (n cp : Nat) (l : List Pt) (w : World) (hsl : PSl w A n cp l) (hv : C4p.vld ⟨f, s, m, b, k1, k2, l⟩ = true) :
    Calls Try.prog 122 #[.agg #[.int .i64 f, .bool s, .int .i64 m, .int .i64 b, .int .i64 k1, .int .i64 k2, .slice A n cp]] w fun e w' => ∃ u, e = .returned (.tuple #[u, .int .i64 0]) ∧ Mem.Own w.heap.size w' u (enc ⟨f, s, m, b, k1, k2, l⟩) ∧ Below w.heap.size w w' := by
  obtain ⟨w1, hw1⟩ : ∃ w1, w1 = w.alloc (.cells #[.int .i64 f, .bool s, .int .i64 m, .int .i64 b, .int .i64 k1, .int .i64 k2, .slice A n cp] 26) := ⟨_, rfl⟩
  have hb1 : Below w.heap.size w w1 := by rw [hw1]; exact (Below.refl _ _).alloc (Nat.le_refl _) _
  have hst : w1.heap[w.heap.size]? = some (.cells #[.int .i64 f, .bool s, .int .i64 m, .int .i64 b, .int .i64 k1, .int .i64 k2, .slice A n cp] 26 (0, 0)) := by rw [hw1]; exact heap_alloc_new w _
  have hlt : w.heap.size < w1.heap.size := by rw [hw1]; simp
  have HV := Lib.hid (by have := valid_p f m b k1 k2 s A n cp l w1 (hsl.step hb1); rw [hv] at this; exact this)
  obtain ⟨hhd, f1, f5⟩ := hd_nat hv
  dsimp only at hhd f1 f5
  have hn12 : n ≤ 12 := by
    rw [hsl.len]
    by_cases h5 : f = 5
    · exact (vld_tab hv h5).2.1.2
    · have : l = [] := (vld_lin hv h5).2.2
      rw [this]; exact Nat.zero_le _
  obtain ⟨H, hH⟩ : ∃ H, H = hd ⟨f, s, m, b, k1, k2, l⟩ := ⟨_, rfl⟩
  rw [← hH] at hhd
  have hen : enc ⟨f, s, m, b, k1, k2, l⟩ = if f = 5 then [H] ++ [UInt8.ofNat n] ++ body l else [H] ++ le m 2 ++ le b 2 ++ le k1 1 ++ le k2 1 := by
    unfold enc
    rw [← hH]
    split
    · rw [hsl.len]; rfl
    · simp
  have HEN := Lib.hid hen
  have hfx : ∃ x : Nat, f = (x : Int) ∧ x ≤ 5 := ⟨f.toNat, by omega, by omega⟩
  obtain ⟨x, rfl, hx5⟩ := hfx
  have hhx : (H.toNat : Int) = (x : Int) + if s = true then 128 else 0 := by rw [hhd]; split <;> simp
  have HH := Lib.hid hhx
  have hor := or_128 x (by omega)
  have hw8 : IntKind.u8.wrap (x : Int) = (x : Int) := by rw [IntKind.wrap_u8]; omega
  have HSL := Lib.hid hsl
  clear hen hH hhd hhx hsl hv
  go_enter Try.func122, Try.ntmps122
  go_wp2_with fail
  rw [← hw1]
  clear hw1
  refine (HV.out).mono ?_
  rintro e w2 ⟨rfl, hb2⟩
  have hbb : Below w.heap.size w w2 := hb1.trans (hb2.mono hb1.size)
  have hrow2 := (hb2.block _ hlt).trans hst
  have hcel : ∀ u, Below w2.heap.size w2 u → u.cell? ⟨w.heap.size, 0, none⟩ = some (.int .i64 (x : Int)) ∧ u.cell? ⟨w.heap.size, 1, none⟩ = some (.bool s) ∧ u.cell? ⟨w.heap.size, 2, none⟩ = some (.int .i64 m) ∧ u.cell? ⟨w.heap.size, 3, none⟩ = some (.int .i64 b) ∧ u.cell? ⟨w.heap.size, 4, none⟩ = some (.int .i64 k1) ∧ u.cell? ⟨w.heap.size, 5, none⟩ = some (.int .i64 k2) ∧ u.cell? ⟨w.heap.size, 6, none⟩ = some (.slice A n cp) := by
    intro u hu
    have hr := (hu.block w.heap.size (Nat.lt_of_lt_of_le hlt hb2.size)).trans hrow2
    exact ⟨(cell_of_row u _ 0 _ _ _ hr).trans rfl, (cell_of_row u _ 1 _ _ _ hr).trans rfl, (cell_of_row u _ 2 _ _ _ hr).trans rfl, (cell_of_row u _ 3 _ _ _ hr).trans rfl, (cell_of_row u _ 4 _ _ _ hr).trans rfl, (cell_of_row u _ 5 _ _ _ hr).trans rfl, (cell_of_row u _ 6 _ _ _ hr).trans rfl⟩
  have HC := Lib.hid hcel
  obtain ⟨c0, c1, c2, c3, c4, c5, c6⟩ := hcel w2 (Below.refl _ _)
  have hbu0 : ∀ y : Int, Below w2.heap.size w2 (w2.alloc (.cells #[.int .u8 y] 5)) := fun y => (Below.refl _ _).alloc (Nat.le_refl _) _
  have own0 : ∀ y : Int, y = (H.toNat : Int) → Mem.Own w2.heap.size (w2.alloc (.cells #[.int .u8 y] 5)) (.slice (some ⟨w2.heap.size, 0, none⟩) 1 1) [H] := fun y hy => own_of (World.ownsRow_lit (base := w2.heap.size) (e := 5) (size := 1) w2 #[.int .u8 y] 1 (Nat.le_refl _) (by unfold maxLen; omega) rfl) rfl (by simp [bvs, bv]; exact hy)
  have HO := Lib.hid own0
  have HBU := Lib.hid hbu0
  have hrowp : PRow w2.heap.size w2 A l := (Rd.below HSL.out.row hbb).more hbb.size
  have HRP := Lib.hid hrowp
  clear hst hlt hb1 hb2 hrow2 hcel own0 hbu0 hrowp HV
  by_cases h5 : x = 5
  · subst h5
    have e5 : ((5 : Nat) : Int) = 5 := rfl
    rw [e5] at hw8 hor c0
    have he := HEN.out
    rw [if_pos (show ((5 : Nat) : Int) = 5 from rfl)] at he
    cases s
    · have hbY := HBU.out 5
      obtain ⟨d0, d1, d2, d3, d4, d5, d6⟩ := HC.out _ hbY
      have hoY := HO.out 5 (by rw [HH.out]; simp)
      have hrY := Rd.below HRP.out hbY
      clear c2 c3 c4 c5 d1 d2 d3 d4 d5
      go_wp2_with fail
      refine (appp_p w2.heap.size _ [H] A n cp l _ hoY hrY HSL.out.len (by simp) hn12 (by simp)).mono ?_
      rintro e u1 ⟨x1, rfl, own1, hb1⟩
      go_wp2_with fail
      go_ret2
      exact ⟨_, rfl, by rw [he]; exact own1.base_ hbb.size, hbb.trans ((hbY.trans hb1).mono hbb.size)⟩
    · have hbY := HBU.out 133
      obtain ⟨d0, d1, d2, d3, d4, d5, d6⟩ := HC.out _ hbY
      have hoY := HO.out 133 (by rw [HH.out]; simp)
      have hrY := Rd.below HRP.out hbY
      clear c2 c3 c4 c5 d1 d2 d3 d4 d5
      go_wp2_with fail
      refine (appp_p w2.heap.size _ [H] A n cp l _ hoY hrY HSL.out.len (by simp) hn12 (by simp)).mono ?_
      rintro e u1 ⟨x1, rfl, own1, hb1⟩
      go_wp2_with fail
      go_ret2
      exact ⟨_, rfl, by rw [he]; exact own1.base_ hbb.size, hbb.trans ((hbY.trans hb1).mono hbb.size)⟩
  · have he := HEN.out
    rw [if_neg (by omega)] at he
    have hne : ((x : Int) == 5) = false := by rw [beq_eq_false_iff_ne]; omega
    clear c2 c3 c4 c5 c6
    cases s
    · have hbY := HBU.out (x : Int)
      obtain ⟨d0, d1, d2, d3, d4, d5, d6⟩ := HC.out _ hbY
      have hoY := HO.out (x : Int) (by rw [HH.out]; simp)
      go_wp2_with fail
      refine (appn_p w2.heap.size _ [H] m 2 _ hoY (by simp) (by omega) (by simp)).mono ?_
      rintro e u1 ⟨x1, rfl, own1, hb1⟩
      have hbu1 := hbY.trans hb1
      have hz1 := hbu1.size
      clear d0 d1 d2 d3 d4 d5 d6 hb1 hbY hoY
      obtain ⟨d0, d1, d2, d3, d4, d5, d6⟩ := HC.out _ hbu1
      go_wp2_with fail
      refine (appn_p w2.heap.size _ ([H] ++ le m 2) b 2 _ own1 hz1 (by omega) (by simp [le_len])).mono ?_
      rintro e u2 ⟨x2, rfl, own2, hb2⟩
      have hbu2 := hbu1.trans hb2
      have hz2 := hbu2.size
      clear d0 d1 d2 d3 d4 d5 d6 hb2 hbu1 own1
      obtain ⟨d0, d1, d2, d3, d4, d5, d6⟩ := HC.out _ hbu2
      go_wp2_with fail
      refine (appn_p w2.heap.size _ ([H] ++ le m 2 ++ le b 2) k1 1 _ own2 hz2 (by omega) (by simp [le_len])).mono ?_
      rintro e u3 ⟨x3, rfl, own3, hb3⟩
      have hbu3 := hbu2.trans hb3
      have hz3 := hbu3.size
      clear d0 d1 d2 d3 d4 d5 d6 hb3 hbu2 own2
      obtain ⟨d0, d1, d2, d3, d4, d5, d6⟩ := HC.out _ hbu3
      go_wp2_with fail
      refine (appn_p w2.heap.size _ ([H] ++ le m 2 ++ le b 2 ++ le k1 1) k2 1 _ own3 hz3 (by omega) (by simp [le_len])).mono ?_
      rintro e u4 ⟨x4, rfl, own4, hb4⟩
      go_wp2_with fail
      go_ret2
      exact ⟨_, rfl, by rw [he]; exact own4.base_ hbb.size, hbb.trans ((hbu3.trans hb4).mono hbb.size)⟩
    · have hbY := HBU.out ((x : Int) + 128)
      obtain ⟨d0, d1, d2, d3, d4, d5, d6⟩ := HC.out _ hbY
      have hoY := HO.out ((x : Int) + 128) (by rw [HH.out]; simp)
      go_wp2_with fail
      refine (appn_p w2.heap.size _ [H] m 2 _ hoY (by simp) (by omega) (by simp)).mono ?_
      rintro e u1 ⟨x1, rfl, own1, hb1⟩
      have hbu1 := hbY.trans hb1
      have hz1 := hbu1.size
      clear d0 d1 d2 d3 d4 d5 d6 hb1 hbY hoY
      obtain ⟨d0, d1, d2, d3, d4, d5, d6⟩ := HC.out _ hbu1
      go_wp2_with fail
      refine (appn_p w2.heap.size _ ([H] ++ le m 2) b 2 _ own1 hz1 (by omega) (by simp [le_len])).mono ?_
      rintro e u2 ⟨x2, rfl, own2, hb2⟩
      have hbu2 := hbu1.trans hb2
      have hz2 := hbu2.size
      clear d0 d1 d2 d3 d4 d5 d6 hb2 hbu1 own1
      obtain ⟨d0, d1, d2, d3, d4, d5, d6⟩ := HC.out _ hbu2
      go_wp2_with fail
      refine (appn_p w2.heap.size _ ([H] ++ le m 2 ++ le b 2) k1 1 _ own2 hz2 (by omega) (by simp [le_len])).mono ?_
      rintro e u3 ⟨x3, rfl, own3, hb3⟩
      have hbu3 := hbu2.trans hb3
      have hz3 := hbu3.size
      clear d0 d1 d2 d3 d4 d5 d6 hb3 hbu2 own2
      obtain ⟨d0, d1, d2, d3, d4, d5, d6⟩ := HC.out _ hbu3
      go_wp2_with fail
      refine (appn_p w2.heap.size _ ([H] ++ le m 2 ++ le b 2 ++ le k1 1) k2 1 _ own3 hz3 (by omega) (by simp [le_len])).mono ?_
      rintro e u4 ⟨x4, rfl, own4, hb4⟩
      go_wp2_with fail
      go_ret2
      exact ⟨_, rfl, by rw [he]; exact own4.base_ hbb.size, hbb.trans ((hbu3.trans hb4).mono hbb.size)⟩
end Go.Proofs.Ytcnkiecdagjgmaa.P5
