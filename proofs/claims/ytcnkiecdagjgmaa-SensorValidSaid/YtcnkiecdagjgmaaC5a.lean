/- Walks: the reference of conversions: the nearest raw reading. Walks: the reference of conversions: the direction of the values. Walks: the reference of conversions: bytes in two's complement. Walks: the reference of conversions: bytes of conversions without a table. Walks: the reference of conversions: bytes of tables. -/
import Derived.Test.YtcnkiecdagjgmaaC4z
namespace Go.Proofs.Ytcnkiecdagjgmaa.C4v
open Go.RowKit Go.Proofs.Ytcnkiecdagjgmaa.Mem Go.Proofs.Ytcnkiecdagjgmaa.M3p Go.Proofs.Ytcnkiecdagjgmaa.M3r Go.Proofs.Ytcnkiecdagjgmaa.C4p Go.Proofs.Ytcnkiecdagjgmaa.C4l
set_option maxRecDepth 100000
set_option maxHeartbeats 4000000

theorem least_b (s : Bool) : -128 ≤ least s ∧ least s ≤ 0 := by
  unfold least
  split <;> omega
end Go.Proofs.Ytcnkiecdagjgmaa.C4v
namespace Go.Proofs.Ytcnkiecdagjgmaa.C4v
open Go.RowKit Go.Proofs.Ytcnkiecdagjgmaa.Mem Go.Proofs.Ytcnkiecdagjgmaa.M3p Go.Proofs.Ytcnkiecdagjgmaa.M3r Go.Proofs.Ytcnkiecdagjgmaa.C4p Go.Proofs.Ytcnkiecdagjgmaa.C4l
set_option maxRecDepth 100000
set_option maxHeartbeats 4000000

end Go.Proofs.Ytcnkiecdagjgmaa.C4v
namespace Go.Proofs.Ytcnkiecdagjgmaa.C4v
open Go.RowKit Go.Proofs.Ytcnkiecdagjgmaa.Mem Go.Proofs.Ytcnkiecdagjgmaa.M3p Go.Proofs.Ytcnkiecdagjgmaa.C4p Go.Proofs.Ytcnkiecdagjgmaa.C4l
set_option maxRecDepth 100000
set_option maxHeartbeats 4000000

theorem num_drop (l : List UInt8) (k : Nat) (h : k < l.length) : F2p.num (l.drop k) = 256 * F2p.num (l.drop (k + 1)) + l[k].toNat := by
  rw [List.drop_eq_getElem_cons h, F2p.num]; omega

theorem number_any (A : Option Addr) (c : Nat) (l : List UInt8) (B : Nat) (w : World) (h : Row B w A l) (hl : l.length ≤ 8) :
    Calls Try.prog 101 #[.slice A l.length c] w fun e w' => e = .returned (.int .u64 (F2p.num l)) ∧ w = w' := by
  go_enter Try.func101, Try.ntmps101
  go_wp2
  go_loop [3, 4] (fun v i => ∃ k : Nat, k ≤ l.length ∧ i = .int .i64 ((k : Int) - 1) ∧ v = .int .u64 (F2p.num (l.drop k))) (fun _ i => (intOf i + 1).toNat)
  case atStart => exact ⟨l.length, Nat.le_refl _, rfl, by simp [F2p.num]⟩
  case round =>
    obtain ⟨k, hk, rfl, rfl⟩ := hrel
    rcases k with _ | k
    · go_wp2
      go_ret
      exact ⟨rfl, rfl⟩
    · obtain ⟨a, rfl, hb, hc⟩ := row_at h (k := k) (by omega)
      have hn := num_drop l k (by omega)
      have hlt := F2p.num_lt (l.drop k)
      have hx := l[k].toNat_lt
      have hp : 256 ^ (l.drop k).length ≤ 256 ^ 8 := Nat.pow_le_pow_right (by omega) (by rw [List.length_drop]; omega)
      have hq : 256 * F2p.num (l.drop (k + 1)) + l[k].toNat < 18446744073709551616 := by rw [← hn]; exact Nat.lt_of_lt_of_le hlt hp
      have HN := Lib.hid hn; clear hn hlt hp
      go_wp2
      refine ⟨⟨k, by omega, rfl, vi ?_⟩, by simp [intOf]⟩
      rw [HN.out]
      omega

theorem littles_any (v n : Nat) (w : World) (hv : v < 18446744073709551616) (hn : n ≤ 100) :
    Calls Try.prog 93 #[.int .u64 v, .int .i64 n] w fun e w' => ∃ u, e = .returned u ∧ Own w.heap.size w' u (F2p.lit v n) ∧ Below w.heap.size w w' := by
  obtain ⟨i0, hi, hz0, hz1, hz2⟩ := info_parts info5
  go_enter Try.func93, Try.ntmps93
  go_wp2
  go_loopw [0, 5, 6] (fun x u i wr => ∃ k : Nat, k ≤ n ∧ i = .int .i64 k ∧ x = .int .u64 ((v / 256 ^ k : Nat) : Int) ∧ Own w.heap.size wr u (F2p.lit v k) ∧ Below w.heap.size w wr) (fun _ _ i _ => n - (intOf i).toNat)
  case atStart => exact ⟨0, Nat.zero_le _, rfl, by simp, Own.nil, Below.refl _ _⟩
  case round =>
    obtain ⟨k, hk, rfl, rfl, hown, hbel⟩ := hrel
    have hq : v / 256 ^ k < 18446744073709551616 := Nat.lt_of_le_of_lt (Nat.div_le_self _ _) hv
    by_cases hlt : k < n
    · generalize hy : v / 256 ^ k = y at *
      have HY := Lib.hid hy; clear hy
      go_wp2_with (at_builtin; go_loud (refine wpList_append_rd _ rfl (.tmp 12) (.tmp 16) _ rfl w.heap.size 5 i0 _ 1 Try.underlying42 hi hz0 hz1 hz2 rfl _ (F2p.lit v k).length (bvs (F2p.lit v k)) rfl (World.ownsRow.alloc hown _) _ _ 1 1 [.int .u8 ((y : Int) % 256)] rfl rfl (Rd.new wr _ _) (fun hh => by cases hh) one_int (by unfold maxLen; rw [F2p.lit_len]; omega) (by rw [F2p.lit_len]; omega) (by have := hbel.size; simp; omega) ?_); intro v' w1 hown1 hg1)
      have hbel1 : Below w.heap.size w w1 := below_grown (hbel.alloc hbel.size _) (World.ownsRow.alloc hown _) hg1 (by have := hbel.size; simp; omega)
      go_roundw
      case rel => exact ⟨k + 1, by omega, by go_num, vi (by rw [← HY.out, Nat.pow_succ, ← Nat.div_div_eq_div_mul]; omega), own_of hown1 (by simp [F2p.lit_len]) (by rw [F2p.lit_snoc, HY.out, bvs_app, bv_mod]; rfl), hbel1⟩
      case measure => simp [intOf]; omega
    · obtain rfl : k = n := by omega
      go_wp2
      go_ret
      exact ⟨_, rfl, hown, hbel⟩

theorem little_r (v : Int) (n : Nat) (w : World) (hn : n ≤ 100) :
    Calls Try.prog 125 #[.int .i64 v, .int .i64 (n : Int)] w fun e w' => ∃ u, e = .returned u ∧ Own w.heap.size w' u (le v n) ∧ Below w.heap.size w w' := by
  obtain ⟨x, hx⟩ : ∃ x : Nat, x = (v % 18446744073709551616).toNat := ⟨_, rfl⟩
  have hxI : v % 18446744073709551616 = (x : Int) := by omega
  have hl : le v n = F2p.lit x n := by unfold le; rw [← hx]
  rw [hl]
  have HL := Lib.hid (fun u => littles_any x n u (by omega) hn)
  clear hx hl
  have hxW : IntKind.u64.wrap v = (x : Int) := by rw [IntKind.wrap_u64]; exact hxI
  clear hxI
  go_enter Try.func125, Try.ntmps125
  go_wp2_with fail
  refine (HL.out _).mono ?_
  rintro e w' ⟨u, rfl, ho, hb⟩
  go_wp2_with fail
  go_ret
  exact ⟨u, rfl, ho, hb⟩
theorem top_is {l : List UInt8} {k : Nat} (h : l.length = k + 1) : top l = decide (128 ≤ l[k].toNat) := by
  have e : l.getLast? = some l[k] := by
    rw [List.getLast?_eq_getElem?, show l.length - 1 = k by omega, List.getElem?_eq_getElem (by omega)]
  unfold top
  rw [e]
theorem signed_1 (A : Option Addr) (c : Nat) (l : List UInt8) (B : Nat) (w : World) (h : Row B w A l) (hl : l.length = 1) :
    Calls Try.prog 129 #[.slice A 1 c] w fun e w' => e = .returned (.int .i64 (sgn l)) ∧ w = w' := by
  have hlt := F2p.num_lt l
  rw [hl, show (256 : Nat) ^ 1 = 256 by decide] at hlt
  have HN := Lib.hid (fun u (hu : Row B u A l) => by have := number_any A c l B u hu (by omega); rw [hl] at this; exact this)
  obtain ⟨a, rfl, hab, hc0⟩ := row_at h (k := 0) (by omega)
  have hc : w.cell? a = some (.int .u8 (l[0].toNat : Int)) := hc0
  clear hc0
  have ht := top_is hl
  obtain ⟨x, hx⟩ : ∃ x, x = l[0].toNat := ⟨_, rfl⟩
  rw [← hx] at hc ht
  have hx8 : x < 256 := by rw [hx]; exact l[0].toNat_lt
  have hsg : sgn l = (F2p.num l : Int) - if 128 ≤ x then 256 else 0 := by
    unfold sgn
    rw [ht, hl, show (256 : Int) ^ 1 = 256 by decide]
    simp only [decide_eq_true_eq]
  obtain ⟨R, hR⟩ : ∃ R, R = sgn l := ⟨_, rfl⟩
  rw [← hR] at hsg ⊢
  have HS := Lib.hid hsg
  clear hR hsg ht hx hl
  generalize F2p.num l = N at *
  by_cases h128 : 128 ≤ x
  · have HR := Lib.hid (show R = (N : Int) - 256 by rw [HS.out, if_pos h128])
    go_enter Try.func129, Try.ntmps129
    go_wp2_with fail
    refine (HN.out _ h).mono ?_
    rintro e w' ⟨rfl, rfl⟩
    go_wp2_with fail
    go_ret
    exact ⟨ret_int (by rw [HR.out]), rfl⟩
  · have HR := Lib.hid (show R = (N : Int) by rw [HS.out, if_neg h128]; omega)
    go_enter Try.func129, Try.ntmps129
    go_wp2_with fail
    refine (HN.out _ h).mono ?_
    rintro e w' ⟨rfl, rfl⟩
    go_wp2_with fail
    go_ret
    exact ⟨ret_int (by rw [HR.out]), rfl⟩
theorem signed_2 (A : Option Addr) (c : Nat) (l : List UInt8) (B : Nat) (w : World) (h : Row B w A l) (hl : l.length = 2) :
    Calls Try.prog 129 #[.slice A 2 c] w fun e w' => e = .returned (.int .i64 (sgn l)) ∧ w = w' := by
  have hlt := F2p.num_lt l
  rw [hl, show (256 : Nat) ^ 2 = 65536 by decide] at hlt
  have HN := Lib.hid (fun u (hu : Row B u A l) => by have := number_any A c l B u hu (by omega); rw [hl] at this; exact this)
  obtain ⟨a, rfl, hab, hc0⟩ := row_at h (k := 1) (by omega)
  have hc : w.cell? ⟨a.block, a.off + 1, none⟩ = some (.int .u8 (l[1].toNat : Int)) := hc0
  clear hc0
  have ht := top_is hl
  obtain ⟨x, hx⟩ : ∃ x, x = l[1].toNat := ⟨_, rfl⟩
  rw [← hx] at hc ht
  have hx8 : x < 256 := by rw [hx]; exact l[1].toNat_lt
  have hsg : sgn l = (F2p.num l : Int) - if 128 ≤ x then 65536 else 0 := by
    unfold sgn
    rw [ht, hl, show (256 : Int) ^ 2 = 65536 by decide]
    simp only [decide_eq_true_eq]
  obtain ⟨R, hR⟩ : ∃ R, R = sgn l := ⟨_, rfl⟩
  rw [← hR] at hsg ⊢
  have HS := Lib.hid hsg
  clear hR hsg ht hx hl
  generalize F2p.num l = N at *
  by_cases h128 : 128 ≤ x
  · have HR := Lib.hid (show R = (N : Int) - 65536 by rw [HS.out, if_pos h128])
    go_enter Try.func129, Try.ntmps129
    go_wp2_with fail
    refine (HN.out _ h).mono ?_
    rintro e w' ⟨rfl, rfl⟩
    go_wp2_with fail
    go_ret
    exact ⟨ret_int (by rw [HR.out]), rfl⟩
  · have HR := Lib.hid (show R = (N : Int) by rw [HS.out, if_neg h128]; omega)
    go_enter Try.func129, Try.ntmps129
    go_wp2_with fail
    refine (HN.out _ h).mono ?_
    rintro e w' ⟨rfl, rfl⟩
    go_wp2_with fail
    go_ret
    exact ⟨ret_int (by rw [HR.out]), rfl⟩
theorem signed_6 (A : Option Addr) (c : Nat) (l : List UInt8) (B : Nat) (w : World) (h : Row B w A l) (hl : l.length = 6) :
    Calls Try.prog 129 #[.slice A 6 c] w fun e w' => e = .returned (.int .i64 (sgn l)) ∧ w = w' := by
  have hlt := F2p.num_lt l
  rw [hl, show (256 : Nat) ^ 6 = 281474976710656 by decide] at hlt
  have HN := Lib.hid (fun u (hu : Row B u A l) => by have := number_any A c l B u hu (by omega); rw [hl] at this; exact this)
  obtain ⟨a, rfl, hab, hc0⟩ := row_at h (k := 5) (by omega)
  have hc : w.cell? ⟨a.block, a.off + 5, none⟩ = some (.int .u8 (l[5].toNat : Int)) := hc0
  clear hc0
  have ht := top_is hl
  obtain ⟨x, hx⟩ : ∃ x, x = l[5].toNat := ⟨_, rfl⟩
  rw [← hx] at hc ht
  have hx8 : x < 256 := by rw [hx]; exact l[5].toNat_lt
  have hsg : sgn l = (F2p.num l : Int) - if 128 ≤ x then 281474976710656 else 0 := by
    unfold sgn
    rw [ht, hl, show (256 : Int) ^ 6 = 281474976710656 by decide]
    simp only [decide_eq_true_eq]
  obtain ⟨R, hR⟩ : ∃ R, R = sgn l := ⟨_, rfl⟩
  rw [← hR] at hsg ⊢
  have HS := Lib.hid hsg
  clear hR hsg ht hx hl
  generalize F2p.num l = N at *
  by_cases h128 : 128 ≤ x
  · have HR := Lib.hid (show R = (N : Int) - 281474976710656 by rw [HS.out, if_pos h128])
    go_enter Try.func129, Try.ntmps129
    go_wp2_with fail
    refine (HN.out _ h).mono ?_
    rintro e w' ⟨rfl, rfl⟩
    go_wp2_with fail
    go_ret
    exact ⟨ret_int (by rw [HR.out]), rfl⟩
  · have HR := Lib.hid (show R = (N : Int) by rw [HS.out, if_neg h128]; omega)
    go_enter Try.func129, Try.ntmps129
    go_wp2_with fail
    refine (HN.out _ h).mono ?_
    rintro e w' ⟨rfl, rfl⟩
    go_wp2_with fail
    go_ret
    exact ⟨ret_int (by rw [HR.out]), rfl⟩
end Go.Proofs.Ytcnkiecdagjgmaa.C4v
namespace Go.Proofs.Ytcnkiecdagjgmaa.C4v
open Go.RowKit Go.Proofs.Ytcnkiecdagjgmaa.Mem Go.Proofs.Ytcnkiecdagjgmaa.M3p Go.Proofs.Ytcnkiecdagjgmaa.M3r Go.Proofs.Ytcnkiecdagjgmaa.C4p Go.Proofs.Ytcnkiecdagjgmaa.C4l
set_option maxRecDepth 100000
set_option maxHeartbeats 4000000

theorem enc_no (f m b k1 k2 : Int) (s : Bool) (A : Option Addr) (n cp : Nat) (l : List Pt) (w : World) (hsl : PSl w A n cp l) (hv : vld ⟨f, s, m, b, k1, k2, l⟩ = false) :
    Calls Try.prog 94 #[.agg #[.int .i64 f, .bool s, .int .i64 m, .int .i64 b, .int .i64 k1, .int .i64 k2, .slice A n cp]] w fun e w' => e = .returned (.tuple #[.slice none 0 0, .int .i64 1]) ∧ Below w.heap.size w w' := by
  have hb1 : Below w.heap.size w (w.alloc (.cells #[.int .i64 f, .bool s, .int .i64 m, .int .i64 b, .int .i64 k1, .int .i64 k2, .slice A n cp] 26)) := (Below.refl _ _).alloc (Nat.le_refl _) _
  have HV := Lib.hid (by have := valid_r f m b k1 k2 s A n cp l _ (hsl.step hb1); rw [hv] at this; exact this)
  clear hsl hv
  go_enter Try.func94, Try.ntmps94
  go_wp2_with fail
  refine (HV.out).mono ?_
  rintro e w2 ⟨rfl, hb2⟩
  go_wp2_with fail
  go_ret2
  exact ⟨rfl, hb1.trans (hb2.mono hb1.size)⟩
theorem enc_lin (f m b k1 k2 : Int) (s : Bool) (A : Option Addr) (n cp : Nat) (l : List Pt) (w : World) (hsl : PSl w A n cp l) (hv : vld ⟨f, s, m, b, k1, k2, l⟩ = true) (h5 : f ≠ 5) :
    Calls Try.prog 94 #[.agg #[.int .i64 f, .bool s, .int .i64 m, .int .i64 b, .int .i64 k1, .int .i64 k2, .slice A n cp]] w fun e w' => ∃ u, e = .returned (.tuple #[u, .int .i64 0]) ∧ Own w.heap.size w' u (enc ⟨f, s, m, b, k1, k2, l⟩) ∧ Below w.heap.size w w' := by
  obtain ⟨i0, hi, hz0, hz1', hzq⟩ := info_parts info5
  obtain ⟨w1, hw1⟩ : ∃ w1, w1 = w.alloc (.cells #[.int .i64 f, .bool s, .int .i64 m, .int .i64 b, .int .i64 k1, .int .i64 k2, .slice A n cp] 26) := ⟨_, rfl⟩
  have hb1 : Below w.heap.size w w1 := by rw [hw1]; exact (Below.refl _ _).alloc (Nat.le_refl _) _
  have hst : w1.heap[w.heap.size]? = some (.cells #[.int .i64 f, .bool s, .int .i64 m, .int .i64 b, .int .i64 k1, .int .i64 k2, .slice A n cp] 26 (0, 0)) := by rw [hw1]; exact heap_alloc_new w _
  have hlt : w.heap.size < w1.heap.size := by rw [hw1]; simp
  have hc : ∀ i v, (#[.int .i64 f, .bool s, .int .i64 m, .int .i64 b, .int .i64 k1, .int .i64 k2, .slice A n cp] : Array Value)[i]? = some v → w1.cell? ⟨w.heap.size, i, none⟩ = some v := by
    intro i v h
    rw [cell_of_row w1 w.heap.size i _ _ _ hst]
    exact h
  have HC := Lib.hid hc
  have HV := Lib.hid (by have := valid_r f m b k1 k2 s A n cp l w1 (hsl.step hb1); rw [hv] at this; exact this)
  obtain ⟨⟨f1, f4⟩, -, -⟩ := vld_lin hv h5
  dsimp only at f1 f4
  have hhd := hd_nat hv
  dsimp only at hhd
  have hen : enc ⟨f, s, m, b, k1, k2, l⟩ = [hd ⟨f, s, m, b, k1, k2, l⟩] ++ le m 2 ++ le b 2 ++ le k1 1 ++ le k2 1 := by unfold enc; rw [if_neg h5]; simp
  obtain ⟨R, hR⟩ : ∃ R, R = enc ⟨f, s, m, b, k1, k2, l⟩ := ⟨_, rfl⟩
  rw [← hR]
  rw [← hR] at hen
  have HEN := Lib.hid hen
  obtain ⟨H, hH⟩ : ∃ H, H = hd ⟨f, s, m, b, k1, k2, l⟩ := ⟨_, rfl⟩
  rw [← hH] at HEN hhd
  have hne : (f != 5) = true := by rw [bne_iff_ne]; exact h5
  have hfx : ∃ x : Nat, f = (x : Int) ∧ x ≤ 4 := ⟨f.toNat, by omega, by omega⟩
  obtain ⟨x, rfl, hx4⟩ := hfx
  have hhx : H.toNat = x + if s = true then 128 else 0 := by rw [hhd.1]; rfl
  have HH := Lib.hid hhx
  clear hc hst hen hR hH hhd h5 hv hhx hsl
  cases s
  · go_enter Try.func94, Try.ntmps94
    go_wp2_with fail
    rw [← hw1]
    clear hw1
    refine (HV.out).mono ?_
    rintro e w2 ⟨rfl, hb2⟩
    have hbb : Below w.heap.size w w2 := hb1.trans (hb2.mono hb1.size)
    have HLT := Lib.hid hlt
    have HCC := Lib.hid (fun i v h wr (hr : Below w1.heap.size w2 wr) => (by rw [hr.cell (p := ⟨w.heap.size, i, none⟩) (by exact hlt), hb2.cell (p := ⟨w.heap.size, i, none⟩) hlt]; exact HC.out i v h : wr.cell? ⟨w.heap.size, i, none⟩ = some v))
    have HB2 := Lib.hid hb2
    have hbu0 : Below w1.heap.size w2 (w2.alloc (.cells #[.int .u8 (x : Int)] 5)) := (Below.refl _ _).alloc HB2.out.size _
    have d0 := HCC.out 0 _ rfl _ hbu0
    have d2 := HCC.out 2 _ rfl _ hbu0
    have c0 := HCC.out 0 _ rfl w2 (Below.refl _ _)
    have c1 := HCC.out 1 _ rfl w2 (Below.refl _ _)
    have own0 : Own w1.heap.size (w2.alloc (.cells #[.int .u8 (x : Int)] 5)) (.slice (some ⟨w2.heap.size, 0, none⟩) 1 1) [H] := own_of (World.ownsRow_lit (base := w1.heap.size) (e := 5) (size := 1) w2 #[.int .u8 (x : Int)] 1 HB2.out.size (by unfold maxLen; omega) rfl) rfl (by
          have e : H.toNat = x := by have := HH.out; simpa using this
          simp [bvs, bv]; omega)
    clear hb1 hb2 HC HV hlt
    go_wp2_with fail
    generalize w2.alloc (.cells #[.int .u8 (x : Int)] 5) = u0 at *
    obtain ⟨v0, hv0⟩ : ∃ v, v = Value.slice (some ⟨w2.heap.size, 0, none⟩) 1 1 := ⟨_, rfl⟩
    have hzs := hbu0.size
    have hz1 := HB2.out.size
    refine (little_r m 2 u0 (by omega)).mono ?_
    rintro e y0 ⟨z0, rfl, hz0, hy0⟩
    obtain ⟨A0, n0, p0, rfl, sl0⟩ := Sl.of_own hz0
    have hlen0 : n0 = 2 := by rw [sl0.len, le_len]
    subst hlen0
    have hby0 : Below w1.heap.size w2 y0 := hbu0.trans (hy0.mono (by omega))
    have owy0 : Own w1.heap.size y0 (.slice (some ⟨w2.heap.size, 0, none⟩) 1 1) [H] := own0.below hy0 (Nat.le_refl _)
    have hsy0 := hy0.size
    clear own0 hz0
    go_wp2_with (at_builtin; go_loud (refine wpList_append_rd _ rfl _ _ _ rfl w1.heap.size 5 i0 _ 1 Try.underlying42 hi hz0 hz1' hzq rfl _ _ (bvs [H]) rfl owy0 _ A0 2 p0 (bvs (le m 2)) rfl (by rw [len_bvs, le_len]) sl0.row sl0.nil (bvs_one _) (by unfold maxLen; simp) (by simp) (by omega) ?_); intro v1 u1 hown1 hg1; refine Hid.out ?_)
    refine Lib.hid ?_
    have own1 : Own w1.heap.size u1 v1 ([H] ++ le m 2) := own_of hown1 (by simp [le_len]) (bvs_app _ _).symm
    have hbu1 : Below w1.heap.size w2 u1 := below_grown hby0 owy0 hg1 (by omega)
    have hzu1 := hg1.size
    clear owy0 hg1 hown1
    have d3 := HCC.out 3 _ rfl _ hbu1
    go_wp2_with fail
    refine (little_r b 2 u1 (by omega)).mono ?_
    rintro e y1 ⟨z1, rfl, hz1, hy1⟩
    obtain ⟨A1, n1, p1, rfl, sl1⟩ := Sl.of_own hz1
    have hlen1 : n1 = 2 := by rw [sl1.len, le_len]
    subst hlen1
    have hby1 : Below w1.heap.size w2 y1 := hbu1.trans (hy1.mono (by omega))
    have owy1 : Own w1.heap.size y1 v1 ([H] ++ le m 2) := own1.below hy1 (Nat.le_refl _)
    have hsy1 := hy1.size
    clear own1 hz1
    go_wp2_with (at_builtin; go_loud (refine wpList_append_rd _ rfl _ _ _ rfl w1.heap.size 5 i0 _ 1 Try.underlying42 hi hz0 hz1' hzq rfl _ _ (bvs ([H] ++ le m 2)) rfl owy1 _ A1 2 p1 (bvs (le b 2)) rfl (by rw [len_bvs, le_len]) sl1.row sl1.nil (bvs_one _) (by unfold maxLen; simp [le_len]) (by simp [le_len]) (by omega) ?_); intro v2 u2 hown2 hg2; refine Hid.out ?_)
    refine Lib.hid ?_
    have own2 : Own w1.heap.size u2 v2 (([H] ++ le m 2) ++ le b 2) := own_of hown2 (by simp [le_len]) (bvs_app _ _).symm
    have hbu2 : Below w1.heap.size w2 u2 := below_grown hby1 owy1 hg2 (by omega)
    have hzu2 := hg2.size
    clear owy1 hg2 hown2
    have d4 := HCC.out 4 _ rfl _ hbu2
    go_wp2_with fail
    refine (little_r k1 1 u2 (by omega)).mono ?_
    rintro e y2 ⟨z2, rfl, hz2, hy2⟩
    obtain ⟨A2, n2, p2, rfl, sl2⟩ := Sl.of_own hz2
    have hlen2 : n2 = 1 := by rw [sl2.len, le_len]
    subst hlen2
    have hby2 : Below w1.heap.size w2 y2 := hbu2.trans (hy2.mono (by omega))
    have owy2 : Own w1.heap.size y2 v2 ([H] ++ le m 2 ++ le b 2) := own2.below hy2 (Nat.le_refl _)
    have hsy2 := hy2.size
    clear own2 hz2
    go_wp2_with (at_builtin; go_loud (refine wpList_append_rd _ rfl _ _ _ rfl w1.heap.size 5 i0 _ 1 Try.underlying42 hi hz0 hz1' hzq rfl _ _ (bvs ([H] ++ le m 2 ++ le b 2)) rfl owy2 _ A2 1 p2 (bvs (le k1 1)) rfl (by rw [len_bvs, le_len]) sl2.row sl2.nil (bvs_one _) (by unfold maxLen; simp [le_len]) (by simp [le_len]) (by omega) ?_); intro v3 u3 hown3 hg3; refine Hid.out ?_)
    refine Lib.hid ?_
    have own3 : Own w1.heap.size u3 v3 (([H] ++ le m 2 ++ le b 2) ++ le k1 1) := own_of hown3 (by simp [le_len]) (bvs_app _ _).symm
    have hbu3 : Below w1.heap.size w2 u3 := below_grown hby2 owy2 hg3 (by omega)
    have hzu3 := hg3.size
    clear owy2 hg3 hown3
    have d5 := HCC.out 5 _ rfl _ hbu3
    go_wp2_with fail
    refine (little_r k2 1 u3 (by omega)).mono ?_
    rintro e y3 ⟨z3, rfl, hz3, hy3⟩
    obtain ⟨A3, n3, p3, rfl, sl3⟩ := Sl.of_own hz3
    have hlen3 : n3 = 1 := by rw [sl3.len, le_len]
    subst hlen3
    have hby3 : Below w1.heap.size w2 y3 := hbu3.trans (hy3.mono (by omega))
    have owy3 : Own w1.heap.size y3 v3 ([H] ++ le m 2 ++ le b 2 ++ le k1 1) := own3.below hy3 (Nat.le_refl _)
    have hsy3 := hy3.size
    clear own3 hz3
    go_wp2_with (at_builtin; go_loud (refine wpList_append_rd _ rfl _ _ _ rfl w1.heap.size 5 i0 _ 1 Try.underlying42 hi hz0 hz1' hzq rfl _ _ (bvs ([H] ++ le m 2 ++ le b 2 ++ le k1 1)) rfl owy3 _ A3 1 p3 (bvs (le k2 1)) rfl (by rw [len_bvs, le_len]) sl3.row sl3.nil (bvs_one _) (by unfold maxLen; simp [le_len]) (by simp [le_len]) (by omega) ?_); intro v4 u4 hown4 hg4; refine Hid.out ?_)
    refine Lib.hid ?_
    have own4 : Own w1.heap.size u4 v4 (([H] ++ le m 2 ++ le b 2 ++ le k1 1) ++ le k2 1) := own_of hown4 (by simp [le_len]) (bvs_app _ _).symm
    have hbu4 : Below w1.heap.size w2 u4 := below_grown hby3 owy3 hg4 (by omega)
    have hzu4 := hg4.size
    clear owy3 hg4 hown4
    go_wp2_with fail
    go_ret2
    exact ⟨v4, rfl, by rw [HEN.out]; exact own4.base_ (by have := HLT.out; omega), hbb.trans (hbu4.mono (by have := HLT.out; omega))⟩
  · go_enter Try.func94, Try.ntmps94
    go_wp2_with fail
    rw [← hw1]
    clear hw1
    refine (HV.out).mono ?_
    rintro e w2 ⟨rfl, hb2⟩
    have hbb : Below w.heap.size w w2 := hb1.trans (hb2.mono hb1.size)
    have HLT := Lib.hid hlt
    have HCC := Lib.hid (fun i v h wr (hr : Below w1.heap.size w2 wr) => (by rw [hr.cell (p := ⟨w.heap.size, i, none⟩) (by exact hlt), hb2.cell (p := ⟨w.heap.size, i, none⟩) hlt]; exact HC.out i v h : wr.cell? ⟨w.heap.size, i, none⟩ = some v))
    have HB2 := Lib.hid hb2
    have hbu0 : Below w1.heap.size w2 (w2.alloc (.cells #[.int .u8 ((x : Int) + 128)] 5)) := (Below.refl _ _).alloc HB2.out.size _
    have d0 := HCC.out 0 _ rfl _ hbu0
    have d2 := HCC.out 2 _ rfl _ hbu0
    have c0 := HCC.out 0 _ rfl w2 (Below.refl _ _)
    have c1 := HCC.out 1 _ rfl w2 (Below.refl _ _)
    have own0 : Own w1.heap.size (w2.alloc (.cells #[.int .u8 ((x : Int) + 128)] 5)) (.slice (some ⟨w2.heap.size, 0, none⟩) 1 1) [H] := own_of (World.ownsRow_lit (base := w1.heap.size) (e := 5) (size := 1) w2 #[.int .u8 ((x : Int) + 128)] 1 HB2.out.size (by unfold maxLen; omega) rfl) rfl (by
          have e : H.toNat = x + 128 := by have := HH.out; simpa using this
          simp [bvs, bv]; omega)
    clear hb1 hb2 HC HV hlt
    go_wp2_with fail
    generalize w2.alloc (.cells #[.int .u8 ((x : Int) + 128)] 5) = u0 at *
    obtain ⟨v0, hv0⟩ : ∃ v, v = Value.slice (some ⟨w2.heap.size, 0, none⟩) 1 1 := ⟨_, rfl⟩
    have hzs := hbu0.size
    have hz1 := HB2.out.size
    refine (little_r m 2 u0 (by omega)).mono ?_
    rintro e y0 ⟨z0, rfl, hz0, hy0⟩
    obtain ⟨A0, n0, p0, rfl, sl0⟩ := Sl.of_own hz0
    have hlen0 : n0 = 2 := by rw [sl0.len, le_len]
    subst hlen0
    have hby0 : Below w1.heap.size w2 y0 := hbu0.trans (hy0.mono (by omega))
    have owy0 : Own w1.heap.size y0 (.slice (some ⟨w2.heap.size, 0, none⟩) 1 1) [H] := own0.below hy0 (Nat.le_refl _)
    have hsy0 := hy0.size
    clear own0 hz0
    go_wp2_with (at_builtin; go_loud (refine wpList_append_rd _ rfl _ _ _ rfl w1.heap.size 5 i0 _ 1 Try.underlying42 hi hz0 hz1' hzq rfl _ _ (bvs [H]) rfl owy0 _ A0 2 p0 (bvs (le m 2)) rfl (by rw [len_bvs, le_len]) sl0.row sl0.nil (bvs_one _) (by unfold maxLen; simp) (by simp) (by omega) ?_); intro v1 u1 hown1 hg1; refine Hid.out ?_)
    refine Lib.hid ?_
    have own1 : Own w1.heap.size u1 v1 ([H] ++ le m 2) := own_of hown1 (by simp [le_len]) (bvs_app _ _).symm
    have hbu1 : Below w1.heap.size w2 u1 := below_grown hby0 owy0 hg1 (by omega)
    have hzu1 := hg1.size
    clear owy0 hg1 hown1
    have d3 := HCC.out 3 _ rfl _ hbu1
    go_wp2_with fail
    refine (little_r b 2 u1 (by omega)).mono ?_
    rintro e y1 ⟨z1, rfl, hz1, hy1⟩
    obtain ⟨A1, n1, p1, rfl, sl1⟩ := Sl.of_own hz1
    have hlen1 : n1 = 2 := by rw [sl1.len, le_len]
    subst hlen1
    have hby1 : Below w1.heap.size w2 y1 := hbu1.trans (hy1.mono (by omega))
    have owy1 : Own w1.heap.size y1 v1 ([H] ++ le m 2) := own1.below hy1 (Nat.le_refl _)
    have hsy1 := hy1.size
    clear own1 hz1
    go_wp2_with (at_builtin; go_loud (refine wpList_append_rd _ rfl _ _ _ rfl w1.heap.size 5 i0 _ 1 Try.underlying42 hi hz0 hz1' hzq rfl _ _ (bvs ([H] ++ le m 2)) rfl owy1 _ A1 2 p1 (bvs (le b 2)) rfl (by rw [len_bvs, le_len]) sl1.row sl1.nil (bvs_one _) (by unfold maxLen; simp [le_len]) (by simp [le_len]) (by omega) ?_); intro v2 u2 hown2 hg2; refine Hid.out ?_)
    refine Lib.hid ?_
    have own2 : Own w1.heap.size u2 v2 (([H] ++ le m 2) ++ le b 2) := own_of hown2 (by simp [le_len]) (bvs_app _ _).symm
    have hbu2 : Below w1.heap.size w2 u2 := below_grown hby1 owy1 hg2 (by omega)
    have hzu2 := hg2.size
    clear owy1 hg2 hown2
    have d4 := HCC.out 4 _ rfl _ hbu2
    go_wp2_with fail
    refine (little_r k1 1 u2 (by omega)).mono ?_
    rintro e y2 ⟨z2, rfl, hz2, hy2⟩
    obtain ⟨A2, n2, p2, rfl, sl2⟩ := Sl.of_own hz2
    have hlen2 : n2 = 1 := by rw [sl2.len, le_len]
    subst hlen2
    have hby2 : Below w1.heap.size w2 y2 := hbu2.trans (hy2.mono (by omega))
    have owy2 : Own w1.heap.size y2 v2 ([H] ++ le m 2 ++ le b 2) := own2.below hy2 (Nat.le_refl _)
    have hsy2 := hy2.size
    clear own2 hz2
    go_wp2_with (at_builtin; go_loud (refine wpList_append_rd _ rfl _ _ _ rfl w1.heap.size 5 i0 _ 1 Try.underlying42 hi hz0 hz1' hzq rfl _ _ (bvs ([H] ++ le m 2 ++ le b 2)) rfl owy2 _ A2 1 p2 (bvs (le k1 1)) rfl (by rw [len_bvs, le_len]) sl2.row sl2.nil (bvs_one _) (by unfold maxLen; simp [le_len]) (by simp [le_len]) (by omega) ?_); intro v3 u3 hown3 hg3; refine Hid.out ?_)
    refine Lib.hid ?_
    have own3 : Own w1.heap.size u3 v3 (([H] ++ le m 2 ++ le b 2) ++ le k1 1) := own_of hown3 (by simp [le_len]) (bvs_app _ _).symm
    have hbu3 : Below w1.heap.size w2 u3 := below_grown hby2 owy2 hg3 (by omega)
    have hzu3 := hg3.size
    clear owy2 hg3 hown3
    have d5 := HCC.out 5 _ rfl _ hbu3
    go_wp2_with fail
    refine (little_r k2 1 u3 (by omega)).mono ?_
    rintro e y3 ⟨z3, rfl, hz3, hy3⟩
    obtain ⟨A3, n3, p3, rfl, sl3⟩ := Sl.of_own hz3
    have hlen3 : n3 = 1 := by rw [sl3.len, le_len]
    subst hlen3
    have hby3 : Below w1.heap.size w2 y3 := hbu3.trans (hy3.mono (by omega))
    have owy3 : Own w1.heap.size y3 v3 ([H] ++ le m 2 ++ le b 2 ++ le k1 1) := own3.below hy3 (Nat.le_refl _)
    have hsy3 := hy3.size
    clear own3 hz3
    go_wp2_with (at_builtin; go_loud (refine wpList_append_rd _ rfl _ _ _ rfl w1.heap.size 5 i0 _ 1 Try.underlying42 hi hz0 hz1' hzq rfl _ _ (bvs ([H] ++ le m 2 ++ le b 2 ++ le k1 1)) rfl owy3 _ A3 1 p3 (bvs (le k2 1)) rfl (by rw [len_bvs, le_len]) sl3.row sl3.nil (bvs_one _) (by unfold maxLen; simp [le_len]) (by simp [le_len]) (by omega) ?_); intro v4 u4 hown4 hg4; refine Hid.out ?_)
    refine Lib.hid ?_
    have own4 : Own w1.heap.size u4 v4 (([H] ++ le m 2 ++ le b 2 ++ le k1 1) ++ le k2 1) := own_of hown4 (by simp [le_len]) (bvs_app _ _).symm
    have hbu4 : Below w1.heap.size w2 u4 := below_grown hby3 owy3 hg4 (by omega)
    have hzu4 := hg4.size
    clear owy3 hg4 hown4
    go_wp2_with fail
    go_ret2
    exact ⟨v4, rfl, by rw [HEN.out]; exact own4.base_ (by have := HLT.out; omega), hbb.trans (hbu4.mono (by have := HLT.out; omega))⟩
end Go.Proofs.Ytcnkiecdagjgmaa.C4v
namespace Go.Proofs.Ytcnkiecdagjgmaa.C4v
open Go.RowKit Go.Proofs.Ytcnkiecdagjgmaa.Mem Go.Proofs.Ytcnkiecdagjgmaa.M3p Go.Proofs.Ytcnkiecdagjgmaa.M3r Go.Proofs.Ytcnkiecdagjgmaa.C4p Go.Proofs.Ytcnkiecdagjgmaa.C4l
set_option maxRecDepth 100000
set_option maxHeartbeats 4000000

theorem body_app (a b : List Pt) : body (a ++ b) = body a ++ body b := by
  induction a with
  | nil => rfl
  | cons x a ih =>
    obtain ⟨r, v⟩ := x
    simp only [List.cons_append, body, ih, List.append_assoc]
theorem body_snoc {l : List Pt} {j : Nat} (h : j < l.length) : body (l.take (j + 1)) = body (l.take j) ++ [l[j].1] ++ le l[j].2 6 := by
  rw [List.take_succ_eq_append_getElem h, body_app]
  obtain ⟨r, v⟩ := l[j]
  simp [body]
theorem enc_tab (s : Bool) (A : Option Addr) (n cp : Nat) (l : List Pt) (w : World) (hsl : PSl w A n cp l) (hv : vld ⟨5, s, 0, 0, 0, 0, l⟩ = true) :
    Calls Try.prog 94 #[.agg #[.int .i64 5, .bool s, .int .i64 0, .int .i64 0, .int .i64 0, .int .i64 0, .slice A n cp]] w fun e w' => ∃ u, e = .returned (.tuple #[u, .int .i64 0]) ∧ Own w.heap.size w' u (enc ⟨5, s, 0, 0, 0, 0, l⟩) ∧ Below w.heap.size w w' := by
  obtain ⟨i0, hi, hz0, hz1', hzq⟩ := info_parts info5
  obtain ⟨w1, hw1⟩ : ∃ w1, w1 = w.alloc (.cells #[.int .i64 5, .bool s, .int .i64 0, .int .i64 0, .int .i64 0, .int .i64 0, .slice A n cp] 26) := ⟨_, rfl⟩
  have hb1 : Below w.heap.size w w1 := by rw [hw1]; exact (Below.refl _ _).alloc (Nat.le_refl _) _
  have hst : w1.heap[w.heap.size]? = some (.cells #[.int .i64 5, .bool s, .int .i64 0, .int .i64 0, .int .i64 0, .int .i64 0, .slice A n cp] 26 (0, 0)) := by rw [hw1]; exact heap_alloc_new w _
  have hlt : w.heap.size < w1.heap.size := by rw [hw1]; simp
  have hc : ∀ i v, (#[.int .i64 5, .bool s, .int .i64 0, .int .i64 0, .int .i64 0, .int .i64 0, .slice A n cp] : Array Value)[i]? = some v → w1.cell? ⟨w.heap.size, i, none⟩ = some v := by
    intro i v h
    rw [cell_of_row w1 w.heap.size i _ _ _ hst]
    exact h
  have HC := Lib.hid hc
  have HV := Lib.hid (by have := valid_r 5 0 0 0 0 s A n cp l w1 (hsl.step hb1); rw [hv] at this; exact this)
  obtain ⟨-, ⟨hp1, hp2⟩, -⟩ := vld_tab hv rfl
  dsimp only at hp1 hp2
  rw [← hsl.len] at hp1 hp2
  have hhd := (hd_nat hv).1
  obtain ⟨H, hH⟩ : ∃ H, H = hd ⟨5, s, 0, 0, 0, 0, l⟩ := ⟨_, rfl⟩
  rw [← hH] at hhd
  have hen : enc ⟨5, s, 0, 0, 0, 0, l⟩ = [H] ++ [UInt8.ofNat n] ++ body l := by unfold enc; rw [if_pos rfl, hH, hsl.len]; rfl
  obtain ⟨R, hR⟩ : ∃ R, R = enc ⟨5, s, 0, 0, 0, 0, l⟩ := ⟨_, rfl⟩
  rw [← hR]
  rw [← hR] at hen
  have HEN := Lib.hid hen
  have hhx : H.toNat = 5 + if s = true then 128 else 0 := by rw [hhd]; rfl
  have HH := Lib.hid hhx
  have HSL := Lib.hid hsl
  have hn8 : UInt8.ofNat n = UInt8.ofNat n := rfl
  have hnv : Value.int .u8 (n : Int) = bv (UInt8.ofNat n) := bv_nat (by omega)
  have HNV := Lib.hid hnv
  clear hc hst hen hR hH hhd hv hhx hsl hn8 hnv
  cases s
  · go_enter Try.func94, Try.ntmps94
    go_wp2_with fail
    rw [← hw1]
    clear hw1
    refine (HV.out).mono ?_
    rintro e w2 ⟨rfl, hb2⟩
    have hbb : Below w.heap.size w w2 := hb1.trans (hb2.mono hb1.size)
    have HLT := Lib.hid hlt
    have HCC := Lib.hid (fun i v h wr (hr : Below w1.heap.size w2 wr) => (by rw [hr.cell (p := ⟨w.heap.size, i, none⟩) (by exact hlt), hb2.cell (p := ⟨w.heap.size, i, none⟩) hlt]; exact HC.out i v h : wr.cell? ⟨w.heap.size, i, none⟩ = some v))
    have HB2 := Lib.hid hb2
    have hbu0 : Below w1.heap.size w2 (w2.alloc (.cells #[.int .u8 5] 5)) := (Below.refl _ _).alloc HB2.out.size _
    have d0 := HCC.out 0 _ rfl _ hbu0
    have d6 := HCC.out 6 _ rfl _ hbu0
    have c0 := HCC.out 0 _ rfl w2 (Below.refl _ _)
    have c1 := HCC.out 1 _ rfl w2 (Below.refl _ _)
    have own0 : Own w1.heap.size (w2.alloc (.cells #[.int .u8 5] 5)) (.slice (some ⟨w2.heap.size, 0, none⟩) 1 1) [H] := own_of (World.ownsRow_lit (base := w1.heap.size) (e := 5) (size := 1) w2 #[.int .u8 5] 1 HB2.out.size (by unfold maxLen; omega) rfl) rfl (by
          have e : H.toNat = 5 := by have := HH.out; simpa using this
          simp [bvs, bv]; omega)
    have hwr0 : IntKind.u8.wrap (n : Int) = (n : Int) := by rw [IntKind.wrap_u8]; omega
    have hzs := hbu0.size
    have hz1 := HB2.out.size
    have hrd : Rd (w2.heap.size + 1 + 1) ((w2.alloc (.cells #[.int .u8 5] 5)).alloc (.cells #[.int .u8 (n : Int)] 5)) (some ⟨w2.heap.size + 1, 0, none⟩) [.int .u8 (n : Int)] := by
      have := Rd.new (w2.alloc (.cells #[.int .u8 5] 5)) #[.int .u8 (n : Int)] 5
      simpa using this
    clear hb1 hb2 HC HV hlt
    go_wp2_with (at_builtin; go_loud (refine wpList_append_rd _ rfl _ _ _ rfl w1.heap.size 5 i0 _ 1 Try.underlying42 hi hz0 hz1' hzq rfl _ _ (bvs [H]) rfl (World.ownsRow.alloc own0 _) _ _ 1 1 [.int .u8 (n : Int)] rfl rfl hrd (fun hh => by cases hh) (by simp [Value.oneCell']) (by unfold maxLen; simp) (by simp) (by simp; omega) ?_); intro v1 u1 hown1 hg1; refine Hid.out ?_)
    refine Lib.hid ?_
    have own1 : Own w1.heap.size u1 v1 ([H] ++ [UInt8.ofNat n]) := own_of hown1 rfl (by rw [HNV.out]; rfl)
    have hbu1 : Below w1.heap.size w2 u1 := below_grown (hbu0.alloc (by simp; omega) _) (World.ownsRow.alloc own0 _) hg1 (by simp; omega)
    have hzu := hbu1.size
    clear own0 hbu0 hown1 hg1 d0 d6 hrd hzs
    go_wp2_with fail
    go_loopw [5, 6] (fun v i wr => ∃ j : Nat, j ≤ n ∧ i = .int .i64 j ∧ Own w1.heap.size wr v ([H] ++ [UInt8.ofNat n] ++ body (l.take j)) ∧ Below w1.heap.size w2 wr) (fun _ i _ => n - (intOf i).toNat)
    case atStart => exact ⟨0, Nat.zero_le _, rfl, by simpa [body] using own1, hbu1⟩
    case round =>
      obtain ⟨j, hj, rfl, hown, hbr⟩ := hrel
      clear own1 hbu1 hzu
      have hsz := hbr.size
      have d6 := HCC.out 6 _ rfl wr hbr
      have hball : Below w.heap.size w wr := hbb.trans (hbr.mono (Nat.le_of_lt HLT.out))
      have hsr := HSL.out.step hball
      have hln := HSL.out.len
      have hbl := body_len (l.take j)
      rw [List.length_take] at hbl
      have HLN := Lib.hid hln
      have HBL := Lib.hid hbl
      clear hln hbl
      by_cases hlt : j < n
      · have hjl : j < l.length := by rw [← HLN.out]; exact hlt
        obtain ⟨a, q, rfl, hab, hq, hqb, hc0, hc1⟩ := prow_q hsr.row hjl
        have hbs := Lib.hid (body_snoc hjl)
        obtain ⟨r, hr0⟩ : ∃ r, r = l[j].1 := ⟨_, rfl⟩
        obtain ⟨v, hv0⟩ : ∃ v, v = l[j].2 := ⟨_, rfl⟩
        rw [← hr0, ← hv0] at hbs
        rw [← hr0] at hc0
        rw [← hv0] at hc1
        obtain ⟨X, hX⟩ : ∃ X, X = [H] ++ [UInt8.ofNat n] ++ body (l.take j) := ⟨_, rfl⟩
        have hXl : X.length ≤ 200 := by
          have := HBL.out
          rw [hX]
          simp
          omega
        rw [← hX] at hown
        have HX := Lib.hid hX
        have HVV := Lib.hid hv0
        clear hr0 hv0 hX
        have hrd : Rd (wr.heap.size + 1) (wr.alloc (.cells #[.int .u8 (r.toNat : Int)] 5)) (some ⟨wr.heap.size, 0, none⟩) [.int .u8 (r.toNat : Int)] := Rd.new wr #[.int .u8 (r.toNat : Int)] 5
        go_wp2_with (at_builtin; go_loud (refine wpList_append_rd _ rfl _ _ _ rfl w1.heap.size 5 i0 _ 1 Try.underlying42 hi hz0 hz1' hzq rfl _ _ (bvs X) rfl (World.ownsRow.alloc hown _) _ _ 1 1 [.int .u8 (r.toNat : Int)] rfl rfl hrd (fun hh => by cases hh) (by simp [Value.oneCell']) (by unfold maxLen; omega) (by omega) (by simp; omega) ?_); intro v3 u3 hown3 hg3; refine Hid.out ?_)
        refine Lib.hid ?_
        have own3 : Own w1.heap.size u3 v3 (X ++ [r]) := own_of hown3 (by simp) (by unfold bvs; rw [List.map_append]; rfl)
        have hbu3 : Below w1.heap.size w2 u3 := below_grown (hbr.alloc (by omega) _) (World.ownsRow.alloc hown _) hg3 (by simp; omega)
        have e6 := HCC.out 6 _ rfl u3 hbu3
        have hb3 : Below w.heap.size w u3 := hbb.trans (hbu3.mono (Nat.le_of_lt HLT.out))
        obtain ⟨a2, q2, e2, hab2, hq2, hqb2, hd0, hd1⟩ := prow_q (HSL.out.step hb3).row hjl
        injection e2 with e2
        subst e2
        have hqq : q2 = q := hq2.symm.trans hq
        subst hqq
        have hd1' : u3.cell? ⟨q2.block, q2.off + 1, none⟩ = some (.int .i64 v) := by
          rw [HVV.out]
          exact hd1
        clear hd0 hd1 hown hg3 hown3
        have hz3 := hbu3.size
        go_wp2_with fail
        refine (little_r v 6 u3 (by omega)).mono ?_
        rintro e y3 ⟨z3, rfl, hzz3, hy3⟩
        obtain ⟨A3, n3, p3, rfl, sl3⟩ := Sl.of_own hzz3
        have hlen3 : n3 = 6 := by rw [sl3.len, le_len]
        subst hlen3
        have hby3 : Below w1.heap.size w2 y3 := hbu3.trans (hy3.mono (by omega))
        have owy3 : Own w1.heap.size y3 v3 (X ++ [r]) := own3.below hy3 (Nat.le_refl _)
        have hsy3 := hy3.size
        clear own3 hzz3
        go_wp2_with (at_builtin; go_loud (refine wpList_append_rd _ rfl _ _ _ rfl w1.heap.size 5 i0 _ 1 Try.underlying42 hi hz0 hz1' hzq rfl _ _ (bvs (X ++ [r])) rfl owy3 _ A3 6 p3 (bvs (le v 6)) rfl (by rw [len_bvs, le_len]) sl3.row sl3.nil (bvs_one _) (by unfold maxLen; simp; omega) (by simp; omega) (by omega) ?_); intro v4 u4 hown4 hg4; refine Hid.out ?_)
        refine Lib.hid ?_
        have own4 : Own w1.heap.size u4 v4 (X ++ [r] ++ le v 6) := own_of hown4 (by simp [le_len]) (bvs_app _ _).symm
        have hbu4 : Below w1.heap.size w2 u4 := below_grown hby3 owy3 hg4 (by omega)
        go_wp2_with fail
        refine ⟨⟨j + 1, by omega, by go_num, ?_, hbu4⟩, by simp [intOf]; omega⟩
        have e : [H] ++ [UInt8.ofNat n] ++ body (l.take (j + 1)) = X ++ [r] ++ le v 6 := by rw [hbs.out, HX.out]; simp [List.append_assoc]
        rw [e]
        exact own4
      · obtain rfl : j = n := by omega
        have htk : l.take j = l := List.take_of_length_le (by rw [← HLN.out]; exact Nat.le_refl _)
        rw [htk] at hown
        go_wp2_with fail
        go_ret2
        exact ⟨_, rfl, by rw [HEN.out]; exact hown.base_ (by have := HLT.out; omega), hball⟩
  · go_enter Try.func94, Try.ntmps94
    go_wp2_with fail
    rw [← hw1]
    clear hw1
    refine (HV.out).mono ?_
    rintro e w2 ⟨rfl, hb2⟩
    have hbb : Below w.heap.size w w2 := hb1.trans (hb2.mono hb1.size)
    have HLT := Lib.hid hlt
    have HCC := Lib.hid (fun i v h wr (hr : Below w1.heap.size w2 wr) => (by rw [hr.cell (p := ⟨w.heap.size, i, none⟩) (by exact hlt), hb2.cell (p := ⟨w.heap.size, i, none⟩) hlt]; exact HC.out i v h : wr.cell? ⟨w.heap.size, i, none⟩ = some v))
    have HB2 := Lib.hid hb2
    have hbu0 : Below w1.heap.size w2 (w2.alloc (.cells #[.int .u8 133] 5)) := (Below.refl _ _).alloc HB2.out.size _
    have d0 := HCC.out 0 _ rfl _ hbu0
    have d6 := HCC.out 6 _ rfl _ hbu0
    have c0 := HCC.out 0 _ rfl w2 (Below.refl _ _)
    have c1 := HCC.out 1 _ rfl w2 (Below.refl _ _)
    have own0 : Own w1.heap.size (w2.alloc (.cells #[.int .u8 133] 5)) (.slice (some ⟨w2.heap.size, 0, none⟩) 1 1) [H] := own_of (World.ownsRow_lit (base := w1.heap.size) (e := 5) (size := 1) w2 #[.int .u8 133] 1 HB2.out.size (by unfold maxLen; omega) rfl) rfl (by
          have e : H.toNat = 133 := by have := HH.out; simpa using this
          simp [bvs, bv]; omega)
    have hwr0 : IntKind.u8.wrap (n : Int) = (n : Int) := by rw [IntKind.wrap_u8]; omega
    have hzs := hbu0.size
    have hz1 := HB2.out.size
    have hrd : Rd (w2.heap.size + 1 + 1) ((w2.alloc (.cells #[.int .u8 133] 5)).alloc (.cells #[.int .u8 (n : Int)] 5)) (some ⟨w2.heap.size + 1, 0, none⟩) [.int .u8 (n : Int)] := by
      have := Rd.new (w2.alloc (.cells #[.int .u8 133] 5)) #[.int .u8 (n : Int)] 5
      simpa using this
    clear hb1 hb2 HC HV hlt
    go_wp2_with (at_builtin; go_loud (refine wpList_append_rd _ rfl _ _ _ rfl w1.heap.size 5 i0 _ 1 Try.underlying42 hi hz0 hz1' hzq rfl _ _ (bvs [H]) rfl (World.ownsRow.alloc own0 _) _ _ 1 1 [.int .u8 (n : Int)] rfl rfl hrd (fun hh => by cases hh) (by simp [Value.oneCell']) (by unfold maxLen; simp) (by simp) (by simp; omega) ?_); intro v1 u1 hown1 hg1; refine Hid.out ?_)
    refine Lib.hid ?_
    have own1 : Own w1.heap.size u1 v1 ([H] ++ [UInt8.ofNat n]) := own_of hown1 rfl (by rw [HNV.out]; rfl)
    have hbu1 : Below w1.heap.size w2 u1 := below_grown (hbu0.alloc (by simp; omega) _) (World.ownsRow.alloc own0 _) hg1 (by simp; omega)
    have hzu := hbu1.size
    clear own0 hbu0 hown1 hg1 d0 d6 hrd hzs
    go_wp2_with fail
    go_loopw [5, 6] (fun v i wr => ∃ j : Nat, j ≤ n ∧ i = .int .i64 j ∧ Own w1.heap.size wr v ([H] ++ [UInt8.ofNat n] ++ body (l.take j)) ∧ Below w1.heap.size w2 wr) (fun _ i _ => n - (intOf i).toNat)
    case atStart => exact ⟨0, Nat.zero_le _, rfl, by simpa [body] using own1, hbu1⟩
    case round =>
      obtain ⟨j, hj, rfl, hown, hbr⟩ := hrel
      clear own1 hbu1 hzu
      have hsz := hbr.size
      have d6 := HCC.out 6 _ rfl wr hbr
      have hball : Below w.heap.size w wr := hbb.trans (hbr.mono (Nat.le_of_lt HLT.out))
      have hsr := HSL.out.step hball
      have hln := HSL.out.len
      have hbl := body_len (l.take j)
      rw [List.length_take] at hbl
      have HLN := Lib.hid hln
      have HBL := Lib.hid hbl
      clear hln hbl
      by_cases hlt : j < n
      · have hjl : j < l.length := by rw [← HLN.out]; exact hlt
        obtain ⟨a, q, rfl, hab, hq, hqb, hc0, hc1⟩ := prow_q hsr.row hjl
        have hbs := Lib.hid (body_snoc hjl)
        obtain ⟨r, hr0⟩ : ∃ r, r = l[j].1 := ⟨_, rfl⟩
        obtain ⟨v, hv0⟩ : ∃ v, v = l[j].2 := ⟨_, rfl⟩
        rw [← hr0, ← hv0] at hbs
        rw [← hr0] at hc0
        rw [← hv0] at hc1
        obtain ⟨X, hX⟩ : ∃ X, X = [H] ++ [UInt8.ofNat n] ++ body (l.take j) := ⟨_, rfl⟩
        have hXl : X.length ≤ 200 := by
          have := HBL.out
          rw [hX]
          simp
          omega
        rw [← hX] at hown
        have HX := Lib.hid hX
        have HVV := Lib.hid hv0
        clear hr0 hv0 hX
        have hrd : Rd (wr.heap.size + 1) (wr.alloc (.cells #[.int .u8 (r.toNat : Int)] 5)) (some ⟨wr.heap.size, 0, none⟩) [.int .u8 (r.toNat : Int)] := Rd.new wr #[.int .u8 (r.toNat : Int)] 5
        go_wp2_with (at_builtin; go_loud (refine wpList_append_rd _ rfl _ _ _ rfl w1.heap.size 5 i0 _ 1 Try.underlying42 hi hz0 hz1' hzq rfl _ _ (bvs X) rfl (World.ownsRow.alloc hown _) _ _ 1 1 [.int .u8 (r.toNat : Int)] rfl rfl hrd (fun hh => by cases hh) (by simp [Value.oneCell']) (by unfold maxLen; omega) (by omega) (by simp; omega) ?_); intro v3 u3 hown3 hg3; refine Hid.out ?_)
        refine Lib.hid ?_
        have own3 : Own w1.heap.size u3 v3 (X ++ [r]) := own_of hown3 (by simp) (by unfold bvs; rw [List.map_append]; rfl)
        have hbu3 : Below w1.heap.size w2 u3 := below_grown (hbr.alloc (by omega) _) (World.ownsRow.alloc hown _) hg3 (by simp; omega)
        have e6 := HCC.out 6 _ rfl u3 hbu3
        have hb3 : Below w.heap.size w u3 := hbb.trans (hbu3.mono (Nat.le_of_lt HLT.out))
        obtain ⟨a2, q2, e2, hab2, hq2, hqb2, hd0, hd1⟩ := prow_q (HSL.out.step hb3).row hjl
        injection e2 with e2
        subst e2
        have hqq : q2 = q := hq2.symm.trans hq
        subst hqq
        have hd1' : u3.cell? ⟨q2.block, q2.off + 1, none⟩ = some (.int .i64 v) := by
          rw [HVV.out]
          exact hd1
        clear hd0 hd1 hown hg3 hown3
        have hz3 := hbu3.size
        go_wp2_with fail
        refine (little_r v 6 u3 (by omega)).mono ?_
        rintro e y3 ⟨z3, rfl, hzz3, hy3⟩
        obtain ⟨A3, n3, p3, rfl, sl3⟩ := Sl.of_own hzz3
        have hlen3 : n3 = 6 := by rw [sl3.len, le_len]
        subst hlen3
        have hby3 : Below w1.heap.size w2 y3 := hbu3.trans (hy3.mono (by omega))
        have owy3 : Own w1.heap.size y3 v3 (X ++ [r]) := own3.below hy3 (Nat.le_refl _)
        have hsy3 := hy3.size
        clear own3 hzz3
        go_wp2_with (at_builtin; go_loud (refine wpList_append_rd _ rfl _ _ _ rfl w1.heap.size 5 i0 _ 1 Try.underlying42 hi hz0 hz1' hzq rfl _ _ (bvs (X ++ [r])) rfl owy3 _ A3 6 p3 (bvs (le v 6)) rfl (by rw [len_bvs, le_len]) sl3.row sl3.nil (bvs_one _) (by unfold maxLen; simp; omega) (by simp; omega) (by omega) ?_); intro v4 u4 hown4 hg4; refine Hid.out ?_)
        refine Lib.hid ?_
        have own4 : Own w1.heap.size u4 v4 (X ++ [r] ++ le v 6) := own_of hown4 (by simp [le_len]) (bvs_app _ _).symm
        have hbu4 : Below w1.heap.size w2 u4 := below_grown hby3 owy3 hg4 (by omega)
        go_wp2_with fail
        refine ⟨⟨j + 1, by omega, by go_num, ?_, hbu4⟩, by simp [intOf]; omega⟩
        have e : [H] ++ [UInt8.ofNat n] ++ body (l.take (j + 1)) = X ++ [r] ++ le v 6 := by rw [hbs.out, HX.out]; simp [List.append_assoc]
        rw [e]
        exact own4
      · obtain rfl : j = n := by omega
        have htk : l.take j = l := List.take_of_length_le (by rw [← HLN.out]; exact Nat.le_refl _)
        rw [htk] at hown
        go_wp2_with fail
        go_ret2
        exact ⟨_, rfl, by rw [HEN.out]; exact hown.base_ (by have := HLT.out; omega), hball⟩
theorem enc_r (f m b k1 k2 : Int) (s : Bool) (A : Option Addr) (n cp : Nat) (l : List Pt) (w : World) (hsl : PSl w A n cp l) (hv : vld ⟨f, s, m, b, k1, k2, l⟩ = true) :
    Calls Try.prog 94 #[.agg #[.int .i64 f, .bool s, .int .i64 m, .int .i64 b, .int .i64 k1, .int .i64 k2, .slice A n cp]] w fun e w' => ∃ u, e = .returned (.tuple #[u, .int .i64 0]) ∧ Own w.heap.size w' u (enc ⟨f, s, m, b, k1, k2, l⟩) ∧ Below w.heap.size w w' := by
  by_cases h5 : f = 5
  · obtain ⟨⟨h1, h2, h3, h4⟩, -, -⟩ := vld_tab hv h5
    dsimp only at h1 h2 h3 h4
    subst h5 h1 h2 h3 h4
    exact enc_tab s A n cp l w hsl hv
  · exact enc_lin f m b k1 k2 s A n cp l w hsl hv h5
end Go.Proofs.Ytcnkiecdagjgmaa.C4v
