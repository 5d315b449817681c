/- Walks: the program's package event: numbers and data as text. -/
import Derived.Test.YtgbnigbjnbcfeaaDoorV7b
import Derived.Test.YtgbnigbjnbcfeaaDoorShe
import Derived.Shelf.Strconv.Itoa3
import Derived.Lib.LaidTab
namespace Go.Proofs.YtgbnigbjnbcfeaaDoor.V7
open Go.RowKit Go.Proofs.YtgbnigbjnbcfeaaDoor.Mem Go.Proofs.YtgbnigbjnbcfeaaDoor.F2p Go.Sort
set_option maxRecDepth 100000
set_option maxHeartbeats 1000000

/-- The library's table of powers of ten is as it was laid. -/
def PowTab (w : World) : Prop := Lib.TabIs Tryd.prog w "internal/strconv.uint64pow10" .u64 Lib.pow10Tab
def PowBelow (B : Nat) (w : World) : Prop := Lib.TabBelow Tryd.prog B w "internal/strconv.uint64pow10" .u64 Lib.pow10Tab
theorem PowTab.start {w : World} (h : PowTab w) : PowBelow w.heap.size w := Lib.tabBelow_of_tabIs h
theorem PowBelow.at_ {B : Nat} {w w1 : World} (h : PowBelow B w) (hb : Below B w w1) : PowTab w1 := h w1 hb
theorem holds_zero0 (w : World) (T : TypeId) (nd : Nat) (hs : nd ≤ 24) : Holds (fun (b : UInt8) => Value.int .u8 (b.toNat : Int)) (w.alloc (.cells Lib.zeros24 T)) w.heap.size 0 (Array.replicate nd (0 : UInt8)) := fun j hj => by
  have hj' : j < nd := by simpa using hj
  refine ⟨?_, World.frozen?_alloc_new _ _ _ _⟩
  rw [World.cell?_alloc_new, Lib.zeros24_at _ (by omega), getElem!_pos _ j hj]
  simp
theorem below_put (w : World) (o : Obj) (dk : Array UInt8) (k : Nat) : Below w.heap.size w ((putRow (fun (b : UInt8) => Value.int .u8 (b.toNat : Int)) (w.alloc o) w.heap.size 0 dk).drewN k) := by
  rw [alloc_eq_grow]
  obtain ⟨os', _, e⟩ := putRow_grow_new (fun (b : UInt8) => Value.int .u8 (b.toNat : Int)) w #[o] w.heap.size 0 dk (Nat.le_refl _)
  rw [e]
  exact Lib.below_grow w.heap.size w (Nat.le_refl _) k os'
theorem fuint_in (u : Nat) (w : World) (hu64 : u < 18446744073709551616) (htab : PowTab w) :
    Calls Tryd.prog 65 #[.int .u64 (u : Int), .int .i64 10] w fun e w' => e = .returned (.string ⟨(Lib.decDigits u).toArray⟩) ∧ Below w.heap.size w w' := by
  by_cases hs : u < 100
  · go_enter Tryd.func65, Tryd.ntmps65
    go_wp2_with fail
    refine (Any.internal_strconv_small She.lays283 u hs _).mono ?_
    rintro e w' ⟨rfl, rfl⟩
    go_wp2_with fail
    go_ret
    exact ⟨rfl, Below.refl _ _⟩
  · have hu1 : 1 ≤ u := by omega
    have hnd20 : Lib.nDigits u ≤ 20 := by have := Lib.numDigits_eq u hu1 hu64; split at this <;> omega
    have hal : Tryd.prog.arrayLen 104 = 24 := by kernel_rfl
    have hsl : ∀ W, (Instr.sliceAt 104 (.pointer (some ⟨w.heap.size, 0, none⟩)) none (some (.int .i64 (Lib.nDigits u : Int))) none).run Tryd.prog W = .ok (.slice (some ⟨w.heap.size, 0, none⟩) (Lib.nDigits u) 24) W := fun W => by
      rw [run_sliceAt_array_h W 104 ⟨w.heap.size, 0, none⟩ Tryd.underlying104 .i64 (Lib.nDigits u : Int) (by omega) (by rw [hal]; omega)]
      go_simp
    have hH0 := holds_zero0 w 104 (Lib.nDigits u) (by omega)
    have hfmt := Any.internal_strconv_formatBase10 She.lays285 w.heap.size 0 24 u (Array.replicate (Lib.nDigits u) 0) (w.alloc (.cells Lib.zeros24 104)) hH0 (by rw [Array.size_replicate]; exact Lib.lt_pow_nDigits u) hu64 (by rw [Array.size_replicate]; omega)
    rw [Array.size_replicate] at hfmt
    have HH0 := Lib.hid hH0
    clear hH0 hal
    go_enter Tryd.func65, Tryd.ntmps65
    go_wp2_with fail
    refine (Any.internal_strconv_numDigits She.lays284 u hu1 hu64 _ (Lib.tabIs_alloc htab _)).mono ?_
    rintro e w' ⟨rfl, rfl⟩
    go_wp2_with fail
    refine hfmt.mono ?_
    rintro e w' ⟨rfl, k, v', dk, rfl, hF⟩
    have hcv : (convert 27 9 (.slice (some ⟨w.heap.size, 0, none⟩) (Lib.nDigits u) 24)).run Tryd.prog ((putRow (fun (b : UInt8) => Value.int .u8 (b.toNat : Int)) (w.alloc (.cells Lib.zeros24 104)) w.heap.size 0 dk).drewN k) = .ok (.string ⟨(Lib.decDigits u).toArray⟩) ((putRow (fun (b : UInt8) => Value.int .u8 (b.toNat : Int)) (w.alloc (.cells Lib.zeros24 104)) w.heap.size 0 dk).drewN k) := by
      have h := run_convert_bytes_back (P := Tryd.prog) ((putRow (fun (b : UInt8) => Value.int .u8 (b.toNat : Int)) (w.alloc (.cells Lib.zeros24 104)) w.heap.size 0 dk).drewN k) _ _ _ ⟨w.heap.size, 0, none⟩ 24 (Lib.decDigits u) Tryd.underlying27 Tryd.underlying5 Tryd.underlying9 (fun j hj => by
        rw [Lib.row_is_numeral hF j hj, Lib.add_plain, World.cell?_drewN]
        exact cell?_putRow (fun (b : UInt8) => Value.int .u8 (b.toNat : Int)) _ w.heap.size 0 _ dk HH0.out (by rw [hF.size, Array.size_replicate]) j (by rw [hF.size]; rw [Lib.decDigits_length] at hj; exact hj))
      rw [Lib.decDigits_length] at h
      exact h
    go_wp2_with fail
    go_ret
    exact ⟨rfl, below_put w _ dk k⟩
theorem dcm_p (u : Nat) (w : World) (hu64 : u < 18446744073709551616) (htab : PowTab w) :
    Calls Tryd.prog 42 #[.int .u64 (u : Int)] w fun e w' => e = .returned (.string ⟨(Lib.decDigits u).toArray⟩) ∧ Below w.heap.size w w' := by
  have h1 := Lib.hid (fuint_in u w hu64 htab)
  have h2 : Calls Tryd.prog 55 #[.int .u64 (u : Int), .int .i64 10] w fun e w' => e = .returned (.string ⟨(Lib.decDigits u).toArray⟩) ∧ Below w.heap.size w w' := by
    go_enter Tryd.func55, Tryd.ntmps55
    go_wp2_with fail
    refine h1.out.mono ?_
    rintro e w' ⟨rfl, hb⟩
    go_wp2_with fail
    go_ret
    exact ⟨rfl, hb⟩
  replace h2 := Lib.hid h2
  go_enter Tryd.func42, Tryd.ntmps42
  go_wp2_with fail
  refine h2.out.mono ?_
  rintro e w' ⟨rfl, hb⟩
  go_wp2_with fail
  go_ret
  exact ⟨rfl, hb⟩
def thW : List UInt8 := [116, 104, 114, 101, 115, 104, 111, 108, 100]
def stW : List UInt8 := [115, 116, 97, 116, 101]
def otW : List UInt8 := [111, 116, 104, 101, 114]
/-- The word of a type. -/
def word (t : Nat) : List UInt8 := if t = 1 then thW else if t = 111 then stW else otW
theorem word_p (t : Nat) (w : World) : Calls Tryd.prog 44 #[.int .u8 (t : Int)] w fun e w' => e = .returned (.string ⟨(word t).toArray⟩) ∧ w = w' := by
  by_cases h1 : t = 1
  · subst h1
    go_enter Tryd.func44, Tryd.ntmps44
    go_wp2_with fail
    go_ret
    exact ⟨rfl, rfl⟩
  · have f1 : ((t : Int) == 1) = false := by rw [beq_eq_false_iff_ne]; omega
    by_cases h2 : t = 111
    · subst h2
      go_enter Tryd.func44, Tryd.ntmps44
      go_wp2_with fail
      go_ret
      exact ⟨rfl, rfl⟩
    · have f2 : ((t : Int) == 111) = false := by rw [beq_eq_false_iff_ne]; omega
      have hw := Lib.hid (show word t = otW by simp [word, h1, h2])
      clear h1 h2
      go_enter Tryd.func44, Tryd.ntmps44
      go_wp2_with fail
      go_ret
      exact ⟨by rw [hw.out]; rfl, rfl⟩
def hexD : List UInt8 := [48, 49, 50, 51, 52, 53, 54, 55, 56, 57, 97, 98, 99, 100, 101, 102]
def hx (x : Nat) : UInt8 := hexD.getD x 0
/-- The text of a byte. -/
def hex2 (x : Nat) : List UInt8 := [hx (x / 16), hx (x % 16)]
theorem hex_ix (W : World) (i : Nat) (h : i < 16) : (Instr.index 9 (.string ⟨#[48, 49, 50, 51, 52, 53, 54, 55, 56, 57, 97, 98, 99, 100, 101, 102]⟩) (.int .u8 (i : Int))).run Tryd.prog W = .ok (.int .u8 ((hx i).toNat : Int)) W := by
  have hs : (⟨#[48, 49, 50, 51, 52, 53, 54, 55, 56, 57, 97, 98, 99, 100, 101, 102]⟩ : ByteArray)[(i : Int).toNat]? = some (hx i) := by
    rw [show (i : Int).toNat = i by omega]
    have hi : i < (⟨#[48, 49, 50, 51, 52, 53, 54, 55, 56, 57, 97, 98, 99, 100, 101, 102]⟩ : ByteArray).size := h
    rw [getElem?_pos _ i hi]
    have h2 : hexD[i]? = some (hexD.getD i 0) := by
      rw [List.getD_eq_getElem?_getD, List.getElem?_eq_getElem h]
      rfl
    rw [List.getElem?_eq_getElem h] at h2
    exact h2
  have hi : i < (⟨#[48, 49, 50, 51, 52, 53, 54, 55, 56, 57, 97, 98, 99, 100, 101, 102]⟩ : ByteArray).size := h
  have hI : (0 : Int) ≤ (i : Int) ∧ (i : Int) < ((⟨#[48, 49, 50, 51, 52, 53, 54, 55, 56, 57, 97, 98, 99, 100, 101, 102]⟩ : ByteArray).size : Int) := by omega
  rw [run_index_string W 9 _ .u8 (i : Int) Tryd.underlying9, dif_pos hI]
  rw [show (i : Int).toNat = i by omega, getElem?_pos _ i hi] at hs
  injection hs with hs
  rw [← hs]
  congr
theorem ixd (W : World) (a b c : Value) (k : Nat) (x : Value) (h : k < 3) (hx : #[a, b, c][k]? = some x) : (Instr.index 24 (.agg #[a, b, c]) (.int .i64 (k : Int))).run Tryd.prog W = .ok x W := by
  have e : (k : Int).toNat = k := by omega
  match k, h with
  | 0, _ => obtain rfl : a = x := by simpa using hx
            simp [Instr.index, run_underlying Tryd.underlying24, asIntOf, go_sem]
  | 1, _ => obtain rfl : b = x := by simpa using hx
            simp [Instr.index, run_underlying Tryd.underlying24, asIntOf, go_sem]
  | 2, _ => obtain rfl : c = x := by simpa using hx
            simp [Instr.index, run_underlying Tryd.underlying24, asIntOf, go_sem]
def nth3 (a b c k : Nat) : Nat := if k = 0 then a else if k = 1 then b else c
def hexs (a b c : Nat) (k : Nat) : List UInt8 := (hex2 a ++ hex2 b ++ hex2 c).take (2 * k)
theorem hexs_succ (a b c k : Nat) (h : k < 3) : hexs a b c (k + 1) = hexs a b c k ++ [hx (nth3 a b c k / 16), hx (nth3 a b c k % 16)] := by
  match k, h with
  | 0, _ => rfl
  | 1, _ => rfl
  | 2, _ => rfl
theorem str_own {base : Nat} {w : World} {v : Value} {l : List UInt8} (h : Own base w v l) (hl : 1 ≤ l.length) : (convert 27 9 v).run Tryd.prog w = .ok (.string ⟨l.toArray⟩) w := by
  rcases h.2 with ⟨_, h0⟩ | ⟨g, cap, cur, rfl, -⟩
  · omega
  · exact run_convert_bytes_back w _ _ _ ⟨g, 0, none⟩ cap l Tryd.underlying27 Tryd.underlying5 Tryd.underlying9 fun j hj => h.cells (g := g) rfl j _ (by simp [bvs, bv, hj])
theorem and_u8 (x : Nat) (hx : x < 256) : bits .and .u8 (x : Int) 15 = (x : Int) % 16 := by
  have key : ∀ x, x < 256 → bits .and .u8 ((x : Nat) : Int) 15 = (x : Int) % 16 := by decide
  exact key x hx
theorem data_p (a b c : Nat) (ha : a < 256) (hb : b < 256) (hc : c < 256) (w : World) : Calls Tryd.prog 43 #[.agg #[.int .u8 (a : Int), .int .u8 (b : Int), .int .u8 (c : Int)]] w fun e w' => e = .returned (.string ⟨(hex2 a ++ hex2 b ++ hex2 c).toArray⟩) ∧ Below w.heap.size w w' := by
  have hX := Lib.hid (fun k (hk : k < 3) => (show nth3 a b c k < 256 by unfold nth3; split <;> (try split) <;> omega))
  have hI := Lib.hid (fun W k (hk : k < 3) => ixd W (.int .u8 (a : Int)) (.int .u8 (b : Int)) (.int .u8 (c : Int)) k (.int .u8 (nth3 a b c k : Int)) hk (by
    match k, hk with
    | 0, _ => rfl
    | 1, _ => rfl
    | 2, _ => rfl))
  have hs : Below w.heap.size w (w.alloc (.cells #[.int .u8 (a : Int), .int .u8 (b : Int), .int .u8 (c : Int)] 24)) := (Below.refl _ _).alloc (Nat.le_refl _) _
  have hz : (w.alloc (.cells #[.int .u8 (a : Int), .int .u8 (b : Int), .int .u8 (c : Int)] 24)).heap.size = w.heap.size + 1 := by simp
  clear ha hb hc
  obtain ⟨i0, hi, hz0, hz1, hz2⟩ := info_parts info5
  go_enter Tryd.func43, Tryd.ntmps43
  go_wp2_with fail
  generalize w.alloc (.cells #[.int .u8 (a : Int), .int .u8 (b : Int), .int .u8 (c : Int)] 24) = w1 at *
  go_loopw [3, 7] (fun v i wr => ∃ k : Nat, k ≤ 3 ∧ i = .int .i64 (k : Int) ∧ Own w.heap.size wr v (hexs a b c k) ∧ Below w.heap.size w1 wr) (fun _ i _ => 3 - (intOf i).toNat)
  case atStart => exact ⟨0, Nat.zero_le _, rfl, Own.nil, Below.refl _ _⟩
  case round =>
    obtain ⟨k, hk, rfl, hown, hbel⟩ := hrel
    by_cases hlt : k < 3
    · have hx := hX.out k hlt
      have hi3 := fun W => hI.out W k hlt
      obtain ⟨x, hxx⟩ : ∃ x, nth3 a b c k = x := ⟨_, rfl⟩
      rw [hxx] at hx
      simp only [hxx] at hi3
      replace hxx := Lib.hid hxx
      have h1 : x / 16 < 16 := by omega
      have h2 : x % 16 < 16 := by omega
      have hx1 := fun W => hex_ix W (x / 16) h1
      have hx2 := fun W => hex_ix W (x % 16) h2
      simp only [Int.natCast_ediv, Int.natCast_emod, Int.cast_ofNat_Int] at hx1 hx2
      have hzr := hbel.size
      go_wp2_with fail
      have ha8 := and_u8 x hx
      go_region_law (refine step_append_rd _ rfl (.tmp 10) (.tmp 17) 27 rfl w.heap.size 5 i0 (.int .u8 0) 1 Tryd.underlying27 hi hz0 hz1 hz2 rfl u3 _ _ rfl ((World.ownsRow.alloc hown _).drew) (wr.heap.size + 1) (some ⟨wr.heap.size, 0, none⟩) 2 2 (bvs [V7.hx (x / 16), V7.hx (x % 16)]) rfl rfl (Rd.drew (Rd.new wr #[.int .u8 ((V7.hx (x / 16)).toNat : Int), .int .u8 ((V7.hx (x % 16)).toNat : Int)] 5)) (fun hh => by cases hh) (by intro u hu; simp [bvs, bv] at hu; rcases hu with rfl | rfl <;> rfl) (by unfold maxLen; simp [hexs]; omega) (by simp [hexs]; omega) (by simp; omega) ?_; intro v1 w2 hown2 hgr2)
      all_goals
        go_wp2_with fail
        refine ⟨⟨k + 1, by omega, vi (by omega), own_of hown2 ?_ ?_, below_grown (((hbel.alloc (by omega) _)).drew) ((World.ownsRow.alloc hown _).drew) hgr2 (by simp; omega)⟩, by simp [intOf]; omega⟩
        · rw [hexs_succ a b c k hlt, List.length_append]; rfl
        · rw [hexs_succ a b c k hlt, hxx.out, bvs_app]
    · obtain rfl : k = 3 := by omega
      have hcv := str_own hown (by simp [hexs, hex2])
      go_wp2_with fail
      go_ret
      exact ⟨rfl, hs.trans hbel⟩
end Go.Proofs.YtgbnigbjnbcfeaaDoor.V7
