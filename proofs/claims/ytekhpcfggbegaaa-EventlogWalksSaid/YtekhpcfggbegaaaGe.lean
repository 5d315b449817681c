/- Walks: the event log's bytes: numbers, headers, slots. -/
import Derived.Test.YtekhpcfggbegaaaGd
import Derived.Test.YtekhpcfggbegaaaF2m
namespace Go.Proofs.Ytekhpcfggbegaaa.G9
open Go.RowKit Go.Proofs.Ytekhpcfggbegaaa.Mem Go.Proofs.Ytekhpcfggbegaaa.F2p Go.Proofs.Ytekhpcfggbegaaa.E5p Go.Proofs.Ytekhpcfggbegaaa.E5m Go.Proofs.Ytekhpcfggbegaaa.E5d Go.Proofs.Ytekhpcfggbegaaa.V7 Go.Proofs.Ytekhpcfggbegaaa.V9
set_option maxRecDepth 100000
set_option maxHeartbeats 1000000

theorem lit_more (v k : Nat) : lit v (k + 1) = lit v k ++ [UInt8.ofNat (v / 256 ^ k % 256)] := F2p.lit_snoc v k
theorem shr_bv (v k : Nat) : Value.int .u8 ((v : Int) / 2 ^ (8 * k) % 256) = bv (UInt8.ofNat (v / 256 ^ k % 256)) := by
  rw [← bv_nat (Nat.mod_lt _ (by decide))]
  congr 1
  rw [Int.natCast_emod, Int.natCast_ediv, Int.natCast_pow, Int.pow_mul]
  rfl
theorem appn_p (base : Nat) (u : Value) (l : List UInt8) (v n : Nat) (w : World) (hown : Mem.Own base w u l) (hb : base ≤ w.heap.size) (hn : n ≤ 4) (_hv : v < 1099511627776) (hl : l.length ≤ 1000) :
    Calls Try.prog 193 #[u, .int .i64 (v : Int), .int .i64 (n : Int)] w fun e w' => ∃ u', e = .returned u' ∧ Mem.Own base w' u' (l ++ lit v n) ∧ Below base w w' := by
  obtain ⟨i0, hi, hz0, hz1, hz2⟩ := info_parts info5
  go_enter Try.func193, Try.ntmps193
  go_wp2
  go_loopw [0, 9] (fun x i wr => ∃ k : Nat, k ≤ n ∧ i = .int .i64 (k : Int) ∧ Mem.Own base wr x (l ++ lit v k) ∧ Below base w wr) (fun _ i _ => n - (intOf i).toNat)
  case atStart => exact ⟨0, Nat.zero_le _, rfl, by simpa [F2p.lit] using hown, Below.refl _ _⟩
  case round =>
    obtain ⟨k, hk, rfl, hown, hbel⟩ := hrel
    have hsz := hbel.size
    by_cases hlt : k < n
    · have HS := Lib.hid (lit_more v k)
      have hlen := lit_len v k
      have HV := Lib.hid (shr_bv v k)
      go_wp2_with (at_builtin; go_loud (refine wpList_append_rd _ rfl (.tmp 12) (.tmp 18) _ rfl base 5 i0 _ 1 Try.underlying33 hi hz0 hz1 hz2 rfl _ _ (bvs (l ++ lit v k)) rfl (World.ownsRow.alloc hown _) _ _ 1 1 [.int .u8 ((v : Int) / 2 ^ (8 * k) % 256)] rfl rfl (Rd.new wr _ _) (fun hh => by cases hh) one_int (by unfold maxLen; rw [List.length_append, hlen]; omega) (by rw [List.length_append, hlen]; omega) (by simp; omega) ?_); intro v' w1 hown1 hg1)
      have hbel1 : Below base w w1 := below_grown (hbel.alloc (by omega) _) (World.ownsRow.alloc hown _) hg1 (by simp; omega)
      refine ⟨⟨k + 1, by omega, by go_num, own_of hown1 ?_ ?_, hbel1⟩, by simp [intOf]; omega⟩
      · rw [HS.out]; simp [Nat.add_assoc]
      · rw [HS.out, ← List.append_assoc, bvs_app (l ++ lit v k), HV.out]
        rfl
    · obtain rfl : k = n := by omega
      go_wp2
      go_ret
      exact ⟨_, rfl, hown, hbel⟩
theorem hdr_p (q t i : Nat) (hq : q < 1099511627776) (ht : t < 1099511627776) (hi : i < 65536) (w : World) :
    Calls Try.prog 172 #[.agg #[.int .i64 (q : Int), .int .i64 (t : Int), .int .u16 (i : Int)]] w fun e w' => ∃ v, e = .returned v ∧ Mem.Own w.heap.size w' v (Lg.hdr q t i) ∧ Below w.heap.size w w' := by
  have hb0 : Below w.heap.size w (w.alloc (.cells #[.int .i64 (q : Int), .int .i64 (t : Int), .int .u16 (i : Int)] 185)) := (Below.refl _ _).alloc (Nat.le_refl _) _
  have c1 : (w.alloc (.cells #[.int .i64 (q : Int), .int .i64 (t : Int), .int .u16 (i : Int)] 185)).cell? ⟨w.heap.size, 1, none⟩ = some (.int .i64 (t : Int)) := cell_of_row _ _ 1 _ _ _ (heap_alloc_new w _)
  have c2 : (w.alloc (.cells #[.int .i64 (q : Int), .int .i64 (t : Int), .int .u16 (i : Int)] 185)).cell? ⟨w.heap.size, 2, none⟩ = some (.int .u16 (i : Int)) := cell_of_row _ _ 2 _ _ _ (heap_alloc_new w _)
  have hz : w.heap.size < (w.alloc (.cells #[.int .i64 (q : Int), .int .i64 (t : Int), .int .u16 (i : Int)] 185)).heap.size := by simp
  replace hb0 := Lib.hid hb0
  replace c1 := Lib.hid c1
  replace c2 := Lib.hid c2
  go_enter Try.func172, Try.ntmps172
  go_wp2_with fail
  generalize w.alloc (.cells #[.int .i64 (q : Int), .int .i64 (t : Int), .int .u16 (i : Int)] 185) = w0 at *
  refine (appn_p w0.heap.size (.slice none 0 0) [] q 4 w0 ⟨by simp [bvs], .inl ⟨rfl, by simp⟩⟩ (Nat.le_refl _) (by omega) hq (by simp)).mono ?_
  rintro e w1 ⟨v1, rfl, ho1, hb1⟩
  rw [List.nil_append] at ho1
  have d1 := (hb1.cell (p := ⟨w.heap.size, 1, none⟩) hz).trans c1.out
  have d2 := Lib.hid ((hb1.cell (p := ⟨w.heap.size, 2, none⟩) hz).trans c2.out)
  go_wp2_with fail
  refine (appn_p w0.heap.size v1 _ t 4 w1 ho1 hb1.size (by omega) ht (by rw [lit_len]; omega)).mono ?_
  rintro e w2 ⟨v2, rfl, ho2, hb2⟩
  have d3 := (hb2.cell (p := ⟨w.heap.size, 2, none⟩) hz).trans d2.out
  clear d1
  go_wp2_with fail
  refine (appn_p w0.heap.size v2 _ i 2 w2 ho2 (Nat.le_trans hb1.size hb2.size) (by omega) (by omega) (by simp [lit_len])).mono ?_
  rintro e w3 ⟨v3, rfl, ho3, hb3⟩
  go_wp2_with fail
  go_ret
  exact ⟨_, rfl, ho3.base_ (Nat.le_of_lt hz), hb0.out.trans (((hb1.trans hb2).trans hb3).mono (Nat.le_of_lt hz))⟩
/-- The bytes of a slot. -/
theorem slot_p (e : Ev) (hf : e.Fit) (hv : vld e = true) (w : World) :
    Calls Try.prog 152 #[e.v] w fun x w' => ∃ v, x = .returned v ∧ Mem.Own w.heap.size w' v (encE e ++ [0]) ∧ Below w.heap.size w w' := by
  obtain ⟨i0, hi, hz0, hz1, hz2⟩ := info_parts info5
  have hB := Lib.hid (Box.new w e)
  have hs : Below w.heap.size w (w.alloc (.cells e.cells 89)) := (Below.refl _ _).alloc (Nat.le_refl _) _
  have HE := Lib.hid (fun u => enc_p e hf hv u)
  have hl := enc_len e
  clear hf hv
  generalize encE e = E at *
  obtain ⟨id, time, gen, st, sn, ty, de, d0, d1, d2⟩ := e
  dsimp only [Ev.v, Ev.cells] at *
  replace hs := Lib.hid hs
  go_enter Try.func152, Try.ntmps152
  go_wp2_with (refine wpList_load_box rfl (.tmp 1) rfl w.heap.size _ rfl hB.out ?_)
  refine (HE.out _).mono ?_
  rintro x w1 ⟨v, rfl, hown, hb⟩
  go_wp2_with (at_builtin; go_loud (refine wpList_append_rd _ rfl (.tmp 10) (.tmp 11) _ rfl _ 5 i0 _ 1 Try.underlying33 hi hz0 hz1 hz2 rfl _ _ (bvs E) rfl (World.ownsRow.alloc hown _) _ _ 1 1 [.int .u8 0] rfl rfl (Rd.new w1 _ _) (fun hh => by cases hh) one_int (by unfold maxLen; rw [hl]; omega) (by rw [hl]; omega) (by simp; have := hb.size; simpa using Nat.le_succ_of_le this) ?_); intro v' w2 hown1 hg1)
  have hz : w.heap.size ≤ (w.alloc (.cells #[.int .u16 (id : Int), .int .u32 (time : Int), .int .u16 (gen : Int), .int .u8 (st : Int), .int .u8 (sn : Int), .int .u8 (ty : Int), .bool de, .int .u8 (d0 : Int), .int .u8 (d1 : Int), .int .u8 (d2 : Int)] 89)).heap.size := by simp
  have hb2 := below_grown (hb.alloc hb.size (.cells #[.int .u8 0] 5)) (World.ownsRow.alloc hown _) hg1 (by simpa using Nat.le_succ_of_le hb.size)
  go_ret
  exact ⟨_, rfl, (own_of hown1 (by simp) (by rw [bvs_app]; rfl)).base_ hz, hs.out.trans (hb2.mono hz)⟩
end Go.Proofs.Ytekhpcfggbegaaa.G9
