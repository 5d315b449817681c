/- Walks: a log is opened on an erased device. -/
import Derived.Test.YtekhpcfggbegaaaGf
import Derived.Deep.RegionLaw
namespace Go.Proofs.Ytekhpcfggbegaaa.G9
open Go.RowKit Go.Proofs.Ytekhpcfggbegaaa.Mem Go.Proofs.Ytekhpcfggbegaaa.E5p Go.Proofs.Ytekhpcfggbegaaa.E5m Go.Proofs.Ytekhpcfggbegaaa.E5a Go.Proofs.Ytekhpcfggbegaaa.E5d Go.Proofs.Ytekhpcfggbegaaa.V7 Go.Proofs.Ytekhpcfggbegaaa.V9
set_option maxRecDepth 100000
set_option maxHeartbeats 4000000

/-- A number is decoded: some number. -/
theorem num_w (A : Option Addr) (n c : Nat) (l : List UInt8) (w : World) (hl : Sl w A n c l) (hn : n ≤ 8) :
    Calls Try.prog 168 #[.slice A n c] w fun e w' => (∃ x : Int, e = .returned (.int .i64 x)) ∧ w' = w := by
  have hlen := hl.len
  have hr := hl.row
  clear hl
  go_enter Try.func168, Try.ntmps168
  go_wp2_with fail
  go_loop [3, 8] (fun v i => ∃ (j : Nat) (x : Int), j ≤ n ∧ i = .int .i64 (j : Int) ∧ v = .int .i64 x) (fun _ i => n - (intOf i).toNat)
  case atStart => exact ⟨0, 0, Nat.zero_le _, rfl, rfl⟩
  case round =>
    obtain ⟨j, x, hj, rfl, rfl⟩ := hrel
    by_cases hlt : j < n
    · have hjl : j < l.length := by omega
      obtain ⟨a, rfl, hab, k0⟩ := row_at hr hjl
      have n1 : (j : Int) < (n : Int) := by omega
      have n2 : (0 : Int) ≤ (j : Int) := by omega
      go_wp2_with fail
      exact ⟨⟨j + 1, _, by omega, by go_num, rfl⟩, by simp [intOf]; omega⟩
    · have n1 : ¬ (j : Int) < (n : Int) := by omega
      go_wp2_with fail
      go_ret
      exact ⟨⟨_, rfl⟩, rfl⟩
theorem sl_part {w : World} {a : Addr} {n c : Nat} {l : List UInt8} (h : Sl w (some a) n c l) (i j : Nat) (hij : i < j) (hj : j ≤ n) : Sl w (some (a.add i)) (j - i) (c - i) ((l.take j).drop i) := by
  have hlen := h.len
  have hcap := h.cap
  have hmx := h.max
  have hr := row_cut (cap := c) (row_take h.row j) (n := i) (by rw [List.length_take]; omega) (by rw [List.length_take]; omega)
  rw [if_neg (by omega), Option.map_some] at hr
  exact ⟨by rw [List.length_drop, List.length_take]; omega, hr, by omega, by omega, fun hh => by cases hh⟩
theorem out_hdr {p q : Tmp} {a : Act} {w : World} {r : Nat} {x y z : Int} {v : Value} {Q : Ending → World → Prop} {fn : Func} (hr : fn.results = #[.cell p 185, .tmp q]) (hp : a.tmps.getD p undef = .pointer (some ⟨r, 0, none⟩)) (hq : a.tmps.getD q undef = v) (hd : a.defers = [])
    (hb : w.heap[r]? = some (.cells #[.int .i64 x, .int .i64 y, .int .u16 z] 185 (0, 0))) (h : Q (.returned (.tuple #[.agg #[.int .i64 x, .int .i64 y, .int .u16 z], v])) w) : bodyPost Try.prog fn Q .ret a w := by
  refine bodyPost_ret ?_ hd h
  have hp' : a.tmps[p]?.getD undef = .pointer (some ⟨r, 0, none⟩) := by simpa using hp
  have hq' : a.tmps[q]?.getD undef = v := by simpa using hq
  have hl : (loadVar 185 ⟨r, 0, none⟩).run Try.prog w = .ok (.agg #[.int .i64 x, .int .i64 y, .int .u16 z]) w := run_loadVar_row w r _ _ _ _ _ hb Try.underlying185 rfl (by kernel_rfl)
  simp [results, hr, hp', hq', asAddr, hl]
/-- The header of an erased sector is not valid. -/
theorem hdr_no (a : Addr) (n c : Nat) (l : List UInt8) (w : World) (hl : Sl w (some a) n c l) (hn : 11 ≤ n) (he : l[10]? = some 255) (j S : Nat) :
    Calls Try.prog 143 #[.slice (some a) n c, .int .i64 (j : Int), .int .i64 (S : Int)] w fun e w' => (∃ (q t i : Int), e = .returned (.tuple #[.agg #[.int .i64 q, .int .i64 t, .int .u16 i], .bool false])) ∧ Below w.heap.size w w' := by
  have hcap := hl.cap
  have hcm : c ≤ 2 ^ 63 - 1 := hl.max
  have hlen := hl.len
  have h10 : 10 < l.length := by omega
  obtain ⟨a', ha', hab, k10⟩ := row_at hl.row h10
  injection ha' with ha'
  subst ha'
  have hb10 : l[10] = 255 := by
    have := List.getElem?_eq_getElem h10
    rw [he] at this
    exact (Option.some.inj this).symm
  rw [hb10] at k10
  have HL := Lib.hid hl
  have HN1 := Lib.hid (fun (V : World) (hV : Below w.heap.size w V) => num_w (some a) 4 c (l.take 4) V ((sl_front hl (k := 4) (by omega)).step hV) (by omega))
  have HN2 := Lib.hid (fun (V : World) (hV : Below w.heap.size w V) => num_w (some ⟨a.block, a.off + 4, none⟩) 4 (c - 4) ((l.take 8).drop 4) V ((sl_part hl 4 8 (by omega) (by omega)).step hV) (by omega))
  have HN3 := Lib.hid (fun (V : World) (hV : Below w.heap.size w V) => num_w (some ⟨a.block, a.off + 8, none⟩) 2 (c - 8) ((l.take 10).drop 8) V ((sl_part hl 8 10 (by omega) (by omega)).step hV) (by omega))
  have hp0 : (0 : Int) ≤ 255 := by decide
  have HN10 : Hid ((10 : Int) < (n : Int)) := Lib.hid (by omega)
  have i4 : (4 : Int) ≤ (c : Int) := by omega
  have i8 : (8 : Int) ≤ (c : Int) := by omega
  have i10 : (10 : Int) ≤ (c : Int) := by omega
  have j4 : ¬ c = 4 := by omega
  have j8 : ¬ c = 8 := by omega
  clear hl he hb10 h10 hlen
  go_enter Try.func143, Try.ntmps143
  go_wp2_with fail
  have HK10 := Lib.hid k10
  have hb0 : Below w.heap.size w (w.alloc (.cells #[.int .i64 0, .int .i64 0, .int .u16 0] 185)) := (Below.refl _ _).alloc (Nat.le_refl _) _
  have HBA : Hid (Below w.heap.size w (w.alloc (.cells #[.int .i64 0, .int .i64 0, .int .u16 0] 185)).drew) := Lib.hid (below_drew hb0)
  have HBB : Hid (Below w.heap.size w ((w.alloc (.cells #[.int .i64 0, .int .i64 0, .int .u16 0] 185)).alloc (.cells #[.int .i64 0, .int .i64 0, .int .u16 0] 185)).drew) := Lib.hid (below_drew (hb0.alloc (by simp) _))
  have HBC := Lib.hid (fun (q t i : Int) => below_drew (hb0.alloc (by simp) (.cells #[.int .i64 q, .int .i64 t, .int .u16 i] 185)))
  have k10' : (w.alloc (.cells #[.int .i64 0, .int .i64 0, .int .u16 0] 185)).cell? (a.add 10) = some (.int .u8 255) := (hb0.cell (by rw [add_block]; exact hab)).trans k10
  have hab0 : a.block < (w.alloc (.cells #[.int .i64 0, .int .i64 0, .int .u16 0] 185)).heap.size := Nat.lt_of_lt_of_le hab hb0.size
  clear hb0
  go_region_held3 (fun V => V.cell? (a.add 10) = some (.int .u8 255)) (first | exact k10' | exact (HBB.out.cell (by rw [add_block]; exact hab)).trans HK10.out | exact ((HBC.out _ _ _).cell (by rw [add_block]; exact hab)).trans HK10.out)
    (first
      | (go_at_call 168; with_reducible refine (HN1.out _ (by first | exact HBA.out | exact HBB.out)).mono ?_; rintro e w2 ⟨⟨x1, rfl⟩, rfl⟩)
      | (go_at_call 168; with_reducible refine (HN2.out _ (by first | exact HBA.out | exact HBB.out)).mono ?_; rintro e w2 ⟨⟨x2, rfl⟩, rfl⟩)
      | (go_at_call 168; with_reducible refine (HN3.out _ (by first | exact HBA.out | exact HBB.out)).mono ?_; rintro e w2 ⟨⟨x3, rfl⟩, rfl⟩))
  all_goals
    generalize IntKind.u16.wrap x3 = y3
    have k11 := ((HBC.out x1 x2 y3).cell (p := ⟨a.block, a.off + 10, none⟩) hab).trans HK10.out
    clear k10' i4 i8 i10 j4 j8 hab0 k10 hcap
    have n10 : (10 : Int) < (n : Int) := HN10.out
    clear hn
    go_wp2_with fail
    have hA1 : Below w.heap.size w (w.alloc (.cells #[.int .i64 x1, .int .i64 x2, .int .u16 y3] 185)) := (Below.refl _ _).alloc (Nat.le_refl _) _
    have hA2 := below_drew (hA1.alloc (by simp) (.cells #[.int .i64 x1, .int .i64 x2, .int .u16 y3] 185))
    have hA3 : ((w.alloc (.cells #[.int .i64 x1, .int .i64 x2, .int .u16 y3] 185)).alloc (.cells #[.int .i64 x1, .int .i64 x2, .int .u16 y3] 185)).drew.heap[w.heap.size]? = some (.cells #[.int .i64 x1, .int .i64 x2, .int .u16 y3] 185 (0, 0)) :=
      (heap_alloc_old (w.alloc _) _ (by simp)).trans (heap_alloc_new w _)
    exact out_hdr (p := 6) (q := 7) Try.results143 rfl rfl rfl (by exact hA3) ⟨⟨_, _, _, rfl⟩, by exact hA2⟩
end Go.Proofs.Ytekhpcfggbegaaa.G9
