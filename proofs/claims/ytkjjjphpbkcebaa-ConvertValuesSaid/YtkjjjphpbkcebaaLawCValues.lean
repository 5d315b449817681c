/- ConvertValues holds for every input: which conversions are valid, and the values of raw readings, as the reference says. No condition. -/
import Derived.Test.YtkjjjphpbkcebaaAw5
import Derived.Test.YtkjjjphpbkcebaaD5b
import Derived.Test.YtkjjjphpbkcebaaLaw4
namespace Go.Proofs.Ytkjjjphpbkcebaa.convertValues
open Go.RowKit Go.ChangeShapes Go.WideShapes Go.ChangeAt Go.Proofs.Ytkjjjphpbkcebaa.Mem Go.Proofs.Ytkjjjphpbkcebaa.M3p Go.Proofs.Ytkjjjphpbkcebaa.C4p Go.Proofs.Ytkjjjphpbkcebaa.C4l Go.Proofs.Ytkjjjphpbkcebaa.C4v Go.Proofs.Ytkjjjphpbkcebaa.P4 Go.Proofs.Ytkjjjphpbkcebaa.D5 Go.Proofs.Ytkjjjphpbkcebaa.Aw4 Go.Proofs.Ytkjjjphpbkcebaa.Made Go.Proofs.Ytkjjjphpbkcebaa.Law
set_option maxRecDepth 100000
set_option maxHeartbeats 4000000

theorem walk (fa : Int) (sa : Bool) (ma ba ka kb : Int) (Aa : Option Addr) (na ca : Nat) (pa : List Pt) (_h1 : -9223372036854775808 ≤ fa ∧ fa ≤ 9223372036854775807) (_h2 : -9223372036854775808 ≤ ma ∧ ma ≤ 9223372036854775807) (_h3 : -9223372036854775808 ≤ ba ∧ ba ≤ 9223372036854775807) (_h4 : -9223372036854775808 ≤ ka ∧ ka ≤ 9223372036854775807) (_h5 : -9223372036854775808 ≤ kb ∧ kb ≤ 9223372036854775807)
    (A : Option Addr) (n c : Nat) (l : List Int) (hn : n = l.length) (hw : ∀ x ∈ l, -9223372036854775808 ≤ x ∧ x ≤ 9223372036854775807) (hc : n ≤ c) (hm : c ≤ maxLen) (_hA : A = none → c = 0)
    (x : Int) (hx : 0 ≤ x ∧ x ≤ 255)
    (w : World) (hra : PSl w Aa na ca pa) (hr : IRow w.heap.size w A l) :
    Calls Try.prog 3 #[.agg #[.int .i64 fa, .bool sa, .int .i64 ma, .int .i64 ba, .int .i64 ka, .int .i64 kb, .slice Aa na ca], .slice A n c, .int .u8 x] w fun e w' => e = .returned (.bool true) ∧ Below w.heap.size w w' := by
  obtain ⟨r, rfl⟩ : ∃ r : UInt8, x = (r.toNat : Int) := ⟨UInt8.ofNat x.toNat, by rw [UInt8.toNat_ofNat']; omega⟩
  have hnm : n ≤ maxLen := by omega
  have HN := Lib.hid hn
  have HW := Lib.hid hw
  have hnam : na ≤ maxLen := Nat.le_trans hra.cap hra.max
  clear hn hw hc hm _hA _h1 _h2 _h3 _h4 _h5
  have haw := Lib.hid (fun u => awake_any u)
  have hlight := Lib.hid (fun u => light_any fa ma ba ka kb sa Aa na ca u hnam)
  obtain ⟨lb, hlb⟩ : ∃ lb, lb = decide (na ≤ 30) := ⟨_, rfl⟩
  rw [← hlb] at hlight
  obtain ⟨mb, hmb⟩ : ∃ mb, mb = decide (n ≤ 600) := ⟨_, rfl⟩
  have hlm := Lib.hid (fun u => by have := lightmade_any A n c u hnm; rw [← hmb] at this; exact this)
  have hbx0 : Below w.heap.size w (w.alloc (.cells #[.int .i64 fa, .bool sa, .int .i64 ma, .int .i64 ba, .int .i64 ka, .int .i64 kb, .slice Aa na ca] 24)) := (Below.refl _ _).alloc (Nat.le_refl _) _
  have hrowb0 := heap_alloc_new w (.cells #[.int .i64 fa, .bool sa, .int .i64 ma, .int .i64 ba, .int .i64 ka, .int .i64 kb, .slice Aa na ca] 24)
  have HBX0 := Lib.hid hbx0
  have HROWB0 := Lib.hid hrowb0
  have HMB := Lib.hid hmb
  clear hbx0 hrowb0 hlb hmb
  go_enter Try.func3, Try.ntmps3
  go_wp2_with fail
  refine (hlight.out _).mono ?_
  rintro e w1 ⟨rfl, hb1⟩
  have hbw1 := HBX0.out.trans (hb1.mono HBX0.out.size)
  have hrow1 := (hb1.block _ (by rw [World.size_alloc]; omega)).trans HROWB0.out
  clear hb1
  cases lb
  · go_wp2_with fail
    refine (haw.out _).mono ?_
    rintro e w3 ⟨rfl, hb3⟩
    go_wp2_with fail
    go_ret
    exact ⟨rfl, hbw1.trans (hb3.mono hbw1.size)⟩
  cases mb
  · go_wp2_with (go_at_call 14; refine (hlm.out _).mono ?_; rintro e w' ⟨rfl, rfl⟩)
    refine (haw.out _).mono ?_
    rintro e w3 ⟨rfl, hb3⟩
    go_wp2_with fail
    go_ret
    exact ⟨rfl, hbw1.trans (hb3.mono hbw1.size)⟩
  go_wp2_with (go_at_call 14; refine (hlm.out _).mono ?_; rintro e w' ⟨rfl, rfl⟩)
  have h6 : n ≤ 600 := of_decide_eq_true HMB.out.symm
  refine (roll_any A n c w1).mono ?_
  rintro e wd ⟨rfl, rfl⟩
  obtain ⟨hdz, hbd⟩ := irow_light (c := c) HN.out ((Rd.below hr hbw1).more hbw1.size) HW.out h6
  have hglt : w.heap.size < w1.heap.size := lt_of_some hrow1
  have hrowd := (Below.heap_alloc w1 (.cells #[.slice A n c, .int .i64 0] 67) _ hglt).trans hrow1
  have hbwd := hbw1.trans (hbd.mono hbw1.size)
  generalize hgg : w1.heap.size = g at *
  generalize w1.alloc (.cells #[.slice A n c, .int .i64 0] 67) = wd at *
  clear hrow1 hbd hr hbw1 hgg HMB h6 hnm HN HW
  have hdzd := dz_drew hdz
  have cel : ∀ u : World, u.heap[w.heap.size]? = some (.cells #[.int .i64 fa, .bool sa, .int .i64 ma, .int .i64 ba, .int .i64 ka, .int .i64 kb, .slice Aa na ca] 24 (0, 0)) → u.cell? ⟨w.heap.size, 0, none⟩ = some (.int .i64 fa) ∧ u.cell? ⟨w.heap.size, 1, none⟩ = some (.bool sa) ∧ u.cell? ⟨w.heap.size, 2, none⟩ = some (.int .i64 ma) ∧ u.cell? ⟨w.heap.size, 3, none⟩ = some (.int .i64 ba) ∧ u.cell? ⟨w.heap.size, 4, none⟩ = some (.int .i64 ka) ∧ u.cell? ⟨w.heap.size, 5, none⟩ = some (.int .i64 kb) ∧ u.cell? ⟨w.heap.size, 6, none⟩ = some (.slice Aa na ca) := fun u h => ⟨(cell_of_row u _ 0 _ _ _ h).trans rfl, (cell_of_row u _ 1 _ _ _ h).trans rfl, (cell_of_row u _ 2 _ _ _ h).trans rfl, (cell_of_row u _ 3 _ _ _ h).trans rfl, (cell_of_row u _ 4 _ _ _ h).trans rfl, (cell_of_row u _ 5 _ _ _ h).trans rfl, (cell_of_row u _ 6 _ _ _ h).trans rfl⟩
  have CEL := Lib.hid cel
  have k0 := CEL.out _ hrowd
  have k0d := CEL.out wd.drew hrowd
  have ODD := Lib.hid (odd_any hdzd)
  have HROWD := Lib.hid hrowd
  have hlt := hdz.lt
  have HBWD := Lib.hid hbwd
  clear cel hrowd hdz hdzd hbwd
  go_wp2_with fail
  go_region_held3 (fun w' => w'.cell? ⟨w.heap.size, 0, none⟩ = some (.int .i64 fa) ∧ w'.cell? ⟨w.heap.size, 1, none⟩ = some (.bool sa) ∧ w'.cell? ⟨w.heap.size, 2, none⟩ = some (.int .i64 ma) ∧ w'.cell? ⟨w.heap.size, 3, none⟩ = some (.int .i64 ba) ∧ w'.cell? ⟨w.heap.size, 4, none⟩ = some (.int .i64 ka) ∧ w'.cell? ⟨w.heap.size, 5, none⟩ = some (.int .i64 kb) ∧ w'.cell? ⟨w.heap.size, 6, none⟩ = some (.slice Aa na ca)) (first | exact k0 | exact k0d | exact k2 | exact k3 | go_keep)
    (first
      | (go_at_call 17; refine (ODD.out).mono ?_; rintro e w2 ⟨f2, m2, b2, j1, j2, s2, v2, p2, rfl, -, ho2, hd2, hg2⟩; obtain ⟨A2, n2, c2, rfl, -⟩ := ho2.sl; have hrow2 := (hg2.block _ (lt_of_some HROWD.out) (fun e => (by injection e; omega))).trans HROWD.out; have k2 := CEL.out _ hrow2; have CON := Lib.hid (conv_any hd2))
      | (go_at_call 18; refine (CON.out).mono ?_; rintro e w3 ⟨f, m, b, k1, k2', s, v, p, rfl, -, ho3, hd3, hg3⟩; obtain ⟨A', n', c', rfl, -⟩ := ho3.sl; have hrow3 := (hg3.block _ (lt_of_some hrow2) (fun e => (by injection e; omega))).trans hrow2; have k3 := CEL.out _ hrow3))
  all_goals
    have hs1 := pown_psl (pown_kept ho2 hg3 (by exact hlt))
    have hs2 := pown_psl ho3
    have hbd2 : Below w.heap.size w w2 := ⟨hg2.os.trans HBWD.out.os, hg2.tape.trans HBWD.out.tape, hg2.output.trans HBWD.out.output, Nat.le_trans HBWD.out.size hg2.size, fun i hi => (hg2.block i (Nat.lt_of_lt_of_le hi HBWD.out.size) (fun e => by injection e; omega)).trans (HBWD.out.block i hi)⟩
    have hbd3 : Below w.heap.size w w3 := ⟨hg3.os.trans hbd2.os, hg3.tape.trans hbd2.tape, hg3.output.trans hbd2.output, Nat.le_trans hbd2.size hg3.size, fun i hi => (hg3.block i (Nat.lt_of_lt_of_le hi hbd2.size) (fun e => by injection e; omega)).trans (hbd2.block i hi)⟩
    have hs0 := hra.step hbd3
    clear ho2 ho3 hd2 hd3 hg2 hg3 hbd2 k0 k0d k2 k3 hrow2 hrow3 ODD CON HROWD
    obtain ⟨G, hG⟩ : ∃ G, G = w3.heap.size := ⟨_, rfl⟩
    obtain ⟨W5, hW5⟩ : ∃ W5, W5 = w3.alloc (.cells #[.int .i64 fa, .bool sa, .int .i64 ma, .int .i64 ba, .int .i64 ka, .int .i64 kb, .slice Aa na ca, .int .i64 f2, .bool s2, .int .i64 m2, .int .i64 b2, .int .i64 j1, .int .i64 j2, .slice A2 n2 c2, .int .i64 f, .bool s, .int .i64 m, .int .i64 b, .int .i64 k1, .int .i64 k2', .slice A' n' c'] 24) := ⟨_, rfl⟩
    have hb5 : Below w3.heap.size w3 W5 := by rw [hW5]; exact (Below.refl _ _).alloc (Nat.le_refl _) _
    have hr5 : W5.heap[G]? = some (.cells #[.int .i64 fa, .bool sa, .int .i64 ma, .int .i64 ba, .int .i64 ka, .int .i64 kb, .slice Aa na ca, .int .i64 f2, .bool s2, .int .i64 m2, .int .i64 b2, .int .i64 j1, .int .i64 j2, .slice A2 n2 c2, .int .i64 f, .bool s, .int .i64 m, .int .i64 b, .int .i64 k1, .int .i64 k2', .slice A' n' c'] 24 (0, 0)) := by rw [hG, hW5]; exact heap_alloc_new w3 _
    have s00 := hs0.step hb5
    have s10 := hs1.step hb5
    have s20 := hs2.step hb5
    have hbw5 := hbd3.trans (hb5.mono hbd3.size)
    clear hs0 hs1 hs2 hb5 hbd3
    go_wp2_with fail
    rw [← hW5, ← hG]
    clear hW5 hG
    go_loopw [32] (fun v32 wr => ∃ i : Nat, i ≤ 3 ∧ v32 = .int .i64 (i : Int) ∧ Below W5.heap.size W5 wr) (fun v32 _ => 3 - (intOf v32).toNat)
    case atStart => exact ⟨0, by omega, rfl, Below.refl _ _⟩
    case round =>
      obtain ⟨i, hi, rfl, hbr⟩ := hrel
      have hrow := (hbr.block G (lt_of_some hr5)).trans hr5
      rcases (show i = 0 ∨ i = 1 ∨ i = 2 ∨ i = 3 by omega) with rfl | rfl | rfl | rfl
      · have q0 : wr.cell? ⟨G, 0, none⟩ = some (.int .i64 fa) := (cell_of_row wr G 0 _ _ _ hrow).trans rfl
        have q1 : wr.cell? ⟨G, 1, none⟩ = some (.bool sa) := (cell_of_row wr G 1 _ _ _ hrow).trans rfl
        have q2 : wr.cell? ⟨G, 2, none⟩ = some (.int .i64 ma) := (cell_of_row wr G 2 _ _ _ hrow).trans rfl
        have q3 : wr.cell? ⟨G, 3, none⟩ = some (.int .i64 ba) := (cell_of_row wr G 3 _ _ _ hrow).trans rfl
        have q4 : wr.cell? ⟨G, 4, none⟩ = some (.int .i64 ka) := (cell_of_row wr G 4 _ _ _ hrow).trans rfl
        have q5 : wr.cell? ⟨G, 5, none⟩ = some (.int .i64 kb) := (cell_of_row wr G 5 _ _ _ hrow).trans rfl
        have q6 : wr.cell? ⟨G, 6, none⟩ = some (.slice Aa na ca) := (cell_of_row wr G 6 _ _ _ hrow).trans rfl
        have hsr := s00.step hbr
        have hcb := Cb.new wr (.int .i64 fa) (.bool sa) (.int .i64 ma) (.int .i64 ba) (.int .i64 ka) (.int .i64 kb) (.slice Aa na ca)
        obtain ⟨X, hX⟩ : ∃ X, X = (value ⟨fa, sa, ma, ba, ka, kb, pa⟩ r).1 := ⟨_, rfl⟩
        obtain ⟨E, hE⟩ : ∃ X, X = (value ⟨fa, sa, ma, ba, ka, kb, pa⟩ r).2 := ⟨_, rfl⟩
        obtain ⟨B, hB⟩ : ∃ X, X = C4p.vld ⟨fa, sa, ma, ba, ka, kb, pa⟩ := ⟨_, rfl⟩
        obtain ⟨N, hN⟩ : ∃ X, X = num sa r := ⟨_, rfl⟩
        have D1 := Lib.hid (fun u hu => by have := value_p fa ma ba ka kb sa Aa na ca pa r u hu; rw [← hX, ← hE] at this; exact this)
        have D2 := Lib.hid (fun u hu => by have := value_r fa ma ba ka kb sa Aa na ca pa r u hu; rw [← hX, ← hE] at this; exact this)
        have D3 := Lib.hid (fun u hu => by have := valid_p fa ma ba ka kb sa Aa na ca pa u hu; rw [← hB] at this; exact this)
        have D4 := Lib.hid (fun u hu => by have := valid_r fa ma ba ka kb sa Aa na ca pa u hu; rw [← hB] at this; exact this)
        have D5 := Lib.hid (fun u => by have := number_p sa r u; rw [← hN] at this; exact this)
        have D6 := Lib.hid (fun u => by have := number_r sa r u; rw [← hN] at this; exact this)
        clear hX hE hB hN
        go_wp2_with fail
        refine (D1.out _ (hcb.sl hsr)).mono ?_
        rintro e w7 ⟨rfl, hb7⟩
        have hcb2 := hcb.step hb7
        obtain ⟨y0, y1, y2, y3, y4, y5, y6⟩ := hcb2.cells
        clear q0 q1 q2 q3 q4 q5 q6
        go_wp2_with fail
        refine (D2.out _ (hcb2.sl hsr)).mono ?_
        rintro e w8 ⟨rfl, hb8⟩
        have hcb3 := hcb2.step hb8
        have hcb3d : Cb wr w8.drew (.int .i64 fa) (.bool sa) (.int .i64 ma) (.int .i64 ba) (.int .i64 ka) (.int .i64 kb) (.slice Aa na ca) := ⟨hcb3.1, ⟨hcb3.2.os, hcb3.2.tape, hcb3.2.output, hcb3.2.size, hcb3.2.block⟩⟩
        have KP := Lib.hid (fun u (hu : Cb wr u (.int .i64 fa) (.bool sa) (.int .i64 ma) (.int .i64 ba) (.int .i64 ka) (.int .i64 kb) (.slice Aa na ca)) => hu.cells)
        have hk8 := KP.out _ hcb3
        have hk8d := KP.out _ hcb3d
        have hs8 := hcb3d.sl hsr
        have HS := Lib.hid (fun u (hu : Cb wr u (.int .i64 fa) (.bool sa) (.int .i64 ma) (.int .i64 ba) (.int .i64 ka) (.int .i64 kb) (.slice Aa na ca)) => hu.sl hsr)
        clear y0 y1 y2 y3 y4 y5 y6 hcb hcb2 hb7 hb8
        go_wp2_with fail
        go_region_held3 (fun w' => w'.cell? ⟨wr.heap.size, 0, none⟩ = some (.int .i64 fa) ∧ w'.cell? ⟨wr.heap.size, 1, none⟩ = some (.bool sa) ∧ w'.cell? ⟨wr.heap.size, 2, none⟩ = some (.int .i64 ma) ∧ w'.cell? ⟨wr.heap.size, 3, none⟩ = some (.int .i64 ba) ∧ w'.cell? ⟨wr.heap.size, 4, none⟩ = some (.int .i64 ka) ∧ w'.cell? ⟨wr.heap.size, 5, none⟩ = some (.int .i64 kb) ∧ w'.cell? ⟨wr.heap.size, 6, none⟩ = some (.slice Aa na ca)) (first | exact hk8d | exact hk8 | exact hk9 | exact hk10 | go_keep)
          (first
            | (go_at_call 21; refine (D3.out _ hs8).mono ?_; rintro e w9 ⟨rfl, hb9⟩; have hcb9 := hcb3d.step hb9; have hk9 := KP.out _ hcb9; have hs9 := HS.out _ hcb9)
            | (go_at_call 22; refine (D4.out _ hs9).mono ?_; rintro e w10 ⟨rfl, hb10⟩; have hcb10 := hcb9.step hb10; have hk10 := KP.out _ hcb10)
            | (go_at_call 23; refine (D5.out _).mono ?_; rintro e w' ⟨rfl, rfl⟩)
            | (go_at_call 24; refine (D6.out _).mono ?_; rintro e w' ⟨rfl, rfl⟩))
        all_goals
          have hnx : Below W5.heap.size W5 w10 := hbr.trans (hcb10.2.mono hbr.size)
          clear hk8 hk8d hk9 hk10 hs8 hs9 hcb3 hcb3d hcb9 hcb10 hb9 hb10
          go_wp2_with fail
          exact ⟨⟨1, by omega, rfl, hnx⟩, by simp [intOf]⟩
      · have q0 : wr.cell? ⟨G, 7, none⟩ = some (.int .i64 f2) := (cell_of_row wr G 7 _ _ _ hrow).trans rfl
        have q1 : wr.cell? ⟨G, 8, none⟩ = some (.bool s2) := (cell_of_row wr G 8 _ _ _ hrow).trans rfl
        have q2 : wr.cell? ⟨G, 9, none⟩ = some (.int .i64 m2) := (cell_of_row wr G 9 _ _ _ hrow).trans rfl
        have q3 : wr.cell? ⟨G, 10, none⟩ = some (.int .i64 b2) := (cell_of_row wr G 10 _ _ _ hrow).trans rfl
        have q4 : wr.cell? ⟨G, 11, none⟩ = some (.int .i64 j1) := (cell_of_row wr G 11 _ _ _ hrow).trans rfl
        have q5 : wr.cell? ⟨G, 12, none⟩ = some (.int .i64 j2) := (cell_of_row wr G 12 _ _ _ hrow).trans rfl
        have q6 : wr.cell? ⟨G, 13, none⟩ = some (.slice A2 n2 c2) := (cell_of_row wr G 13 _ _ _ hrow).trans rfl
        have hsr := s10.step hbr
        have hcb := Cb.new wr (.int .i64 f2) (.bool s2) (.int .i64 m2) (.int .i64 b2) (.int .i64 j1) (.int .i64 j2) (.slice A2 n2 c2)
        obtain ⟨X, hX⟩ : ∃ X, X = (value ⟨f2, s2, m2, b2, j1, j2, p2⟩ r).1 := ⟨_, rfl⟩
        obtain ⟨E, hE⟩ : ∃ X, X = (value ⟨f2, s2, m2, b2, j1, j2, p2⟩ r).2 := ⟨_, rfl⟩
        obtain ⟨B, hB⟩ : ∃ X, X = C4p.vld ⟨f2, s2, m2, b2, j1, j2, p2⟩ := ⟨_, rfl⟩
        obtain ⟨N, hN⟩ : ∃ X, X = num s2 r := ⟨_, rfl⟩
        have D1 := Lib.hid (fun u hu => by have := value_p f2 m2 b2 j1 j2 s2 A2 n2 c2 p2 r u hu; rw [← hX, ← hE] at this; exact this)
        have D2 := Lib.hid (fun u hu => by have := value_r f2 m2 b2 j1 j2 s2 A2 n2 c2 p2 r u hu; rw [← hX, ← hE] at this; exact this)
        have D3 := Lib.hid (fun u hu => by have := valid_p f2 m2 b2 j1 j2 s2 A2 n2 c2 p2 u hu; rw [← hB] at this; exact this)
        have D4 := Lib.hid (fun u hu => by have := valid_r f2 m2 b2 j1 j2 s2 A2 n2 c2 p2 u hu; rw [← hB] at this; exact this)
        have D5 := Lib.hid (fun u => by have := number_p s2 r u; rw [← hN] at this; exact this)
        have D6 := Lib.hid (fun u => by have := number_r s2 r u; rw [← hN] at this; exact this)
        clear hX hE hB hN
        go_wp2_with fail
        refine (D1.out _ (hcb.sl hsr)).mono ?_
        rintro e w7 ⟨rfl, hb7⟩
        have hcb2 := hcb.step hb7
        obtain ⟨y0, y1, y2, y3, y4, y5, y6⟩ := hcb2.cells
        clear q0 q1 q2 q3 q4 q5 q6
        go_wp2_with fail
        refine (D2.out _ (hcb2.sl hsr)).mono ?_
        rintro e w8 ⟨rfl, hb8⟩
        have hcb3 := hcb2.step hb8
        have hcb3d : Cb wr w8.drew (.int .i64 f2) (.bool s2) (.int .i64 m2) (.int .i64 b2) (.int .i64 j1) (.int .i64 j2) (.slice A2 n2 c2) := ⟨hcb3.1, ⟨hcb3.2.os, hcb3.2.tape, hcb3.2.output, hcb3.2.size, hcb3.2.block⟩⟩
        have KP := Lib.hid (fun u (hu : Cb wr u (.int .i64 f2) (.bool s2) (.int .i64 m2) (.int .i64 b2) (.int .i64 j1) (.int .i64 j2) (.slice A2 n2 c2)) => hu.cells)
        have hk8 := KP.out _ hcb3
        have hk8d := KP.out _ hcb3d
        have hs8 := hcb3d.sl hsr
        have HS := Lib.hid (fun u (hu : Cb wr u (.int .i64 f2) (.bool s2) (.int .i64 m2) (.int .i64 b2) (.int .i64 j1) (.int .i64 j2) (.slice A2 n2 c2)) => hu.sl hsr)
        clear y0 y1 y2 y3 y4 y5 y6 hcb hcb2 hb7 hb8
        go_wp2_with fail
        go_region_held3 (fun w' => w'.cell? ⟨wr.heap.size, 0, none⟩ = some (.int .i64 f2) ∧ w'.cell? ⟨wr.heap.size, 1, none⟩ = some (.bool s2) ∧ w'.cell? ⟨wr.heap.size, 2, none⟩ = some (.int .i64 m2) ∧ w'.cell? ⟨wr.heap.size, 3, none⟩ = some (.int .i64 b2) ∧ w'.cell? ⟨wr.heap.size, 4, none⟩ = some (.int .i64 j1) ∧ w'.cell? ⟨wr.heap.size, 5, none⟩ = some (.int .i64 j2) ∧ w'.cell? ⟨wr.heap.size, 6, none⟩ = some (.slice A2 n2 c2)) (first | exact hk8d | exact hk8 | exact hk9 | exact hk10 | go_keep)
          (first
            | (go_at_call 21; refine (D3.out _ hs8).mono ?_; rintro e w9 ⟨rfl, hb9⟩; have hcb9 := hcb3d.step hb9; have hk9 := KP.out _ hcb9; have hs9 := HS.out _ hcb9)
            | (go_at_call 22; refine (D4.out _ hs9).mono ?_; rintro e w10 ⟨rfl, hb10⟩; have hcb10 := hcb9.step hb10; have hk10 := KP.out _ hcb10)
            | (go_at_call 23; refine (D5.out _).mono ?_; rintro e w' ⟨rfl, rfl⟩)
            | (go_at_call 24; refine (D6.out _).mono ?_; rintro e w' ⟨rfl, rfl⟩))
        all_goals
          have hnx : Below W5.heap.size W5 w10 := hbr.trans (hcb10.2.mono hbr.size)
          clear hk8 hk8d hk9 hk10 hs8 hs9 hcb3 hcb3d hcb9 hcb10 hb9 hb10
          go_wp2_with fail
          exact ⟨⟨2, by omega, rfl, hnx⟩, by simp [intOf]⟩
      · have q0 : wr.cell? ⟨G, 14, none⟩ = some (.int .i64 f) := (cell_of_row wr G 14 _ _ _ hrow).trans rfl
        have q1 : wr.cell? ⟨G, 15, none⟩ = some (.bool s) := (cell_of_row wr G 15 _ _ _ hrow).trans rfl
        have q2 : wr.cell? ⟨G, 16, none⟩ = some (.int .i64 m) := (cell_of_row wr G 16 _ _ _ hrow).trans rfl
        have q3 : wr.cell? ⟨G, 17, none⟩ = some (.int .i64 b) := (cell_of_row wr G 17 _ _ _ hrow).trans rfl
        have q4 : wr.cell? ⟨G, 18, none⟩ = some (.int .i64 k1) := (cell_of_row wr G 18 _ _ _ hrow).trans rfl
        have q5 : wr.cell? ⟨G, 19, none⟩ = some (.int .i64 k2') := (cell_of_row wr G 19 _ _ _ hrow).trans rfl
        have q6 : wr.cell? ⟨G, 20, none⟩ = some (.slice A' n' c') := (cell_of_row wr G 20 _ _ _ hrow).trans rfl
        have hsr := s20.step hbr
        have hcb := Cb.new wr (.int .i64 f) (.bool s) (.int .i64 m) (.int .i64 b) (.int .i64 k1) (.int .i64 k2') (.slice A' n' c')
        obtain ⟨X, hX⟩ : ∃ X, X = (value ⟨f, s, m, b, k1, k2', p⟩ r).1 := ⟨_, rfl⟩
        obtain ⟨E, hE⟩ : ∃ X, X = (value ⟨f, s, m, b, k1, k2', p⟩ r).2 := ⟨_, rfl⟩
        obtain ⟨B, hB⟩ : ∃ X, X = C4p.vld ⟨f, s, m, b, k1, k2', p⟩ := ⟨_, rfl⟩
        obtain ⟨N, hN⟩ : ∃ X, X = num s r := ⟨_, rfl⟩
        have D1 := Lib.hid (fun u hu => by have := value_p f m b k1 k2' s A' n' c' p r u hu; rw [← hX, ← hE] at this; exact this)
        have D2 := Lib.hid (fun u hu => by have := value_r f m b k1 k2' s A' n' c' p r u hu; rw [← hX, ← hE] at this; exact this)
        have D3 := Lib.hid (fun u hu => by have := valid_p f m b k1 k2' s A' n' c' p u hu; rw [← hB] at this; exact this)
        have D4 := Lib.hid (fun u hu => by have := valid_r f m b k1 k2' s A' n' c' p u hu; rw [← hB] at this; exact this)
        have D5 := Lib.hid (fun u => by have := number_p s r u; rw [← hN] at this; exact this)
        have D6 := Lib.hid (fun u => by have := number_r s r u; rw [← hN] at this; exact this)
        clear hX hE hB hN
        go_wp2_with fail
        refine (D1.out _ (hcb.sl hsr)).mono ?_
        rintro e w7 ⟨rfl, hb7⟩
        have hcb2 := hcb.step hb7
        obtain ⟨y0, y1, y2, y3, y4, y5, y6⟩ := hcb2.cells
        clear q0 q1 q2 q3 q4 q5 q6
        go_wp2_with fail
        refine (D2.out _ (hcb2.sl hsr)).mono ?_
        rintro e w8 ⟨rfl, hb8⟩
        have hcb3 := hcb2.step hb8
        have hcb3d : Cb wr w8.drew (.int .i64 f) (.bool s) (.int .i64 m) (.int .i64 b) (.int .i64 k1) (.int .i64 k2') (.slice A' n' c') := ⟨hcb3.1, ⟨hcb3.2.os, hcb3.2.tape, hcb3.2.output, hcb3.2.size, hcb3.2.block⟩⟩
        have KP := Lib.hid (fun u (hu : Cb wr u (.int .i64 f) (.bool s) (.int .i64 m) (.int .i64 b) (.int .i64 k1) (.int .i64 k2') (.slice A' n' c')) => hu.cells)
        have hk8 := KP.out _ hcb3
        have hk8d := KP.out _ hcb3d
        have hs8 := hcb3d.sl hsr
        have HS := Lib.hid (fun u (hu : Cb wr u (.int .i64 f) (.bool s) (.int .i64 m) (.int .i64 b) (.int .i64 k1) (.int .i64 k2') (.slice A' n' c')) => hu.sl hsr)
        clear y0 y1 y2 y3 y4 y5 y6 hcb hcb2 hb7 hb8
        go_wp2_with fail
        go_region_held3 (fun w' => w'.cell? ⟨wr.heap.size, 0, none⟩ = some (.int .i64 f) ∧ w'.cell? ⟨wr.heap.size, 1, none⟩ = some (.bool s) ∧ w'.cell? ⟨wr.heap.size, 2, none⟩ = some (.int .i64 m) ∧ w'.cell? ⟨wr.heap.size, 3, none⟩ = some (.int .i64 b) ∧ w'.cell? ⟨wr.heap.size, 4, none⟩ = some (.int .i64 k1) ∧ w'.cell? ⟨wr.heap.size, 5, none⟩ = some (.int .i64 k2') ∧ w'.cell? ⟨wr.heap.size, 6, none⟩ = some (.slice A' n' c')) (first | exact hk8d | exact hk8 | exact hk9 | exact hk10 | go_keep)
          (first
            | (go_at_call 21; refine (D3.out _ hs8).mono ?_; rintro e w9 ⟨rfl, hb9⟩; have hcb9 := hcb3d.step hb9; have hk9 := KP.out _ hcb9; have hs9 := HS.out _ hcb9)
            | (go_at_call 22; refine (D4.out _ hs9).mono ?_; rintro e w10 ⟨rfl, hb10⟩; have hcb10 := hcb9.step hb10; have hk10 := KP.out _ hcb10)
            | (go_at_call 23; refine (D5.out _).mono ?_; rintro e w' ⟨rfl, rfl⟩)
            | (go_at_call 24; refine (D6.out _).mono ?_; rintro e w' ⟨rfl, rfl⟩))
        all_goals
          have hnx : Below W5.heap.size W5 w10 := hbr.trans (hcb10.2.mono hbr.size)
          clear hk8 hk8d hk9 hk10 hs8 hs9 hcb3 hcb3d hcb9 hcb10 hb9 hb10
          go_wp2_with fail
          exact ⟨⟨3, by omega, rfl, hnx⟩, by simp [intOf]⟩
      · have hbe := Lib.hid (hbw5.trans (hbr.mono hbw5.size))
        go_wp2_with fail
        refine (haw.out _).mono ?_
        rintro e w9 ⟨rfl, hb9⟩
        go_wp2_with fail
        go_ret
        exact ⟨rfl, hbe.out.trans (hb9.mono hbe.out.size)⟩

theorem cells_u8 : Try.prog.cellsOf 5 = 1 := by kernel_rfl
theorem cells_int : Try.prog.cellsOf 3 = 1 := by kernel_rfl
theorem own : ownKnob Try.prog.godebug = none := by kernel_rfl
theorem laidOut : laidOutB Try.prog = true := by kernel_rfl
theorem contract (H : Type) (enc : TypeId × Value → H) (W : World) (base : Nat) (args : Array Value) (ds gs : List (DataW H)) (before : List MemPlace)
    (hval : ∀ (j : Nat) t v, Try.f3.params[j]? = some t → args[j]? = some v → Value.okWide Try.prog W .any base t v)
    (hW : DataW.Whole enc Try.prog Try.f3.params.toList Rows.convertValuesSpec.vars false W args.toList ds gs before) :
    Calls Try.prog 3 args W fun e W' => ∃ v, e = .returned v ∧ Rows.convertValuesSpec.post enc Try.prog Try.f3 false true false false W args v W' := by
  have hW' := hW
  obtain ⟨p, q, hA0, hV, rfl, hfz, hnd⟩ := hW
  have hA : DataW.TrodAll enc Try.prog W 0 (fun _ => true) true Try.f3.params.toList args.toList ds p := hA0
  rw [Try.params3] at hA hval
  obtain ⟨v0, vs0, d0, ds0, p0, q0, hargs, rfl, rfl, h0, r0⟩ := trodAll_cons hA
  obtain ⟨v1, vs1, d1, ds1, p1, q1, rfl, rfl, rfl, h1, r1⟩ := trodAll_cons r0
  obtain ⟨v2, vs2, d2, ds2, p2, q2, rfl, rfl, rfl, h2, r2⟩ := trodAll_cons r1
  obtain ⟨rfl, rfl, rfl⟩ := trodAll_nil r2
  obtain rfl : args = #[v0, v1, v2] := by cases args; simp_all
  obtain ⟨f0, s0, m0, b0, x0, y0, A0, n0, c0, l0, rfl, hr0, hf0, hm0, hb0, hx0, hy0⟩ := open_conv Try.underlying24 (by kernel_rfl) ⟨rfl, rfl, rfl, rfl, rfl, rfl, rfl⟩ ⟨by kernel_rfl, by kernel_rfl, by kernel_rfl, by kernel_rfl, by kernel_rfl, by kernel_rfl, by kernel_rfl⟩ Try.underlying3 Try.underlying4 Try.underlying3 Try.underlying3 Try.underlying3 Try.underlying3 Try.underlying22 Try.underlying60 (by kernel_rfl) rfl rfl (by kernel_rfl) (by kernel_rfl) Try.underlying5 Try.underlying2 (hval 0 24 v0 rfl rfl) h0
  obtain ⟨A1, n1, c1, l1, rfl, hn1, hr1, hw1, hc1, hm1, hk1⟩ := open_int_list Try.underlying25 Try.underlying3 cells_int (hval 1 25 v1 rfl rfl) h1
  obtain ⟨a2, rfl, -, -, w2⟩ := open_int Try.underlying5 (hval 2 5 v2 rfl rfl) h2
  clear hA0
  refine (walk f0 s0 m0 b0 x0 y0 A0 n0 c0 l0 hf0 hm0 hb0 hx0 hy0 A1 n1 c1 l1 hn1 hw1 hc1 hm1 hk1 a2 (bounds_u8 w2) W hr0 hr1).mono fun e W' ⟨he, hb⟩ => ?_
  subst he
  exact ⟨_, rfl, law_post laidOut (types_fit (by kernel_rfl)) (by kernel_rfl) Try.underlying4 rfl (fun xs hx => by
    match xs, hx with
    | [_, _, _], _ => rfl) hW' hb⟩

theorem lifted (os : Os) (started : os.Started) (H : Type) (enc : TypeId × Value → H) :
    ReturnsInHanded {} Try.checked os 3 .any (Rows.convertValuesSpec.pre6 enc Try.prog Try.f3 Rows.convertValuesRow.domain false) (Rows.convertValuesSpec.post enc Try.prog Try.f3 false true false false) := by
  refine returnsInHanded_of_change (C := Try.checked) own started (by kernel_rfl) Try.func3
    (ChangeSpec.witness6 (enc := enc) (C := Try.checked) false ⟨#[], #[.agg #[.int .i64 0, .bool false, .int .i64 0, .int .i64 0, .int .i64 0, .int .i64 0, .slice none 0 0], .slice none 0 0, .int .u8 0], []⟩ 8 (by kernel_rfl) (by kernel_rfl) (by kernel_rfl) (by kernel_rfl)) ?_
  intro W base args ds gs before hval hW _ _
  exact contract H enc W base args ds gs before hval hW

theorem proved : Rows.ConvertValuesSaid :=
  OpenClaim.holds_of_wide 3 Try.f3 rfl rfl rfl rfl rfl rfl rfl ⟨rfl, rfl, rfl, rfl, rfl⟩ rfl rfl rfl rfl rfl (by kernel_rfl) Try.func3 (by kernel_rfl)
    (of_decide_eq_true (by kernel_rfl)) (by unfold Func.isWrapper; first | (rw [if_pos (by decide +kernel)]; kernel_rfl) | (rw [if_neg (by decide +kernel)]; exact ⟨rfl, rfl⟩))
    (fun os started H enc _ => lifted os started H enc)
end Go.Proofs.Ytkjjjphpbkcebaa.convertValues
