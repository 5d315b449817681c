/- SensorLimits holds for every input: a linear sensor, signed or not, with all six thresholds is valid exactly if they are in their order. No condition. -/
import Derived.Test.YtigooekimkkhaaaTk
import Derived.Test.YtigooekimkkhaaaLaw10
namespace Go.Proofs.Ytigooekimkkhaaa.sensorLimits
open Go.RowKit Go.ChangeShapes Go.WideShapes Go.ChangeAt Go.Proofs.Ytigooekimkkhaaa.Mem Go.Proofs.Ytigooekimkkhaaa.F2p Go.Proofs.Ytigooekimkkhaaa.C4l Go.Proofs.Ytigooekimkkhaaa.Ta Go.Proofs.Ytigooekimkkhaaa.Tb Go.Proofs.Ytigooekimkkhaaa.Law
set_option maxRecDepth 100000
set_option maxHeartbeats 1000000

theorem has63 (i : Nat) (h : i < 6) : has 63 i = true := by
  rcases (show i = 0 ∨ i = 1 ∨ i = 2 ∨ i = 3 ∨ i = 4 ∨ i = 5 by omega) with rfl | rfl | rfl | rfl | rfl | rfl <;> decide
theorem full (sg : Bool) (r0 r1 r2 r3 r4 r5 : UInt8) : vs { noSn with nm := ⟨#[116]⟩, sm := 3, c := ⟨1, sg, 1, 0, 0, 0, []⟩, mx := 63, r0 := r0, r1 := r1, r2 := r2, r3 := r3, r4 := r4, r5 := r5 } = decide (C4p.num sg r2 ≤ C4p.num sg r1 ∧ C4p.num sg r1 ≤ C4p.num sg r0 ∧ C4p.num sg r0 < C4p.num sg r3 ∧ C4p.num sg r3 ≤ C4p.num sg r4 ∧ C4p.num sg r4 ≤ C4p.num sg r5) := by
  have e1 : okn (bl ⟨#[116]⟩) = true := by decide +kernel
  have e2 : C4p.vld ⟨1, sg, 1, 0, 0, 0, []⟩ = true := by cases sg <;> decide +kernel
  have e3 : inm 0 63 = true := by decide +kernel
  have e4 : zer 63 [r0, r1, r2, r3, r4, r5] = true := by
    unfold zer
    simp only [List.all_eq_true, List.mem_range]
    intro i hi
    rw [has63 i hi, Bool.true_or]
  have e5 : ordd sg 63 [r0, r1, r2, r3, r4, r5] = decide (C4p.num sg r2 ≤ C4p.num sg r1 ∧ C4p.num sg r1 ≤ C4p.num sg r0 ∧ C4p.num sg r0 < C4p.num sg r3 ∧ C4p.num sg r3 ≤ C4p.num sg r4 ∧ C4p.num sg r4 ≤ C4p.num sg r5) := by
    rw [Bool.eq_iff_iff, decide_eq_true_eq]
    unfold ordd
    simp only [show List.range 6 = [0, 1, 2, 3, 4, 5] from rfl, show List.range 5 = [0, 1, 2, 3, 4] from rfl, show List.range 4 = [0, 1, 2, 3] from rfl, show List.range 3 = [0, 1, 2] from rfl, show List.range 2 = [0, 1] from rfl, show List.range 1 = [0] from rfl, show List.range 0 = [] from rfl, List.all_cons, List.all_nil, pair, has63 _ (show 0 < 6 by decide), has63 _ (show 1 < 6 by decide), has63 _ (show 2 < 6 by decide), has63 _ (show 3 < 6 by decide), has63 _ (show 4 < 6 by decide), has63 _ (show 5 < 6 by decide)]
    simp [fol]
    omega
  show (okn (bl ⟨#[116]⟩) && (decide ((3 : Int) = 1 ∨ (3 : Int) = 3 ∨ (3 : Int) = 5) && (C4p.vld ⟨1, sg, 1, 0, 0, 0, []⟩ && ((decide (63 ≤ 63) && (zer 63 [r0, r1, r2, r3, r4, r5] && ordd sg 63 [r0, r1, r2, r3, r4, r5])) && (decide (0 = 0) && (inm 0 63 && inm 0 63)))))) = _
  rw [e1, e2]
  rw [e3, e4, e5]
  simp
theorem lt_of_some {w : World} {b : Nat} {o : Obj} (h : w.heap[b]? = some o) : b < w.heap.size := by
  rcases Nat.lt_or_ge b w.heap.size with h1 | h1
  · exact h1
  · rw [Array.getElem?_eq_none h1] at h; cases h
theorem walk (r0 r1 r2 r3 r4 r5 : UInt8) (sg : Bool) (w : World) :
    Calls Try.prog 7 #[.agg #[.int .u8 (r0.toNat : Int), .int .u8 (r1.toNat : Int), .int .u8 (r2.toNat : Int), .int .u8 (r3.toNat : Int), .int .u8 (r4.toNat : Int), .int .u8 (r5.toNat : Int)], .bool sg] w fun e w' => e = .returned (.bool true) ∧ Below w.heap.size w w' := by
  have haw := Lib.hid fun (u : World) => awake_any u
  obtain ⟨R, hR⟩ : ∃ R, R = decide (C4p.num sg r2 ≤ C4p.num sg r1 ∧ C4p.num sg r1 ≤ C4p.num sg r0 ∧ C4p.num sg r0 < C4p.num sg r3 ∧ C4p.num sg r3 ≤ C4p.num sg r4 ∧ C4p.num sg r4 ≤ C4p.num sg r5) := ⟨_, rfl⟩
  have HV := Lib.hid fun (u : World) => by have := valid_p { noSn with nm := ⟨#[116]⟩, sm := 3, c := ⟨1, sg, 1, 0, 0, 0, []⟩, mx := 63, r0 := r0, r1 := r1, r2 := r2, r3 := r3, r4 := r4, r5 := r5 } none 0 0 u PSl.none (show (1 : Nat) ≤ maxLen by unfold maxLen; omega); rw [full, ← hR] at this; exact this
  have HR := Lib.hid hR
  clear hR
  have hb0 : Below w.heap.size w (w.alloc (.cells #[.int .u8 (r0.toNat : Int), .int .u8 (r1.toNat : Int), .int .u8 (r2.toNat : Int), .int .u8 (r3.toNat : Int), .int .u8 (r4.toNat : Int), .int .u8 (r5.toNat : Int)] 27)) := (Below.refl _ _).alloc (Nat.le_refl _) _
  have ha0 : (w.alloc (.cells #[.int .u8 (r0.toNat : Int), .int .u8 (r1.toNat : Int), .int .u8 (r2.toNat : Int), .int .u8 (r3.toNat : Int), .int .u8 (r4.toNat : Int), .int .u8 (r5.toNat : Int)] 27)).heap[w.heap.size]? = some (.cells #[.int .u8 (r0.toNat : Int), .int .u8 (r1.toNat : Int), .int .u8 (r2.toNat : Int), .int .u8 (r3.toNat : Int), .int .u8 (r4.toNat : Int), .int .u8 (r5.toNat : Int)] 27 (0, 0)) := heap_alloc_new w _
  have hx1 := Bx.zero (w.alloc (.cells #[.int .u8 (r0.toNat : Int), .int .u8 (r1.toNat : Int), .int .u8 (r2.toNat : Int), .int .u8 (r3.toNat : Int), .int .u8 (r4.toNat : Int), .int .u8 (r5.toNat : Int)] 27))
  rw [World.size_alloc] at hx1
  have hb1 := hb0.alloc hb0.size (.cells #[.int .u8 0, .int .u8 0, .int .u8 0, .string ⟨#[]⟩, .int .u8 0, .int .u8 0, .bool false, .int .i64 0, .bool false, .int .i64 0, .int .i64 0, .int .i64 0, .int .i64 0, .slice none 0 0, .int .u8 0, .int .u8 0, .int .u8 0, .int .u8 0, .int .u8 0, .int .u8 0, .int .u8 0, .int .u8 0, .int .u8 0, .int .u16 0, .int .u16 0, .int .u16 0, .bool false, .int .i64 0] 32)
  go_enter Try.func7, Try.ntmps7
  go_wp2_with (refine wpList_store_bx rfl (.tmp 5) (.tmp 13) rfl (w.heap.size + 1) { noSn with nm := ⟨#[116]⟩, sm := 3, c := ⟨1, sg, 1, 0, 0, 0, []⟩, mx := 63, r0 := r0, r1 := r1, r2 := r2, r3 := r3, r4 := r4, r5 := r5 } noSn (.slice none 0 0) (.slice none 0 0) rfl rfl rfl hx1 ?_; intro w2 hx2 hg2; refine Hid.out ?_)
  refine Lib.hid ?_
  have ha2 : w2.heap[w.heap.size]? = some (.cells #[.int .u8 (r0.toNat : Int), .int .u8 (r1.toNat : Int), .int .u8 (r2.toNat : Int), .int .u8 (r3.toNat : Int), .int .u8 (r4.toNat : Int), .int .u8 (r5.toNat : Int)] 27 (0, 0)) := (hg2.block w.heap.size (by simp; omega) (by simp)).trans ((heap_alloc_old _ _ (by simp)).trans ha0)
  have hb2 : Below w.heap.size w w2 := hb1.grown hg2 hb1.size (fun k hk => by injection hk; omega)
  have hz2 : w.heap.size + 1 < w2.heap.size := hx2.lt
  clear hx1 hg2 hb1 hb0 ha0
  have hb3 := hb2.alloc hb2.size (.cells #[.int .i64 0, .int .i64 0, .int .i64 0, .int .i64 0, .int .i64 0, .int .i64 0] 61)
  have hn3 : (w2.alloc (.cells #[.int .i64 0, .int .i64 0, .int .i64 0, .int .i64 0, .int .i64 0, .int .i64 0] 61)).heap[w2.heap.size]? = some (.cells #[.int .i64 0, .int .i64 0, .int .i64 0, .int .i64 0, .int .i64 0, .int .i64 0] 61 (0, 0)) := heap_alloc_new w2 _
  have hx3 : Bx (w2.alloc (.cells #[.int .i64 0, .int .i64 0, .int .i64 0, .int .i64 0, .int .i64 0, .int .i64 0] 61)) (w.heap.size + 1) _ _ := hx2.alloc _
  have ha3 := (heap_alloc_old w2 (.cells #[.int .i64 0, .int .i64 0, .int .i64 0, .int .i64 0, .int .i64 0, .int .i64 0] 61) (show w.heap.size < w2.heap.size by omega)).trans ha2
  clear ha2 hb2 hx2
  go_wp2_with fail
  generalize w2.alloc (.cells #[.int .i64 0, .int .i64 0, .int .i64 0, .int .i64 0, .int .i64 0, .int .i64 0] 61) = w3 at *
  generalize hg : w2.heap.size = g at *
  have HG := Lib.hid hg
  clear hg
  have hgn : w.heap.size < g ∧ w.heap.size + 1 < g := by omega
  clear hz2
  go_loopw [7] (fun v wr => ∃ j : Nat, j ≤ 6 ∧ v = .int .i64 (j : Int) ∧ ∃ a0 a1 a2 a3 a4 a5 : Int, wr.heap[g]? = some (.cells #[.int .i64 a0, .int .i64 a1, .int .i64 a2, .int .i64 a3, .int .i64 a4, .int .i64 a5] 61 (0, 0)) ∧ wr.heap[w.heap.size]? = some (.cells #[.int .u8 (r0.toNat : Int), .int .u8 (r1.toNat : Int), .int .u8 (r2.toNat : Int), .int .u8 (r3.toNat : Int), .int .u8 (r4.toNat : Int), .int .u8 (r5.toNat : Int)] 27 (0, 0)) ∧ Bx wr (w.heap.size + 1) { noSn with nm := ⟨#[116]⟩, sm := 3, c := ⟨1, sg, 1, 0, 0, 0, []⟩, mx := 63, r0 := r0, r1 := r1, r2 := r2, r3 := r3, r4 := r4, r5 := r5 } (.slice none 0 0) ∧ Below w.heap.size w wr ∧ ((0 < j → a0 = C4p.num sg r0) ∧ (1 < j → a1 = C4p.num sg r1) ∧ (2 < j → a2 = C4p.num sg r2) ∧ (3 < j → a3 = C4p.num sg r3) ∧ (4 < j → a4 = C4p.num sg r4) ∧ (5 < j → a5 = C4p.num sg r5))) (fun v _ => 6 - (intOf v).toNat)
  case atStart => exact ⟨0, by omega, rfl, 0, 0, 0, 0, 0, 0, hn3, ha3, hx3, hb3, by simp⟩
  case round =>
    clear hn3 ha3 hx3 hb3
    obtain ⟨j, hj, rfl, a0, a1, a2, a3, a4, a5, hblk, harr, hbx, hbel, h0, h1, h2, h3, h4, h5⟩ := hrel
    have H0 := Lib.hid h0; have H1 := Lib.hid h1; have H2 := Lib.hid h2; have H3 := Lib.hid h3; have H4 := Lib.hid h4; have H5 := Lib.hid h5
    clear h0 h1 h2 h3 h4 h5
    rcases (show j = 0 ∨ j = 1 ∨ j = 2 ∨ j = 3 ∨ j = 4 ∨ j = 5 ∨ j = 6 by omega) with rfl | rfl | rfl | rfl | rfl | rfl | rfl
    · have hlt := r0.toNat_lt
      have cr : wr.cell? ⟨w.heap.size, 0, none⟩ = some (.int .u8 (r0.toNat : Int)) := cell_of_row wr _ 0 _ _ _ harr
      have cg : wr.cell? ⟨g, 0, none⟩ = some (.int .i64 a0) := cell_of_row wr g 0 _ _ _ hblk
      have cf : wr.frozen? ⟨g, 0, none⟩ = false := frozen_of_row wr g 0 _ _ hblk
      have hne : (⟨g, 0, none⟩ : Addr) ≠ ⟨w.heap.size, 0, none⟩ := fun e => by injection e with e; omega
      have G1 := set_grown wr g 0 (.int .i64 (r0.toNat : Int))
      have B1 := heap_setCell_same wr g 0 _ _ (.int .i64 (r0.toNat : Int)) hblk
      have b1g : Below w.heap.size w (wr.setCell ⟨g, 0, none⟩ (.int .i64 (r0.toNat : Int))) := hbel.setCell (p := ⟨g, 0, none⟩) (by show w.heap.size ≤ g; omega) _
      have x1g : Bx (wr.setCell ⟨g, 0, none⟩ (.int .i64 (r0.toNat : Int))) (w.heap.size + 1) _ _ := (G1.block _ hbx.lt (fun e => by injection e; omega)).trans hbx
      have y1g := (G1.block w.heap.size (lt_of_some harr) (fun e => by injection e; omega)).trans harr
      have G2 := set_grown (wr.setCell ⟨g, 0, none⟩ (.int .i64 (r0.toNat : Int))) g 0 (.int .i64 ((r0.toNat : Int) - 256))
      have B2 := heap_setCell_same (wr.setCell ⟨g, 0, none⟩ (.int .i64 (r0.toNat : Int))) g 0 _ _ (.int .i64 ((r0.toNat : Int) - 256)) B1
      have b2g : Below w.heap.size w ((wr.setCell ⟨g, 0, none⟩ (.int .i64 (r0.toNat : Int))).setCell ⟨g, 0, none⟩ (.int .i64 ((r0.toNat : Int) - 256))) := b1g.setCell (p := ⟨g, 0, none⟩) (by show w.heap.size ≤ g; omega) _
      have x2g : Bx ((wr.setCell ⟨g, 0, none⟩ (.int .i64 (r0.toNat : Int))).setCell ⟨g, 0, none⟩ (.int .i64 ((r0.toNat : Int) - 256))) (w.heap.size + 1) _ _ := (G2.block _ x1g.lt (fun e => by injection e; omega)).trans x1g
      have y2g := (G2.block w.heap.size (lt_of_some y1g) (fun e => by injection e; omega)).trans y1g
      have P1 := Lib.hid (And.intro B1 (And.intro y1g (And.intro x1g b1g)))
      have P2 := Lib.hid (And.intro B2 (And.intro y2g (And.intro x2g b2g)))
      clear G1 B1 b1g x1g y1g G2 B2 b2g x2g y2g hbx hbel hblk harr
      cases sg
      · have HN : Hid ((r0.toNat : Int) = C4p.num false r0) := Lib.hid (by unfold C4p.num; rw [if_neg (by simp)])
        go_wp2_with fail
        exact ⟨⟨1, by omega, by go_num, (r0.toNat : Int), a1, a2, a3, a4, a5, P1.out.1, P1.out.2.1, P1.out.2.2.1, P1.out.2.2.2, ⟨fun _ => HN.out, fun h => absurd h (by omega), fun h => absurd h (by omega), fun h => absurd h (by omega), fun h => absurd h (by omega), fun h => absurd h (by omega)⟩⟩, by simp [intOf]⟩
      · by_cases h128 : 128 ≤ r0.toNat
        · have HN : Hid ((r0.toNat : Int) - 256 = C4p.num true r0) := Lib.hid (by unfold C4p.num; rw [if_pos ⟨rfl, h128⟩])
          have h127 : 127 < (r0.toNat : Int) := by omega
          go_wp2_with fail
          exact ⟨⟨1, by omega, by go_num, (r0.toNat : Int) - 256, a1, a2, a3, a4, a5, P2.out.1, P2.out.2.1, P2.out.2.2.1, P2.out.2.2.2, ⟨fun _ => HN.out, fun h => absurd h (by omega), fun h => absurd h (by omega), fun h => absurd h (by omega), fun h => absurd h (by omega), fun h => absurd h (by omega)⟩⟩, by simp [intOf]⟩
        · have HN : Hid ((r0.toNat : Int) = C4p.num true r0) := Lib.hid (by unfold C4p.num; rw [if_neg (fun h => h128 h.2)])
          have h127 : ¬ 127 < (r0.toNat : Int) := by omega
          go_wp2_with fail
          exact ⟨⟨1, by omega, by go_num, (r0.toNat : Int), a1, a2, a3, a4, a5, P1.out.1, P1.out.2.1, P1.out.2.2.1, P1.out.2.2.2, ⟨fun _ => HN.out, fun h => absurd h (by omega), fun h => absurd h (by omega), fun h => absurd h (by omega), fun h => absurd h (by omega), fun h => absurd h (by omega)⟩⟩, by simp [intOf]⟩
    · have hlt := r1.toNat_lt
      have cr : wr.cell? ⟨w.heap.size, 1, none⟩ = some (.int .u8 (r1.toNat : Int)) := cell_of_row wr _ 1 _ _ _ harr
      have cg : wr.cell? ⟨g, 1, none⟩ = some (.int .i64 a1) := cell_of_row wr g 1 _ _ _ hblk
      have cf : wr.frozen? ⟨g, 1, none⟩ = false := frozen_of_row wr g 1 _ _ hblk
      have hne : (⟨g, 1, none⟩ : Addr) ≠ ⟨w.heap.size, 1, none⟩ := fun e => by injection e with e; omega
      have G1 := set_grown wr g 1 (.int .i64 (r1.toNat : Int))
      have B1 := heap_setCell_same wr g 1 _ _ (.int .i64 (r1.toNat : Int)) hblk
      have b1g : Below w.heap.size w (wr.setCell ⟨g, 1, none⟩ (.int .i64 (r1.toNat : Int))) := hbel.setCell (p := ⟨g, 1, none⟩) (by show w.heap.size ≤ g; omega) _
      have x1g : Bx (wr.setCell ⟨g, 1, none⟩ (.int .i64 (r1.toNat : Int))) (w.heap.size + 1) _ _ := (G1.block _ hbx.lt (fun e => by injection e; omega)).trans hbx
      have y1g := (G1.block w.heap.size (lt_of_some harr) (fun e => by injection e; omega)).trans harr
      have G2 := set_grown (wr.setCell ⟨g, 1, none⟩ (.int .i64 (r1.toNat : Int))) g 1 (.int .i64 ((r1.toNat : Int) - 256))
      have B2 := heap_setCell_same (wr.setCell ⟨g, 1, none⟩ (.int .i64 (r1.toNat : Int))) g 1 _ _ (.int .i64 ((r1.toNat : Int) - 256)) B1
      have b2g : Below w.heap.size w ((wr.setCell ⟨g, 1, none⟩ (.int .i64 (r1.toNat : Int))).setCell ⟨g, 1, none⟩ (.int .i64 ((r1.toNat : Int) - 256))) := b1g.setCell (p := ⟨g, 1, none⟩) (by show w.heap.size ≤ g; omega) _
      have x2g : Bx ((wr.setCell ⟨g, 1, none⟩ (.int .i64 (r1.toNat : Int))).setCell ⟨g, 1, none⟩ (.int .i64 ((r1.toNat : Int) - 256))) (w.heap.size + 1) _ _ := (G2.block _ x1g.lt (fun e => by injection e; omega)).trans x1g
      have y2g := (G2.block w.heap.size (lt_of_some y1g) (fun e => by injection e; omega)).trans y1g
      have P1 := Lib.hid (And.intro B1 (And.intro y1g (And.intro x1g b1g)))
      have P2 := Lib.hid (And.intro B2 (And.intro y2g (And.intro x2g b2g)))
      clear G1 B1 b1g x1g y1g G2 B2 b2g x2g y2g hbx hbel hblk harr
      cases sg
      · have HN : Hid ((r1.toNat : Int) = C4p.num false r1) := Lib.hid (by unfold C4p.num; rw [if_neg (by simp)])
        go_wp2_with fail
        exact ⟨⟨2, by omega, by go_num, a0, (r1.toNat : Int), a2, a3, a4, a5, P1.out.1, P1.out.2.1, P1.out.2.2.1, P1.out.2.2.2, ⟨fun _ => H0.out (by omega), fun _ => HN.out, fun h => absurd h (by omega), fun h => absurd h (by omega), fun h => absurd h (by omega), fun h => absurd h (by omega)⟩⟩, by simp [intOf]⟩
      · by_cases h128 : 128 ≤ r1.toNat
        · have HN : Hid ((r1.toNat : Int) - 256 = C4p.num true r1) := Lib.hid (by unfold C4p.num; rw [if_pos ⟨rfl, h128⟩])
          have h127 : 127 < (r1.toNat : Int) := by omega
          go_wp2_with fail
          exact ⟨⟨2, by omega, by go_num, a0, (r1.toNat : Int) - 256, a2, a3, a4, a5, P2.out.1, P2.out.2.1, P2.out.2.2.1, P2.out.2.2.2, ⟨fun _ => H0.out (by omega), fun _ => HN.out, fun h => absurd h (by omega), fun h => absurd h (by omega), fun h => absurd h (by omega), fun h => absurd h (by omega)⟩⟩, by simp [intOf]⟩
        · have HN : Hid ((r1.toNat : Int) = C4p.num true r1) := Lib.hid (by unfold C4p.num; rw [if_neg (fun h => h128 h.2)])
          have h127 : ¬ 127 < (r1.toNat : Int) := by omega
          go_wp2_with fail
          exact ⟨⟨2, by omega, by go_num, a0, (r1.toNat : Int), a2, a3, a4, a5, P1.out.1, P1.out.2.1, P1.out.2.2.1, P1.out.2.2.2, ⟨fun _ => H0.out (by omega), fun _ => HN.out, fun h => absurd h (by omega), fun h => absurd h (by omega), fun h => absurd h (by omega), fun h => absurd h (by omega)⟩⟩, by simp [intOf]⟩
    · have hlt := r2.toNat_lt
      have cr : wr.cell? ⟨w.heap.size, 2, none⟩ = some (.int .u8 (r2.toNat : Int)) := cell_of_row wr _ 2 _ _ _ harr
      have cg : wr.cell? ⟨g, 2, none⟩ = some (.int .i64 a2) := cell_of_row wr g 2 _ _ _ hblk
      have cf : wr.frozen? ⟨g, 2, none⟩ = false := frozen_of_row wr g 2 _ _ hblk
      have hne : (⟨g, 2, none⟩ : Addr) ≠ ⟨w.heap.size, 2, none⟩ := fun e => by injection e with e; omega
      have G1 := set_grown wr g 2 (.int .i64 (r2.toNat : Int))
      have B1 := heap_setCell_same wr g 2 _ _ (.int .i64 (r2.toNat : Int)) hblk
      have b1g : Below w.heap.size w (wr.setCell ⟨g, 2, none⟩ (.int .i64 (r2.toNat : Int))) := hbel.setCell (p := ⟨g, 2, none⟩) (by show w.heap.size ≤ g; omega) _
      have x1g : Bx (wr.setCell ⟨g, 2, none⟩ (.int .i64 (r2.toNat : Int))) (w.heap.size + 1) _ _ := (G1.block _ hbx.lt (fun e => by injection e; omega)).trans hbx
      have y1g := (G1.block w.heap.size (lt_of_some harr) (fun e => by injection e; omega)).trans harr
      have G2 := set_grown (wr.setCell ⟨g, 2, none⟩ (.int .i64 (r2.toNat : Int))) g 2 (.int .i64 ((r2.toNat : Int) - 256))
      have B2 := heap_setCell_same (wr.setCell ⟨g, 2, none⟩ (.int .i64 (r2.toNat : Int))) g 2 _ _ (.int .i64 ((r2.toNat : Int) - 256)) B1
      have b2g : Below w.heap.size w ((wr.setCell ⟨g, 2, none⟩ (.int .i64 (r2.toNat : Int))).setCell ⟨g, 2, none⟩ (.int .i64 ((r2.toNat : Int) - 256))) := b1g.setCell (p := ⟨g, 2, none⟩) (by show w.heap.size ≤ g; omega) _
      have x2g : Bx ((wr.setCell ⟨g, 2, none⟩ (.int .i64 (r2.toNat : Int))).setCell ⟨g, 2, none⟩ (.int .i64 ((r2.toNat : Int) - 256))) (w.heap.size + 1) _ _ := (G2.block _ x1g.lt (fun e => by injection e; omega)).trans x1g
      have y2g := (G2.block w.heap.size (lt_of_some y1g) (fun e => by injection e; omega)).trans y1g
      have P1 := Lib.hid (And.intro B1 (And.intro y1g (And.intro x1g b1g)))
      have P2 := Lib.hid (And.intro B2 (And.intro y2g (And.intro x2g b2g)))
      clear G1 B1 b1g x1g y1g G2 B2 b2g x2g y2g hbx hbel hblk harr
      cases sg
      · have HN : Hid ((r2.toNat : Int) = C4p.num false r2) := Lib.hid (by unfold C4p.num; rw [if_neg (by simp)])
        go_wp2_with fail
        exact ⟨⟨3, by omega, by go_num, a0, a1, (r2.toNat : Int), a3, a4, a5, P1.out.1, P1.out.2.1, P1.out.2.2.1, P1.out.2.2.2, ⟨fun _ => H0.out (by omega), fun _ => H1.out (by omega), fun _ => HN.out, fun h => absurd h (by omega), fun h => absurd h (by omega), fun h => absurd h (by omega)⟩⟩, by simp [intOf]⟩
      · by_cases h128 : 128 ≤ r2.toNat
        · have HN : Hid ((r2.toNat : Int) - 256 = C4p.num true r2) := Lib.hid (by unfold C4p.num; rw [if_pos ⟨rfl, h128⟩])
          have h127 : 127 < (r2.toNat : Int) := by omega
          go_wp2_with fail
          exact ⟨⟨3, by omega, by go_num, a0, a1, (r2.toNat : Int) - 256, a3, a4, a5, P2.out.1, P2.out.2.1, P2.out.2.2.1, P2.out.2.2.2, ⟨fun _ => H0.out (by omega), fun _ => H1.out (by omega), fun _ => HN.out, fun h => absurd h (by omega), fun h => absurd h (by omega), fun h => absurd h (by omega)⟩⟩, by simp [intOf]⟩
        · have HN : Hid ((r2.toNat : Int) = C4p.num true r2) := Lib.hid (by unfold C4p.num; rw [if_neg (fun h => h128 h.2)])
          have h127 : ¬ 127 < (r2.toNat : Int) := by omega
          go_wp2_with fail
          exact ⟨⟨3, by omega, by go_num, a0, a1, (r2.toNat : Int), a3, a4, a5, P1.out.1, P1.out.2.1, P1.out.2.2.1, P1.out.2.2.2, ⟨fun _ => H0.out (by omega), fun _ => H1.out (by omega), fun _ => HN.out, fun h => absurd h (by omega), fun h => absurd h (by omega), fun h => absurd h (by omega)⟩⟩, by simp [intOf]⟩
    · have hlt := r3.toNat_lt
      have cr : wr.cell? ⟨w.heap.size, 3, none⟩ = some (.int .u8 (r3.toNat : Int)) := cell_of_row wr _ 3 _ _ _ harr
      have cg : wr.cell? ⟨g, 3, none⟩ = some (.int .i64 a3) := cell_of_row wr g 3 _ _ _ hblk
      have cf : wr.frozen? ⟨g, 3, none⟩ = false := frozen_of_row wr g 3 _ _ hblk
      have hne : (⟨g, 3, none⟩ : Addr) ≠ ⟨w.heap.size, 3, none⟩ := fun e => by injection e with e; omega
      have G1 := set_grown wr g 3 (.int .i64 (r3.toNat : Int))
      have B1 := heap_setCell_same wr g 3 _ _ (.int .i64 (r3.toNat : Int)) hblk
      have b1g : Below w.heap.size w (wr.setCell ⟨g, 3, none⟩ (.int .i64 (r3.toNat : Int))) := hbel.setCell (p := ⟨g, 3, none⟩) (by show w.heap.size ≤ g; omega) _
      have x1g : Bx (wr.setCell ⟨g, 3, none⟩ (.int .i64 (r3.toNat : Int))) (w.heap.size + 1) _ _ := (G1.block _ hbx.lt (fun e => by injection e; omega)).trans hbx
      have y1g := (G1.block w.heap.size (lt_of_some harr) (fun e => by injection e; omega)).trans harr
      have G2 := set_grown (wr.setCell ⟨g, 3, none⟩ (.int .i64 (r3.toNat : Int))) g 3 (.int .i64 ((r3.toNat : Int) - 256))
      have B2 := heap_setCell_same (wr.setCell ⟨g, 3, none⟩ (.int .i64 (r3.toNat : Int))) g 3 _ _ (.int .i64 ((r3.toNat : Int) - 256)) B1
      have b2g : Below w.heap.size w ((wr.setCell ⟨g, 3, none⟩ (.int .i64 (r3.toNat : Int))).setCell ⟨g, 3, none⟩ (.int .i64 ((r3.toNat : Int) - 256))) := b1g.setCell (p := ⟨g, 3, none⟩) (by show w.heap.size ≤ g; omega) _
      have x2g : Bx ((wr.setCell ⟨g, 3, none⟩ (.int .i64 (r3.toNat : Int))).setCell ⟨g, 3, none⟩ (.int .i64 ((r3.toNat : Int) - 256))) (w.heap.size + 1) _ _ := (G2.block _ x1g.lt (fun e => by injection e; omega)).trans x1g
      have y2g := (G2.block w.heap.size (lt_of_some y1g) (fun e => by injection e; omega)).trans y1g
      have P1 := Lib.hid (And.intro B1 (And.intro y1g (And.intro x1g b1g)))
      have P2 := Lib.hid (And.intro B2 (And.intro y2g (And.intro x2g b2g)))
      clear G1 B1 b1g x1g y1g G2 B2 b2g x2g y2g hbx hbel hblk harr
      cases sg
      · have HN : Hid ((r3.toNat : Int) = C4p.num false r3) := Lib.hid (by unfold C4p.num; rw [if_neg (by simp)])
        go_wp2_with fail
        exact ⟨⟨4, by omega, by go_num, a0, a1, a2, (r3.toNat : Int), a4, a5, P1.out.1, P1.out.2.1, P1.out.2.2.1, P1.out.2.2.2, ⟨fun _ => H0.out (by omega), fun _ => H1.out (by omega), fun _ => H2.out (by omega), fun _ => HN.out, fun h => absurd h (by omega), fun h => absurd h (by omega)⟩⟩, by simp [intOf]⟩
      · by_cases h128 : 128 ≤ r3.toNat
        · have HN : Hid ((r3.toNat : Int) - 256 = C4p.num true r3) := Lib.hid (by unfold C4p.num; rw [if_pos ⟨rfl, h128⟩])
          have h127 : 127 < (r3.toNat : Int) := by omega
          go_wp2_with fail
          exact ⟨⟨4, by omega, by go_num, a0, a1, a2, (r3.toNat : Int) - 256, a4, a5, P2.out.1, P2.out.2.1, P2.out.2.2.1, P2.out.2.2.2, ⟨fun _ => H0.out (by omega), fun _ => H1.out (by omega), fun _ => H2.out (by omega), fun _ => HN.out, fun h => absurd h (by omega), fun h => absurd h (by omega)⟩⟩, by simp [intOf]⟩
        · have HN : Hid ((r3.toNat : Int) = C4p.num true r3) := Lib.hid (by unfold C4p.num; rw [if_neg (fun h => h128 h.2)])
          have h127 : ¬ 127 < (r3.toNat : Int) := by omega
          go_wp2_with fail
          exact ⟨⟨4, by omega, by go_num, a0, a1, a2, (r3.toNat : Int), a4, a5, P1.out.1, P1.out.2.1, P1.out.2.2.1, P1.out.2.2.2, ⟨fun _ => H0.out (by omega), fun _ => H1.out (by omega), fun _ => H2.out (by omega), fun _ => HN.out, fun h => absurd h (by omega), fun h => absurd h (by omega)⟩⟩, by simp [intOf]⟩
    · have hlt := r4.toNat_lt
      have cr : wr.cell? ⟨w.heap.size, 4, none⟩ = some (.int .u8 (r4.toNat : Int)) := cell_of_row wr _ 4 _ _ _ harr
      have cg : wr.cell? ⟨g, 4, none⟩ = some (.int .i64 a4) := cell_of_row wr g 4 _ _ _ hblk
      have cf : wr.frozen? ⟨g, 4, none⟩ = false := frozen_of_row wr g 4 _ _ hblk
      have hne : (⟨g, 4, none⟩ : Addr) ≠ ⟨w.heap.size, 4, none⟩ := fun e => by injection e with e; omega
      have G1 := set_grown wr g 4 (.int .i64 (r4.toNat : Int))
      have B1 := heap_setCell_same wr g 4 _ _ (.int .i64 (r4.toNat : Int)) hblk
      have b1g : Below w.heap.size w (wr.setCell ⟨g, 4, none⟩ (.int .i64 (r4.toNat : Int))) := hbel.setCell (p := ⟨g, 4, none⟩) (by show w.heap.size ≤ g; omega) _
      have x1g : Bx (wr.setCell ⟨g, 4, none⟩ (.int .i64 (r4.toNat : Int))) (w.heap.size + 1) _ _ := (G1.block _ hbx.lt (fun e => by injection e; omega)).trans hbx
      have y1g := (G1.block w.heap.size (lt_of_some harr) (fun e => by injection e; omega)).trans harr
      have G2 := set_grown (wr.setCell ⟨g, 4, none⟩ (.int .i64 (r4.toNat : Int))) g 4 (.int .i64 ((r4.toNat : Int) - 256))
      have B2 := heap_setCell_same (wr.setCell ⟨g, 4, none⟩ (.int .i64 (r4.toNat : Int))) g 4 _ _ (.int .i64 ((r4.toNat : Int) - 256)) B1
      have b2g : Below w.heap.size w ((wr.setCell ⟨g, 4, none⟩ (.int .i64 (r4.toNat : Int))).setCell ⟨g, 4, none⟩ (.int .i64 ((r4.toNat : Int) - 256))) := b1g.setCell (p := ⟨g, 4, none⟩) (by show w.heap.size ≤ g; omega) _
      have x2g : Bx ((wr.setCell ⟨g, 4, none⟩ (.int .i64 (r4.toNat : Int))).setCell ⟨g, 4, none⟩ (.int .i64 ((r4.toNat : Int) - 256))) (w.heap.size + 1) _ _ := (G2.block _ x1g.lt (fun e => by injection e; omega)).trans x1g
      have y2g := (G2.block w.heap.size (lt_of_some y1g) (fun e => by injection e; omega)).trans y1g
      have P1 := Lib.hid (And.intro B1 (And.intro y1g (And.intro x1g b1g)))
      have P2 := Lib.hid (And.intro B2 (And.intro y2g (And.intro x2g b2g)))
      clear G1 B1 b1g x1g y1g G2 B2 b2g x2g y2g hbx hbel hblk harr
      cases sg
      · have HN : Hid ((r4.toNat : Int) = C4p.num false r4) := Lib.hid (by unfold C4p.num; rw [if_neg (by simp)])
        go_wp2_with fail
        exact ⟨⟨5, by omega, by go_num, a0, a1, a2, a3, (r4.toNat : Int), a5, P1.out.1, P1.out.2.1, P1.out.2.2.1, P1.out.2.2.2, ⟨fun _ => H0.out (by omega), fun _ => H1.out (by omega), fun _ => H2.out (by omega), fun _ => H3.out (by omega), fun _ => HN.out, fun h => absurd h (by omega)⟩⟩, by simp [intOf]⟩
      · by_cases h128 : 128 ≤ r4.toNat
        · have HN : Hid ((r4.toNat : Int) - 256 = C4p.num true r4) := Lib.hid (by unfold C4p.num; rw [if_pos ⟨rfl, h128⟩])
          have h127 : 127 < (r4.toNat : Int) := by omega
          go_wp2_with fail
          exact ⟨⟨5, by omega, by go_num, a0, a1, a2, a3, (r4.toNat : Int) - 256, a5, P2.out.1, P2.out.2.1, P2.out.2.2.1, P2.out.2.2.2, ⟨fun _ => H0.out (by omega), fun _ => H1.out (by omega), fun _ => H2.out (by omega), fun _ => H3.out (by omega), fun _ => HN.out, fun h => absurd h (by omega)⟩⟩, by simp [intOf]⟩
        · have HN : Hid ((r4.toNat : Int) = C4p.num true r4) := Lib.hid (by unfold C4p.num; rw [if_neg (fun h => h128 h.2)])
          have h127 : ¬ 127 < (r4.toNat : Int) := by omega
          go_wp2_with fail
          exact ⟨⟨5, by omega, by go_num, a0, a1, a2, a3, (r4.toNat : Int), a5, P1.out.1, P1.out.2.1, P1.out.2.2.1, P1.out.2.2.2, ⟨fun _ => H0.out (by omega), fun _ => H1.out (by omega), fun _ => H2.out (by omega), fun _ => H3.out (by omega), fun _ => HN.out, fun h => absurd h (by omega)⟩⟩, by simp [intOf]⟩
    · have hlt := r5.toNat_lt
      have cr : wr.cell? ⟨w.heap.size, 5, none⟩ = some (.int .u8 (r5.toNat : Int)) := cell_of_row wr _ 5 _ _ _ harr
      have cg : wr.cell? ⟨g, 5, none⟩ = some (.int .i64 a5) := cell_of_row wr g 5 _ _ _ hblk
      have cf : wr.frozen? ⟨g, 5, none⟩ = false := frozen_of_row wr g 5 _ _ hblk
      have hne : (⟨g, 5, none⟩ : Addr) ≠ ⟨w.heap.size, 5, none⟩ := fun e => by injection e with e; omega
      have G1 := set_grown wr g 5 (.int .i64 (r5.toNat : Int))
      have B1 := heap_setCell_same wr g 5 _ _ (.int .i64 (r5.toNat : Int)) hblk
      have b1g : Below w.heap.size w (wr.setCell ⟨g, 5, none⟩ (.int .i64 (r5.toNat : Int))) := hbel.setCell (p := ⟨g, 5, none⟩) (by show w.heap.size ≤ g; omega) _
      have x1g : Bx (wr.setCell ⟨g, 5, none⟩ (.int .i64 (r5.toNat : Int))) (w.heap.size + 1) _ _ := (G1.block _ hbx.lt (fun e => by injection e; omega)).trans hbx
      have y1g := (G1.block w.heap.size (lt_of_some harr) (fun e => by injection e; omega)).trans harr
      have G2 := set_grown (wr.setCell ⟨g, 5, none⟩ (.int .i64 (r5.toNat : Int))) g 5 (.int .i64 ((r5.toNat : Int) - 256))
      have B2 := heap_setCell_same (wr.setCell ⟨g, 5, none⟩ (.int .i64 (r5.toNat : Int))) g 5 _ _ (.int .i64 ((r5.toNat : Int) - 256)) B1
      have b2g : Below w.heap.size w ((wr.setCell ⟨g, 5, none⟩ (.int .i64 (r5.toNat : Int))).setCell ⟨g, 5, none⟩ (.int .i64 ((r5.toNat : Int) - 256))) := b1g.setCell (p := ⟨g, 5, none⟩) (by show w.heap.size ≤ g; omega) _
      have x2g : Bx ((wr.setCell ⟨g, 5, none⟩ (.int .i64 (r5.toNat : Int))).setCell ⟨g, 5, none⟩ (.int .i64 ((r5.toNat : Int) - 256))) (w.heap.size + 1) _ _ := (G2.block _ x1g.lt (fun e => by injection e; omega)).trans x1g
      have y2g := (G2.block w.heap.size (lt_of_some y1g) (fun e => by injection e; omega)).trans y1g
      have P1 := Lib.hid (And.intro B1 (And.intro y1g (And.intro x1g b1g)))
      have P2 := Lib.hid (And.intro B2 (And.intro y2g (And.intro x2g b2g)))
      clear G1 B1 b1g x1g y1g G2 B2 b2g x2g y2g hbx hbel hblk harr
      cases sg
      · have HN : Hid ((r5.toNat : Int) = C4p.num false r5) := Lib.hid (by unfold C4p.num; rw [if_neg (by simp)])
        go_wp2_with fail
        exact ⟨⟨6, by omega, by go_num, a0, a1, a2, a3, a4, (r5.toNat : Int), P1.out.1, P1.out.2.1, P1.out.2.2.1, P1.out.2.2.2, ⟨fun _ => H0.out (by omega), fun _ => H1.out (by omega), fun _ => H2.out (by omega), fun _ => H3.out (by omega), fun _ => H4.out (by omega), fun _ => HN.out⟩⟩, by simp [intOf]⟩
      · by_cases h128 : 128 ≤ r5.toNat
        · have HN : Hid ((r5.toNat : Int) - 256 = C4p.num true r5) := Lib.hid (by unfold C4p.num; rw [if_pos ⟨rfl, h128⟩])
          have h127 : 127 < (r5.toNat : Int) := by omega
          go_wp2_with fail
          exact ⟨⟨6, by omega, by go_num, a0, a1, a2, a3, a4, (r5.toNat : Int) - 256, P2.out.1, P2.out.2.1, P2.out.2.2.1, P2.out.2.2.2, ⟨fun _ => H0.out (by omega), fun _ => H1.out (by omega), fun _ => H2.out (by omega), fun _ => H3.out (by omega), fun _ => H4.out (by omega), fun _ => HN.out⟩⟩, by simp [intOf]⟩
        · have HN : Hid ((r5.toNat : Int) = C4p.num true r5) := Lib.hid (by unfold C4p.num; rw [if_neg (fun h => h128 h.2)])
          have h127 : ¬ 127 < (r5.toNat : Int) := by omega
          go_wp2_with fail
          exact ⟨⟨6, by omega, by go_num, a0, a1, a2, a3, a4, (r5.toNat : Int), P1.out.1, P1.out.2.1, P1.out.2.2.1, P1.out.2.2.2, ⟨fun _ => H0.out (by omega), fun _ => H1.out (by omega), fun _ => H2.out (by omega), fun _ => H3.out (by omega), fun _ => H4.out (by omega), fun _ => HN.out⟩⟩, by simp [intOf]⟩
    · have hR2 : R = decide (a2 ≤ a1 ∧ a1 ≤ a0 ∧ a0 < a3 ∧ a3 ≤ a4 ∧ a4 ≤ a5) := by rw [HR.out, H0.out (by omega), H1.out (by omega), H2.out (by omega), H3.out (by omega), H4.out (by omega), H5.out (by omega)]
      clear H0 H1 H2 H3 H4 H5 HR harr
      have c0 : wr.cell? ⟨g, 0, none⟩ = some (.int .i64 a0) := cell_of_row wr g 0 _ _ _ hblk
      have c1 : wr.cell? ⟨g, 1, none⟩ = some (.int .i64 a1) := cell_of_row wr g 1 _ _ _ hblk
      have c2 : wr.cell? ⟨g, 2, none⟩ = some (.int .i64 a2) := cell_of_row wr g 2 _ _ _ hblk
      have c3 : wr.cell? ⟨g, 3, none⟩ = some (.int .i64 a3) := cell_of_row wr g 3 _ _ _ hblk
      have c4 : wr.cell? ⟨g, 4, none⟩ = some (.int .i64 a4) := cell_of_row wr g 4 _ _ _ hblk
      have c5 : wr.cell? ⟨g, 5, none⟩ = some (.int .i64 a5) := cell_of_row wr g 5 _ _ _ hblk
      by_cases q0 : a2 ≤ a1
      case neg =>
        have hf : R = false := by rw [hR2, decide_eq_false (by omega)]
        have q0' : ¬ a2 ≤ a1 := q0
        subst hf
        clear hR2
        go_wp2_with (refine wpList_load_bx rfl (.tmp 5) rfl _ _ _ rfl hbx ?_)
        refine (HV.out _).mono ?_
        rintro e w5 ⟨rfl, hb5⟩
        go_wp2_with fail
        refine (haw.out _).mono ?_
        rintro e w6 ⟨rfl, hb6⟩
        go_wp2_with fail
        go_ret
        exact ⟨rfl, (hbel.trans (hb5.mono hbel.size)).trans (hb6.mono (hbel.trans (hb5.mono hbel.size)).size)⟩
      by_cases q1 : a1 ≤ a0
      case neg =>
        have hf : R = false := by rw [hR2, decide_eq_false (by omega)]
        have q1' : ¬ a1 ≤ a0 := q1
        subst hf
        clear hR2
        go_wp2_with (refine wpList_load_bx rfl (.tmp 5) rfl _ _ _ rfl hbx ?_)
        refine (HV.out _).mono ?_
        rintro e w5 ⟨rfl, hb5⟩
        go_wp2_with fail
        refine (haw.out _).mono ?_
        rintro e w6 ⟨rfl, hb6⟩
        go_wp2_with fail
        go_ret
        exact ⟨rfl, (hbel.trans (hb5.mono hbel.size)).trans (hb6.mono (hbel.trans (hb5.mono hbel.size)).size)⟩
      by_cases q2 : a0 < a3
      case neg =>
        have hf : R = false := by rw [hR2, decide_eq_false (by omega)]
        have q2' : ¬ a0 < a3 := q2
        subst hf
        clear hR2
        go_wp2_with (refine wpList_load_bx rfl (.tmp 5) rfl _ _ _ rfl hbx ?_)
        refine (HV.out _).mono ?_
        rintro e w5 ⟨rfl, hb5⟩
        go_wp2_with fail
        refine (haw.out _).mono ?_
        rintro e w6 ⟨rfl, hb6⟩
        go_wp2_with fail
        go_ret
        exact ⟨rfl, (hbel.trans (hb5.mono hbel.size)).trans (hb6.mono (hbel.trans (hb5.mono hbel.size)).size)⟩
      by_cases q3 : a3 ≤ a4
      case neg =>
        have hf : R = false := by rw [hR2, decide_eq_false (by omega)]
        have q3' : ¬ a3 ≤ a4 := q3
        subst hf
        clear hR2
        go_wp2_with (refine wpList_load_bx rfl (.tmp 5) rfl _ _ _ rfl hbx ?_)
        refine (HV.out _).mono ?_
        rintro e w5 ⟨rfl, hb5⟩
        go_wp2_with fail
        refine (haw.out _).mono ?_
        rintro e w6 ⟨rfl, hb6⟩
        go_wp2_with fail
        go_ret
        exact ⟨rfl, (hbel.trans (hb5.mono hbel.size)).trans (hb6.mono (hbel.trans (hb5.mono hbel.size)).size)⟩
      by_cases q4 : a4 ≤ a5
      case neg =>
        have hf : R = false := by rw [hR2, decide_eq_false (by omega)]
        have q4' : ¬ a4 ≤ a5 := q4
        subst hf
        clear hR2
        go_wp2_with (refine wpList_load_bx rfl (.tmp 5) rfl _ _ _ rfl hbx ?_)
        refine (HV.out _).mono ?_
        rintro e w5 ⟨rfl, hb5⟩
        go_wp2_with fail
        refine (haw.out _).mono ?_
        rintro e w6 ⟨rfl, hb6⟩
        go_wp2_with fail
        go_ret
        exact ⟨rfl, (hbel.trans (hb5.mono hbel.size)).trans (hb6.mono (hbel.trans (hb5.mono hbel.size)).size)⟩
      have hf : R = true := by rw [hR2, decide_eq_true (by omega)]
      subst hf
      clear hR2
      go_wp2_with (refine wpList_load_bx rfl (.tmp 5) rfl _ _ _ rfl hbx ?_)
      refine (HV.out _).mono ?_
      rintro e w5 ⟨rfl, hb5⟩
      go_wp2_with fail
      refine (haw.out _).mono ?_
      rintro e w6 ⟨rfl, hb6⟩
      go_wp2_with fail
      go_ret
      exact ⟨rfl, (hbel.trans (hb5.mono hbel.size)).trans (hb6.mono (hbel.trans (hb5.mono hbel.size)).size)⟩

theorem cells_u8 : Try.prog.cellsOf 5 = 1 := by kernel_rfl
theorem own : ownKnob Try.prog.godebug = none := by kernel_rfl
theorem laidOut : laidOutB Try.prog = true := by kernel_rfl
theorem contract (H : Type) (enc : TypeId × Value → H) (W : World) (base : Nat) (args : Array Value) (ds gs : List (DataW H)) (before : List MemPlace)
    (hval : ∀ (j : Nat) t v, Try.f7.params[j]? = some t → args[j]? = some v → Value.okWide Try.prog W .any base t v)
    (hW : DataW.Whole enc Try.prog Try.f7.params.toList Rows.sensorLimitsSpec.vars false W args.toList ds gs before) :
    Calls Try.prog 7 args W fun e W' => ∃ v, e = .returned v ∧ Rows.sensorLimitsSpec.post enc Try.prog Try.f7 false true false false W args v W' := by
  have hW' := hW
  obtain ⟨p, q, hA0, hV, rfl, hfz, hnd⟩ := hW
  have hA : DataW.TrodAll enc Try.prog W 0 (fun _ => true) true Try.f7.params.toList args.toList ds p := hA0
  rw [Try.params7] at hA hval
  obtain ⟨v0, vs0, d0, ds0, p0, q0, hargs, rfl, rfl, h0, r0⟩ := trodAll_cons hA
  obtain ⟨v1, vs1, d1, ds1, p1, q1, rfl, rfl, rfl, h1, r1⟩ := trodAll_cons r0
  obtain ⟨rfl, rfl, rfl⟩ := trodAll_nil r1
  obtain rfl : args = #[v0, v1] := by cases args; simp_all
  obtain ⟨q00, q01, q02, q03, q04, q05, rfl⟩ := open_arr6 Try.underlying27 (by kernel_rfl) Try.underlying5 (by kernel_rfl) (hval 0 27 v0 rfl rfl) h0
  obtain ⟨b1, rfl, -, -⟩ := open_bool Try.underlying4 (hval 1 4 v1 rfl rfl) h1
  clear hA0
  refine (walk q00 q01 q02 q03 q04 q05 b1 W ).mono fun e W' ⟨he, hb⟩ => ?_
  subst he
  exact ⟨_, rfl, law_post laidOut (types_fit (by kernel_rfl)) (by kernel_rfl) Try.underlying4 rfl (fun xs hx => by
    match xs, hx with
    | [_, _], _ => rfl) hW' hb⟩

theorem lifted (os : Os) (started : os.Started) (H : Type) (enc : TypeId × Value → H) :
    ReturnsInHanded {} Try.checked os 7 .any (Rows.sensorLimitsSpec.pre6 enc Try.prog Try.f7 Rows.sensorLimitsRow.domain false) (Rows.sensorLimitsSpec.post enc Try.prog Try.f7 false true false false) := by
  refine returnsInHanded_of_change (C := Try.checked) own started (by kernel_rfl) Try.func7
    (ChangeSpec.witness6 (enc := enc) (C := Try.checked) false ⟨#[], #[.agg #[.int .u8 0, .int .u8 0, .int .u8 0, .int .u8 0, .int .u8 0, .int .u8 0], .bool false], []⟩ 8 (by kernel_rfl) (by kernel_rfl) (by kernel_rfl) (by kernel_rfl)) ?_
  intro W base args ds gs before hval hW _ _
  exact contract H enc W base args ds gs before hval hW

theorem proved : Rows.SensorLimitsSaid :=
  OpenClaim.holds_of_wide 7 Try.f7 rfl rfl rfl rfl rfl rfl rfl ⟨rfl, rfl, rfl, rfl, rfl⟩ rfl rfl rfl rfl rfl (by kernel_rfl) Try.func7 (by kernel_rfl)
    (of_decide_eq_true (by kernel_rfl)) (by unfold Func.isWrapper; first | (rw [if_pos (by decide +kernel)]; kernel_rfl) | (rw [if_neg (by decide +kernel)]; exact ⟨rfl, rfl⟩))
    (fun os started H enc _ => lifted os started H enc)
end Go.Proofs.Ytigooekimkkhaaa.sensorLimits
