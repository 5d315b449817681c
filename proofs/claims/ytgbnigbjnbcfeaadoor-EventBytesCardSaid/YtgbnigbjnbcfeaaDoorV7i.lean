/- Walks: the program's package event: Decode. -/
import Derived.Test.YtgbnigbjnbcfeaaDoorV7k
import Derived.Deep.RegionHeld3
namespace Go.Proofs.YtgbnigbjnbcfeaaDoor.V7
open Go.RowKit Go.Proofs.YtgbnigbjnbcfeaaDoor.Mem Go.Proofs.YtgbnigbjnbcfeaaDoor.F2p
set_option maxRecDepth 100000
set_option maxHeartbeats 4000000

/-- Sixteen bytes of a slice, cell by cell. -/
theorem sl_cells {w : World} {A : Option Addr} {n c : Nat} {l : List UInt8} (h : Sl w A n c l) (hn : 1 ≤ n) : ∃ a, A = some a ∧ a.block < w.heap.size ∧ w.cell? a = some (.int .u8 (bt l 0 : Int)) ∧ ∀ k, 1 ≤ k → k < n → w.cell? ⟨a.block, a.off + k, none⟩ = some (.int .u8 (bt l k : Int)) := by
  have hl := h.len
  obtain ⟨a, rfl, hab, k0⟩ := row_at h.row (k := 0) (by omega)
  have hb : ∀ k, (hk : k < l.length) → bt l k = l[k].toNat := fun k hk => by
    unfold bt
    rw [List.getD_eq_getElem?_getD, List.getElem?_eq_getElem hk]
    rfl
  refine ⟨a, rfl, hab, ?_, fun k h1 hk => ?_⟩
  · rw [show a.add 0 = a by unfold Addr.add; rw [if_pos rfl]] at k0
    rw [hb 0 (by omega)]
    exact k0
  · obtain ⟨a', e, -, kk⟩ := row_at h.row (k := k) (by omega)
    injection e with e
    subst e
    rw [show a.add k = ⟨a.block, a.off + k, none⟩ by unfold Addr.add; rw [if_neg (by omega)]] at kk
    rw [hb k (by omega)]
    exact kk
def decV (r : Ev × Nat) : Value := .tuple #[r.1.v, .int .i64 (r.2 : Int)]
theorem dec_p (w : World) (A : Option Addr) (n c : Nat) (l : List UInt8) (hl : Sl w A n c l) : Calls Tryd.prog 21 #[.slice A n c] w fun x w' => x = .returned (decV (dec l)) ∧ Below w.heap.size w w' := by
  have hn := hl.len
  have hm : n ≤ maxLen := lite hl
  unfold maxLen at hm
  have hs : Below w.heap.size w (w.alloc (.cells Ev.none.cells 26)) := (Below.refl _ _).alloc (Nat.le_refl _) _
  by_cases h16 : n < 16
  · have hI : (n : Int) < 16 := by omega
    have hd : dec l = (Ev.none, 4) := by unfold dec; rw [if_pos (by omega)]
    rw [hd]
    clear hl hn
    go_enter Tryd.func21, Tryd.ntmps21
    go_wp2_with fail
    exact out_box2 (r := w.heap.size) (e := Ev.none) Tryd.results21 rfl rfl rfl (Box.new w Ev.none) ⟨rfl, hs⟩
  have hI : ¬ (n : Int) < 16 := by omega
  by_cases h17 : 16 < n
  · have hI2 : 16 < (n : Int) := by omega
    have hd : dec l = (Ev.none, 6) := by unfold dec; rw [if_neg (by omega), if_pos (.inl (by omega))]
    rw [hd]
    clear hl hn
    go_enter Tryd.func21, Tryd.ntmps21
    go_wp2_with fail
    exact out_box2 (r := w.heap.size) (e := Ev.none) Tryd.results21 rfl rfl rfl (Box.new w Ev.none) ⟨rfl, hs⟩
  obtain rfl : n = 16 := by omega
  obtain ⟨a, rfl, hab, k0, hk⟩ := sl_cells hl (by omega)
  have k1 := hk 1 (by omega) (by omega); have k2 := hk 2 (by omega) (by omega); have k3 := hk 3 (by omega) (by omega); have k4 := hk 4 (by omega) (by omega); have k5 := hk 5 (by omega) (by omega)
  have k6 := hk 6 (by omega) (by omega); have k7 := hk 7 (by omega) (by omega); have k8 := hk 8 (by omega) (by omega); have k9 := hk 9 (by omega) (by omega); have k10 := hk 10 (by omega) (by omega)
  have k11 := hk 11 (by omega) (by omega); have k12 := hk 12 (by omega) (by omega); have k13 := hk 13 (by omega) (by omega); have k14 := hk 14 (by omega) (by omega); have k15 := hk 15 (by omega) (by omega)
  have b0 := bt_lt l 0; have b1 := bt_lt l 1; have b2 := bt_lt l 2; have b3 := bt_lt l 3; have b4 := bt_lt l 4; have b5 := bt_lt l 5; have b6 := bt_lt l 6; have b7 := bt_lt l 7; have b8 := bt_lt l 8
  have b9 := bt_lt l 9; have b10 := bt_lt l 10; have b11 := bt_lt l 11; have b12 := bt_lt l 12; have b13 := bt_lt l 13; have b14 := bt_lt l 14; have b15 := bt_lt l 15
  have hdd : dec l = if bt l 2 ≠ 2 ∨ bt l 9 ≠ 4 then (Ev.none, 6) else if vld (decE l) then (decE l, 0) else (Ev.none, 1) := by
    unfold dec
    rw [if_neg (by omega)]
    simp only [show ¬ 16 < l.length by omega, false_or]
  have hE : decE l = decE l := rfl
  unfold decE at hE
  have hfit := decE_fit l
  clear hk hl hn h16 h17 hI hm
  rw [hdd]
  clear hdd
  have hdE : decE l = ⟨bt l 0 + 256 * bt l 1, bt l 3 + 256 * bt l 4 + 65536 * bt l 5 + 16777216 * bt l 6, bt l 7 + 256 * bt l 8, bt l 10, bt l 11, bt l 12 % 128, decide (128 ≤ bt l 12), bt l 13, bt l 14, bt l 15⟩ := rfl
  rw [hdE] at hfit ⊢
  clear hdE hE
  generalize bt l 0 = x0 at *; generalize bt l 1 = x1 at *; generalize bt l 2 = x2 at *; generalize bt l 3 = x3 at *; generalize bt l 4 = x4 at *; generalize bt l 5 = x5 at *; generalize bt l 6 = x6 at *; generalize bt l 7 = x7 at *
  generalize bt l 8 = x8 at *; generalize bt l 9 = x9 at *; generalize bt l 10 = x10 at *; generalize bt l 11 = x11 at *; generalize bt l 12 = x12 at *; generalize bt l 13 = x13 at *; generalize bt l 14 = x14 at *; generalize bt l 15 = x15 at *
  by_cases h2 : x2 = 2
  · subst h2
    by_cases h9 : x9 = 4
    · subst h9
      have o1 := or16 x0 x1 b0 b1
      have o2 := or16 x7 x8 b7 b8
      have o3 := or32 x3 x4 8 256 rfl b3 (by omega) (x3 : Int) ((x4 : Int) * 256) rfl (by omega)
      have o4 := or32 (x3 + x4 * 256) x5 16 65536 rfl (by omega) (by omega) ((x3 : Int) + (x4 : Int) * 256) ((x5 : Int) * 65536) (by omega) (by omega)
      have o5 := or32 (x3 + x4 * 256 + x5 * 65536) x6 24 16777216 rfl (by omega) (by omega) ((x3 : Int) + (x4 : Int) * 256 + (x5 : Int) * 65536) ((x6 : Int) * 16777216) (by omega) (by omega)
      have o6 := and_128 x12 b12
      obtain ⟨q6, hq6⟩ : ∃ q6, q6 = (if 128 ≤ x12 then (128 : Int) else 0) := ⟨_, rfl⟩
      rw [← hq6] at o6
      replace hq6 := Lib.hid hq6
      have o7 := andnot_128 x12 b12
      simp only [ne_eq, not_true_eq_false, or_self, if_false]
      go_enter Tryd.func21, Tryd.ntmps21
      obtain ⟨e, he⟩ : ∃ e : Ev, e = ⟨x0 + 256 * x1, x3 + 256 * x4 + 65536 * x5 + 16777216 * x6, x7 + 256 * x8, x10, x11, x12 % 128, decide (128 ≤ x12), x13, x14, x15⟩ := ⟨_, rfl⟩
      rw [← he] at hfit ⊢
      replace he := Lib.hid he
      have KEEP : Hid (∀ V, Below w.heap.size w V → V.cell? a = some (.int .u8 (x0 : Int)) ∧ V.cell? ⟨a.block, a.off + 1, none⟩ = some (.int .u8 (x1 : Int)) ∧ V.cell? ⟨a.block, a.off + 2, none⟩ = some (.int .u8 2) ∧ V.cell? ⟨a.block, a.off + 3, none⟩ = some (.int .u8 (x3 : Int)) ∧ V.cell? ⟨a.block, a.off + 4, none⟩ = some (.int .u8 (x4 : Int)) ∧ V.cell? ⟨a.block, a.off + 5, none⟩ = some (.int .u8 (x5 : Int)) ∧ V.cell? ⟨a.block, a.off + 6, none⟩ = some (.int .u8 (x6 : Int)) ∧ V.cell? ⟨a.block, a.off + 7, none⟩ = some (.int .u8 (x7 : Int)) ∧ V.cell? ⟨a.block, a.off + 8, none⟩ = some (.int .u8 (x8 : Int)) ∧ V.cell? ⟨a.block, a.off + 9, none⟩ = some (.int .u8 4) ∧ V.cell? ⟨a.block, a.off + 10, none⟩ = some (.int .u8 (x10 : Int)) ∧ V.cell? ⟨a.block, a.off + 11, none⟩ = some (.int .u8 (x11 : Int)) ∧ V.cell? ⟨a.block, a.off + 12, none⟩ = some (.int .u8 (x12 : Int)) ∧ V.cell? ⟨a.block, a.off + 13, none⟩ = some (.int .u8 (x13 : Int)) ∧ V.cell? ⟨a.block, a.off + 14, none⟩ = some (.int .u8 (x14 : Int)) ∧ V.cell? ⟨a.block, a.off + 15, none⟩ = some (.int .u8 (x15 : Int))) := Lib.hid fun V hV => ⟨(hV.cell hab).trans k0, (hV.cell (p := ⟨a.block, a.off + 1, none⟩) hab).trans k1, (hV.cell (p := ⟨a.block, a.off + 2, none⟩) hab).trans k2, (hV.cell (p := ⟨a.block, a.off + 3, none⟩) hab).trans k3, (hV.cell (p := ⟨a.block, a.off + 4, none⟩) hab).trans k4, (hV.cell (p := ⟨a.block, a.off + 5, none⟩) hab).trans k5, (hV.cell (p := ⟨a.block, a.off + 6, none⟩) hab).trans k6, (hV.cell (p := ⟨a.block, a.off + 7, none⟩) hab).trans k7, (hV.cell (p := ⟨a.block, a.off + 8, none⟩) hab).trans k8, (hV.cell (p := ⟨a.block, a.off + 9, none⟩) hab).trans k9, (hV.cell (p := ⟨a.block, a.off + 10, none⟩) hab).trans k10, (hV.cell (p := ⟨a.block, a.off + 11, none⟩) hab).trans k11, (hV.cell (p := ⟨a.block, a.off + 12, none⟩) hab).trans k12, (hV.cell (p := ⟨a.block, a.off + 13, none⟩) hab).trans k13, (hV.cell (p := ⟨a.block, a.off + 14, none⟩) hab).trans k14, (hV.cell (p := ⟨a.block, a.off + 15, none⟩) hab).trans k15⟩
      go_wp2_with fail
      have hd0 : Below w.heap.size w (w.alloc (.cells #[.int .u16 0, .int .u32 0, .int .u16 0, .int .u8 0, .int .u8 0, .int .u8 0, .bool false, .int .u8 0, .int .u8 0, .int .u8 0] 26)).drew := hs.drew
      simp only [List.append_eq, List.cons_append, List.nil_append]
      go_region_held3 (fun V => V.cell? a = some (.int .u8 (x0 : Int)) ∧ V.cell? ⟨a.block, a.off + 1, none⟩ = some (.int .u8 (x1 : Int)) ∧ V.cell? ⟨a.block, a.off + 2, none⟩ = some (.int .u8 2) ∧ V.cell? ⟨a.block, a.off + 3, none⟩ = some (.int .u8 (x3 : Int)) ∧ V.cell? ⟨a.block, a.off + 4, none⟩ = some (.int .u8 (x4 : Int)) ∧ V.cell? ⟨a.block, a.off + 5, none⟩ = some (.int .u8 (x5 : Int)) ∧ V.cell? ⟨a.block, a.off + 6, none⟩ = some (.int .u8 (x6 : Int)) ∧ V.cell? ⟨a.block, a.off + 7, none⟩ = some (.int .u8 (x7 : Int)) ∧ V.cell? ⟨a.block, a.off + 8, none⟩ = some (.int .u8 (x8 : Int)) ∧ V.cell? ⟨a.block, a.off + 9, none⟩ = some (.int .u8 4) ∧ V.cell? ⟨a.block, a.off + 10, none⟩ = some (.int .u8 (x10 : Int)) ∧ V.cell? ⟨a.block, a.off + 11, none⟩ = some (.int .u8 (x11 : Int)) ∧ V.cell? ⟨a.block, a.off + 12, none⟩ = some (.int .u8 (x12 : Int)) ∧ V.cell? ⟨a.block, a.off + 13, none⟩ = some (.int .u8 (x13 : Int)) ∧ V.cell? ⟨a.block, a.off + 14, none⟩ = some (.int .u8 (x14 : Int)) ∧ V.cell? ⟨a.block, a.off + 15, none⟩ = some (.int .u8 (x15 : Int))) (first | exact KEEP.out _ hd0 | exact KEEP.out _ (hd0.alloc hd0.size _)) (fail)
      have g1 : bits .or .u16 (IntKind.u16.wrap (x0 : Int)) (IntKind.u16.wrap (IntKind.u16.wrap (x1 : Int) * 256)) = ((x0 + 256 * x1 : Nat) : Int) := by
        rw [IntWalk.u16_in (x0 : Int) ⟨by omega, by omega⟩, IntWalk.u16_in (x1 : Int) ⟨by omega, by omega⟩, IntWalk.u16_in ((x1 : Int) * 256) ⟨by omega, by omega⟩, o1]; omega
      have g3 : bits .or .u16 (IntKind.u16.wrap (x7 : Int)) (IntKind.u16.wrap (IntKind.u16.wrap (x8 : Int) * 256)) = ((x7 + 256 * x8 : Nat) : Int) := by
        rw [IntWalk.u16_in (x7 : Int) ⟨by omega, by omega⟩, IntWalk.u16_in (x8 : Int) ⟨by omega, by omega⟩, IntWalk.u16_in ((x8 : Int) * 256) ⟨by omega, by omega⟩, o2]; omega
      have g2 : bits .or .u32 (bits .or .u32 (bits .or .u32 (IntKind.u32.wrap (x3 : Int)) (IntKind.u32.wrap (IntKind.u32.wrap (x4 : Int) * 256))) (IntKind.u32.wrap (IntKind.u32.wrap (x5 : Int) * 65536))) (IntKind.u32.wrap (IntKind.u32.wrap (x6 : Int) * 16777216)) = ((x3 + 256 * x4 + 65536 * x5 + 16777216 * x6 : Nat) : Int) := by
        rw [IntWalk.u32_in (x3 : Int) ⟨by omega, by omega⟩, IntWalk.u32_in (x4 : Int) ⟨by omega, by omega⟩, IntWalk.u32_in (x5 : Int) ⟨by omega, by omega⟩, IntWalk.u32_in (x6 : Int) ⟨by omega, by omega⟩, IntWalk.u32_in ((x4 : Int) * 256) ⟨by omega, by omega⟩, IntWalk.u32_in ((x5 : Int) * 65536) ⟨by omega, by omega⟩, IntWalk.u32_in ((x6 : Int) * 16777216) ⟨by omega, by omega⟩, o3, o4, o5]; omega
      have g4 : (x12 : Int) % 128 = ((x12 % 128 : Nat) : Int) := by omega
      have g5 : (q6 != 0) = decide (128 ≤ x12) := by rw [hq6.out]; by_cases h : 128 ≤ x12 <;> simp [h]
      rw [g1, g2, g3, g4, g5]
      clear g1 g2 g3 g4 g5 o1 o2 o3 o4 o5 o6 o7
      have hc : (#[.int .u16 ((x0 + 256 * x1 : Nat) : Int), .int .u32 ((x3 + 256 * x4 + 65536 * x5 + 16777216 * x6 : Nat) : Int), .int .u16 ((x7 + 256 * x8 : Nat) : Int), .int .u8 (x10 : Int), .int .u8 (x11 : Int), .int .u8 ((x12 % 128 : Nat) : Int), .bool (decide (128 ≤ x12)), .int .u8 (x13 : Int), .int .u8 (x14 : Int), .int .u8 (x15 : Int)] : Array Value) = e.cells := by rw [he.out]; rfl
      rw [hc]
      clear hc KEEP k0 k1 k2 k3 k4 k5 k6 k7 k8 k9 k10 k11 k12 k13 k14 k15 hd0
      have hb2 : Below w.heap.size w ((w.alloc (.cells #[.int .u16 0, .int .u32 0, .int .u16 0, .int .u8 0, .int .u8 0, .int .u8 0, .bool false, .int .u8 0, .int .u8 0, .int .u8 0] 26)).alloc (.cells e.cells 26)).drew := (hs.alloc hs.size _).drew
      have B2 : Box ((w.alloc (.cells #[.int .u16 0, .int .u32 0, .int .u16 0, .int .u8 0, .int .u8 0, .int .u8 0, .bool false, .int .u8 0, .int .u8 0, .int .u8 0] 26)).alloc (.cells e.cells 26)).drew w.heap.size Ev.none := (Box.new w Ev.none).alloc _
      have B4 : Box ((w.alloc (.cells #[.int .u16 0, .int .u32 0, .int .u16 0, .int .u8 0, .int .u8 0, .int .u8 0, .bool false, .int .u8 0, .int .u8 0, .int .u8 0] 26)).alloc (.cells e.cells 26)).drew (w.heap.size + 1) e := by have := Box.new (w.alloc (.cells #[.int .u16 0, .int .u32 0, .int .u16 0, .int .u8 0, .int .u8 0, .int .u8 0, .bool false, .int .u8 0, .int .u8 0, .int .u8 0] 26)) e; rw [World.size_alloc] at this; exact this
      have hz2 : w.heap.size + 1 < ((w.alloc (.cells #[.int .u16 0, .int .u32 0, .int .u16 0, .int .u8 0, .int .u8 0, .int .u8 0, .bool false, .int .u8 0, .int .u8 0, .int .u8 0] 26)).alloc (.cells e.cells 26)).drew.heap.size := B4.lt
      generalize ((w.alloc (.cells #[.int .u16 0, .int .u32 0, .int .u16 0, .int .u8 0, .int .u8 0, .int .u8 0, .bool false, .int .u8 0, .int .u8 0, .int .u8 0] 26)).alloc (.cells e.cells 26)).drew = w2 at *
      have hV := Lib.hid (fun u => valid_p e u)
      replace B4 := Lib.hid B4
      go_wp2_with (refine wpList_load_box rfl (.tmp 4) rfl (w.heap.size + 1) e rfl B4.out ?_)
      refine (hV.out _).mono ?_
      rintro x w3 ⟨rfl, hb3⟩
      have B2' := B2.below hb3 (by omega)
      have B4' := B4.out.below hb3 (by omega)
      have hb3' := hb2.trans (hb3.mono hb2.size)
      replace B4' := Lib.hid B4'
      replace B2' := Lib.hid B2'
      replace hb3' := Lib.hid hb3'
      clear B2 B4 hb2 hb3
      cases hv : vld e
      · go_wp2_with (refine wpList_store_box rfl (.tmp 2) (.tmp 96) rfl w.heap.size Ev.none Ev.none rfl rfl B2'.out ?_; intro w5 hB5 hg5)
        all_goals exact out_box2 (r := w.heap.size) (e := Ev.none) Tryd.results21 rfl rfl rfl hB5 ⟨rfl, hb3'.out.grown hg5 hb3'.out.size (fun k hk => by injection hk; omega)⟩
      · go_wp2_with (first
          | (refine wpList_load_box rfl (.tmp 4) rfl (w.heap.size + 1) e rfl B4'.out ?_)
          | (refine wpList_store_box rfl (.tmp 2) (.tmp 97) rfl w.heap.size e Ev.none rfl rfl B2'.out ?_; intro w5 hB5 hg5))
        all_goals exact out_box2 (r := w.heap.size) (e := e) Tryd.results21 rfl rfl rfl hB5 ⟨rfl, hb3'.out.grown hg5 hb3'.out.size (fun k hk => by injection hk; omega)⟩
    · rw [if_pos (.inr h9)]
      clear hfit
      rcases (show x9 < 4 ∨ 4 < x9 by omega) with hh | hh
      · go_enter Tryd.func21, Tryd.ntmps21
        go_wp2_with fail
        all_goals exact out_box2 (r := w.heap.size) (e := Ev.none) Tryd.results21 rfl rfl rfl (Box.new w Ev.none) ⟨rfl, hs⟩
      · go_enter Tryd.func21, Tryd.ntmps21
        go_wp2_with fail
        all_goals exact out_box2 (r := w.heap.size) (e := Ev.none) Tryd.results21 rfl rfl rfl (Box.new w Ev.none) ⟨rfl, hs⟩
  · rw [if_pos (.inl h2)]
    clear hfit
    rcases (show x2 < 2 ∨ 2 < x2 by omega) with hh | hh
    · go_enter Tryd.func21, Tryd.ntmps21
      go_wp2_with fail
      exact out_box2 (r := w.heap.size) (e := Ev.none) Tryd.results21 rfl rfl rfl (Box.new w Ev.none) ⟨rfl, hs⟩
    · go_enter Tryd.func21, Tryd.ntmps21
      go_wp2_with fail
      exact out_box2 (r := w.heap.size) (e := Ev.none) Tryd.results21 rfl rfl rfl (Box.new w Ev.none) ⟨rfl, hs⟩
end Go.Proofs.YtgbnigbjnbcfeaaDoor.V7
