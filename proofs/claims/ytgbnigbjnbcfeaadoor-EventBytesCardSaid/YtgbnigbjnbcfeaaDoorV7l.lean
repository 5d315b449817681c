/- Walks: the reference of events: Decode. -/
import Derived.Test.YtgbnigbjnbcfeaaDoorV7i
import Derived.Test.YtgbnigbjnbcfeaaDoorV7j
namespace Go.Proofs.YtgbnigbjnbcfeaaDoor.V7
open Go.RowKit Go.Proofs.YtgbnigbjnbcfeaaDoor.Mem Go.Proofs.YtgbnigbjnbcfeaaDoor.F2p Go.Proofs.YtgbnigbjnbcfeaaDoor.Ln
set_option maxRecDepth 100000
set_option maxHeartbeats 4000000

theorem num2 (l : List UInt8) (k : Nat) (h : k + 2 ≤ l.length) : num ((l.drop k).take 2) = bt l k + 256 * bt l (k + 1) := by
  have h0 : l.drop k = l[k] :: l[k + 1] :: l.drop (k + 2) := by rw [List.drop_eq_getElem_cons (by omega), List.drop_eq_getElem_cons (by omega)]
  have b : ∀ j, (hj : j < l.length) → bt l j = l[j].toNat := fun j hj => by unfold bt; rw [List.getD_eq_getElem?_getD, List.getElem?_eq_getElem hj]; rfl
  rw [h0, b k (by omega), b (k + 1) (by omega)]
  show num [l[k], l[k + 1]] = _
  simp only [num]
  omega
theorem num4 (l : List UInt8) (k : Nat) (h : k + 4 ≤ l.length) : num ((l.drop k).take 4) = bt l k + 256 * bt l (k + 1) + 65536 * bt l (k + 2) + 16777216 * bt l (k + 3) := by
  have h0 : l.drop k = l[k] :: l[k + 1] :: l[k + 2] :: l[k + 3] :: l.drop (k + 4) := by rw [List.drop_eq_getElem_cons (by omega), List.drop_eq_getElem_cons (by omega), List.drop_eq_getElem_cons (by omega), List.drop_eq_getElem_cons (by omega)]
  have b : ∀ j, (hj : j < l.length) → bt l j = l[j].toNat := fun j hj => by unfold bt; rw [List.getD_eq_getElem?_getD, List.getElem?_eq_getElem hj]; rfl
  rw [h0, b k (by omega), b (k + 1) (by omega), b (k + 2) (by omega), b (k + 3) (by omega)]
  show num [l[k], l[k + 1], l[k + 2], l[k + 3]] = _
  simp only [num]
  omega
theorem piece_row {B : Nat} {w : World} {a : Addr} {l : List UInt8} (h : Row B w (some a) l) (k n : Nat) (hk : 1 ≤ k) (hn : k + n ≤ l.length) (hn1 : 1 ≤ n) : Row B w (some ⟨a.block, a.off + k, none⟩) ((l.drop k).take n) := by
  have h1 := row_cut h (n := k) (cap := l.length + 1) (by omega) (by omega)
  rw [if_neg (by omega)] at h1
  have h2 := row_take h1 n
  rw [show (some a).map (·.add k) = some (⟨a.block, a.off + k, none⟩ : Addr) by show some (a.add k) = _; unfold Addr.add; rw [if_neg (by omega)]] at h2
  exact h2
theorem dec_r (w : World) (A : Option Addr) (n c : Nat) (l : List UInt8) (hl : Sl w A n c l) : Calls Tryd.prog 22 #[.slice A n c] w fun x w' => x = .returned (decV (dec l)) ∧ Below w.heap.size w w' := by
  have hn := hl.len
  have hm : n ≤ maxLen := lite hl
  unfold maxLen at hm
  have hs : Below w.heap.size w (w.alloc (.cells Ev.none.cells 26)) := (Below.refl _ _).alloc (Nat.le_refl _) _
  by_cases h16 : n < 16
  · have hI : (n : Int) < 16 := by omega
    have hd : dec l = (Ev.none, 4) := by unfold dec; rw [if_pos (by omega)]
    rw [hd]
    clear hl hn
    go_enter Tryd.func22, Tryd.ntmps22
    go_wp2_with fail
    exact out_box2 (r := w.heap.size) (e := Ev.none) Tryd.results22 rfl rfl rfl (Box.new w Ev.none) ⟨rfl, hs⟩
  have hI : ¬ (n : Int) < 16 := by omega
  by_cases h17 : 16 < n
  · have hI2 : 16 < (n : Int) := by omega
    have hd : dec l = (Ev.none, 6) := by unfold dec; rw [if_neg (by omega), if_pos (.inl (by omega))]
    rw [hd]
    clear hl hn
    go_enter Tryd.func22, Tryd.ntmps22
    go_wp2_with fail
    exact out_box2 (r := w.heap.size) (e := Ev.none) Tryd.results22 rfl rfl rfl (Box.new w Ev.none) ⟨rfl, hs⟩
  obtain rfl : n = 16 := by omega
  obtain ⟨a, rfl, hab, k0, hk⟩ := sl_cells hl (by omega)
  have k1 := hk 1 (by omega) (by omega); have k2 := hk 2 (by omega) (by omega); have k3 := hk 3 (by omega) (by omega); have k4 := hk 4 (by omega) (by omega); have k5 := hk 5 (by omega) (by omega)
  have k6 := hk 6 (by omega) (by omega); have k7 := hk 7 (by omega) (by omega); have k8 := hk 8 (by omega) (by omega); have k9 := hk 9 (by omega) (by omega); have k10 := hk 10 (by omega) (by omega)
  have k11 := hk 11 (by omega) (by omega); have k12 := hk 12 (by omega) (by omega); have k13 := hk 13 (by omega) (by omega); have k14 := hk 14 (by omega) (by omega); have k15 := hk 15 (by omega) (by omega)
  have b0 := bt_lt l 0; have b1 := bt_lt l 1; have b2 := bt_lt l 2; have b3 := bt_lt l 3; have b4 := bt_lt l 4; have b5 := bt_lt l 5; have b6 := bt_lt l 6; have b7 := bt_lt l 7; have b8 := bt_lt l 8
  have b9 := bt_lt l 9; have b10 := bt_lt l 10; have b11 := bt_lt l 11; have b12 := bt_lt l 12; have b13 := bt_lt l 13; have b14 := bt_lt l 14; have b15 := bt_lt l 15
  have hdd : dec l = if bt l 2 ≠ 2 ∨ bt l 9 ≠ 4 then (Ev.none, 6) else if vld (decE l) then (decE l, 0) else (Ev.none, 1) := by
    unfold dec
    rw [if_neg (by omega)]
    simp only [show ¬ 16 < l.length by omega, false_or]
  have hE : decE l = decE l := rfl
  unfold decE at hE
  have hfit := decE_fit l
  have N1 := Lib.hid (fun (c' : Nat) u (hu : Below w.heap.size w u) => by
    have := number_any (some a) c' (l.take 2) w.heap.size u (row_take (hl.row.below hu) 2) (by rw [List.length_take]; omega)
    rw [show (l.take 2).length = 2 by rw [List.length_take]; omega, show num (l.take 2) = bt l 0 + 256 * bt l 1 by have := num2 l 0 (by omega); rwa [List.drop_zero] at this] at this
    exact this)
  have N2 := Lib.hid (fun (c' : Nat) u (hu : Below w.heap.size w u) => by
    have := number_any (some ⟨a.block, a.off + 3, none⟩) c' ((l.drop 3).take 4) w.heap.size u (piece_row (hl.row.below hu) 3 4 (by omega) (by omega) (by omega)) (by rw [List.length_take]; omega)
    rw [show ((l.drop 3).take 4).length = 4 by rw [List.length_take, List.length_drop]; omega, num4 l 3 (by omega)] at this
    exact this)
  have N3 := Lib.hid (fun (c' : Nat) u (hu : Below w.heap.size w u) => by
    have := number_any (some ⟨a.block, a.off + 7, none⟩) c' ((l.drop 7).take 2) w.heap.size u (piece_row (hl.row.below hu) 7 2 (by omega) (by omega) (by omega)) (by rw [List.length_take]; omega)
    rw [show ((l.drop 7).take 2).length = 2 by rw [List.length_take, List.length_drop]; omega, num2 l 7 (by omega)] at this
    exact this)
  have hcap : 16 ≤ c := hl.cap
  have hcmx := hl.max
  unfold maxLen at hcmx
  clear hk hl hn h16 h17 hI hm
  rw [hdd]
  clear hdd
  have hdE : decE l = ⟨bt l 0 + 256 * bt l 1, bt l 3 + 256 * bt l 4 + 65536 * bt l 5 + 16777216 * bt l 6, bt l 7 + 256 * bt l 8, bt l 10, bt l 11, bt l 12 % 128, decide (128 ≤ bt l 12), bt l 13, bt l 14, bt l 15⟩ := rfl
  rw [hdE] at hfit ⊢
  clear hdE hE
  generalize bt l 0 = x0 at *; generalize bt l 1 = x1 at *; generalize bt l 2 = x2 at *; generalize bt l 3 = x3 at *; generalize bt l 4 = x4 at *; generalize bt l 5 = x5 at *; generalize bt l 6 = x6 at *; generalize bt l 7 = x7 at *
  generalize bt l 8 = x8 at *; generalize bt l 9 = x9 at *; generalize bt l 10 = x10 at *; generalize bt l 11 = x11 at *; generalize bt l 12 = x12 at *; generalize bt l 13 = x13 at *; generalize bt l 14 = x14 at *; generalize bt l 15 = x15 at *
  by_cases h2 : x2 = 2
  · subst h2
    by_cases h9 : x9 = 4
    · subst h9
      have n1 : ((x0 + 256 * x1 : Nat) : Int) < 65536 := by omega
      have m1 : IntKind.u16.wrap ((x0 + 256 * x1 : Nat) : Int) = ((x0 + 256 * x1 : Nat) : Int) := IntWalk.u16_in _ ⟨by omega, by omega⟩
      have m2 : IntKind.u32.wrap ((x3 + 256 * x4 + 65536 * x5 + 16777216 * x6 : Nat) : Int) = ((x3 + 256 * x4 + 65536 * x5 + 16777216 * x6 : Nat) : Int) := IntWalk.u32_in _ ⟨by omega, by omega⟩
      have m3 : IntKind.u16.wrap ((x7 + 256 * x8 : Nat) : Int) = ((x7 + 256 * x8 : Nat) : Int) := IntWalk.u16_in _ ⟨by omega, by omega⟩
      have k7' : ¬ c = 7 := by omega
      have k3' : ¬ c = 3 := by omega
      have kc : (7 : Int) ≤ (c : Int) := by omega
      have kc2 : (9 : Int) ≤ (c : Int) := by omega
      have kc3 : (2 : Int) ≤ (c : Int) := by omega
      obtain ⟨y1, hy1⟩ : ∃ y1, y1 = x0 + 256 * x1 := ⟨_, rfl⟩
      obtain ⟨y2, hy2⟩ : ∃ y2, y2 = x3 + 256 * x4 + 65536 * x5 + 16777216 * x6 := ⟨_, rfl⟩
      obtain ⟨y3, hy3⟩ : ∃ y3, y3 = x7 + 256 * x8 := ⟨_, rfl⟩
      rw [← hy1] at hfit m1 N1 ⊢
      rw [← hy2] at hfit m2 N2 ⊢
      rw [← hy3] at hfit m3 N3 ⊢
      clear hy1 hy2 hy3 n1
      simp only [ne_eq, not_true_eq_false, or_self, if_false]
      have NN := Lib.hid (fun (A' : Option Addr) (n' v : Nat) (hp : (A' = some a ∧ n' = 2 ∧ v = y1) ∨ (A' = some ⟨a.block, a.off + 3, none⟩ ∧ n' = 4 ∧ v = y2) ∨ (A' = some ⟨a.block, a.off + 7, none⟩ ∧ n' = 2 ∧ v = y3)) (c' : Nat) u (hu : Below w.heap.size w u) =>
        (show Calls Tryd.prog 39 #[.slice A' n' c'] u fun e w' => e = .returned (.int .u64 (v : Int)) ∧ u = w' by
          rcases hp with ⟨rfl, rfl, rfl⟩ | ⟨rfl, rfl, rfl⟩ | ⟨rfl, rfl, rfl⟩
          · exact N1.out c' u hu
          · exact N2.out c' u hu
          · exact N3.out c' u hu))
      clear N1 N2 N3
      go_enter Tryd.func22, Tryd.ntmps22
      obtain ⟨e, he⟩ : ∃ e : Ev, e = ⟨y1, y2, y3, x10, x11, x12 % 128, decide (128 ≤ x12), x13, x14, x15⟩ := ⟨_, rfl⟩
      rw [← he] at hfit ⊢
      replace he := Lib.hid he
      have KEEP : Hid (∀ V, Below w.heap.size w V → V.cell? a = some (.int .u8 (x0 : Int)) ∧ V.cell? ⟨a.block, a.off + 1, none⟩ = some (.int .u8 (x1 : Int)) ∧ V.cell? ⟨a.block, a.off + 2, none⟩ = some (.int .u8 2) ∧ V.cell? ⟨a.block, a.off + 3, none⟩ = some (.int .u8 (x3 : Int)) ∧ V.cell? ⟨a.block, a.off + 4, none⟩ = some (.int .u8 (x4 : Int)) ∧ V.cell? ⟨a.block, a.off + 5, none⟩ = some (.int .u8 (x5 : Int)) ∧ V.cell? ⟨a.block, a.off + 6, none⟩ = some (.int .u8 (x6 : Int)) ∧ V.cell? ⟨a.block, a.off + 7, none⟩ = some (.int .u8 (x7 : Int)) ∧ V.cell? ⟨a.block, a.off + 8, none⟩ = some (.int .u8 (x8 : Int)) ∧ V.cell? ⟨a.block, a.off + 9, none⟩ = some (.int .u8 4) ∧ V.cell? ⟨a.block, a.off + 10, none⟩ = some (.int .u8 (x10 : Int)) ∧ V.cell? ⟨a.block, a.off + 11, none⟩ = some (.int .u8 (x11 : Int)) ∧ V.cell? ⟨a.block, a.off + 12, none⟩ = some (.int .u8 (x12 : Int)) ∧ V.cell? ⟨a.block, a.off + 13, none⟩ = some (.int .u8 (x13 : Int)) ∧ V.cell? ⟨a.block, a.off + 14, none⟩ = some (.int .u8 (x14 : Int)) ∧ V.cell? ⟨a.block, a.off + 15, none⟩ = some (.int .u8 (x15 : Int))) := Lib.hid fun V hV => ⟨(hV.cell hab).trans k0, (hV.cell (p := ⟨a.block, a.off + 1, none⟩) hab).trans k1, (hV.cell (p := ⟨a.block, a.off + 2, none⟩) hab).trans k2, (hV.cell (p := ⟨a.block, a.off + 3, none⟩) hab).trans k3, (hV.cell (p := ⟨a.block, a.off + 4, none⟩) hab).trans k4, (hV.cell (p := ⟨a.block, a.off + 5, none⟩) hab).trans k5, (hV.cell (p := ⟨a.block, a.off + 6, none⟩) hab).trans k6, (hV.cell (p := ⟨a.block, a.off + 7, none⟩) hab).trans k7, (hV.cell (p := ⟨a.block, a.off + 8, none⟩) hab).trans k8, (hV.cell (p := ⟨a.block, a.off + 9, none⟩) hab).trans k9, (hV.cell (p := ⟨a.block, a.off + 10, none⟩) hab).trans k10, (hV.cell (p := ⟨a.block, a.off + 11, none⟩) hab).trans k11, (hV.cell (p := ⟨a.block, a.off + 12, none⟩) hab).trans k12, (hV.cell (p := ⟨a.block, a.off + 13, none⟩) hab).trans k13, (hV.cell (p := ⟨a.block, a.off + 14, none⟩) hab).trans k14, (hV.cell (p := ⟨a.block, a.off + 15, none⟩) hab).trans k15⟩
      go_wp2_with fail
      have hd0 : Below w.heap.size w (w.alloc (.cells #[.int .u16 0, .int .u32 0, .int .u16 0, .int .u8 0, .int .u8 0, .int .u8 0, .bool false, .int .u8 0, .int .u8 0, .int .u8 0] 26)).drew := hs.drew
      go_region_held3 (fun V => V.cell? a = some (.int .u8 (x0 : Int)) ∧ V.cell? ⟨a.block, a.off + 1, none⟩ = some (.int .u8 (x1 : Int)) ∧ V.cell? ⟨a.block, a.off + 2, none⟩ = some (.int .u8 2) ∧ V.cell? ⟨a.block, a.off + 3, none⟩ = some (.int .u8 (x3 : Int)) ∧ V.cell? ⟨a.block, a.off + 4, none⟩ = some (.int .u8 (x4 : Int)) ∧ V.cell? ⟨a.block, a.off + 5, none⟩ = some (.int .u8 (x5 : Int)) ∧ V.cell? ⟨a.block, a.off + 6, none⟩ = some (.int .u8 (x6 : Int)) ∧ V.cell? ⟨a.block, a.off + 7, none⟩ = some (.int .u8 (x7 : Int)) ∧ V.cell? ⟨a.block, a.off + 8, none⟩ = some (.int .u8 (x8 : Int)) ∧ V.cell? ⟨a.block, a.off + 9, none⟩ = some (.int .u8 4) ∧ V.cell? ⟨a.block, a.off + 10, none⟩ = some (.int .u8 (x10 : Int)) ∧ V.cell? ⟨a.block, a.off + 11, none⟩ = some (.int .u8 (x11 : Int)) ∧ V.cell? ⟨a.block, a.off + 12, none⟩ = some (.int .u8 (x12 : Int)) ∧ V.cell? ⟨a.block, a.off + 13, none⟩ = some (.int .u8 (x13 : Int)) ∧ V.cell? ⟨a.block, a.off + 14, none⟩ = some (.int .u8 (x14 : Int)) ∧ V.cell? ⟨a.block, a.off + 15, none⟩ = some (.int .u8 (x15 : Int))) (first | exact KEEP.out _ hd0 | exact KEEP.out _ (hd0.alloc hd0.size _)) (first
        | (go_at_call 39; go_loud (refine (NN.out _ _ _ (by first | exact .inl ⟨rfl, rfl, rfl⟩ | exact .inr (.inl ⟨rfl, rfl, rfl⟩) | exact .inr (.inr ⟨rfl, rfl, rfl⟩)) _ _ (by first | exact hd0 | exact hd0.alloc hd0.size _)).mono ?_); rintro e w2 ⟨rfl, rfl⟩))
      all_goals
        have g5 : (decide ((128 : Int) ≤ (x12 : Int))) = decide (128 ≤ x12) := by by_cases h : 128 ≤ x12 <;> simp [h] <;> omega
        have g6 : (x12 : Int).tmod 128 = ((x12 % 128 : Nat) : Int) := by rw [Int.tmod_eq_emod_of_nonneg (by omega)]; omega
        rw [g5, g6]
        clear g5 g6
        have hc : (#[.int .u16 (y1 : Int), .int .u32 (y2 : Int), .int .u16 (y3 : Int), .int .u8 (x10 : Int), .int .u8 (x11 : Int), .int .u8 ((x12 % 128 : Nat) : Int), .bool (decide (128 ≤ x12)), .int .u8 (x13 : Int), .int .u8 (x14 : Int), .int .u8 (x15 : Int)] : Array Value) = e.cells := by rw [he.out]; rfl
        rw [hc]
        clear hc KEEP k0 k1 k2 k3 k4 k5 k6 k7 k8 k9 k10 k11 k12 k13 k14 k15 hd0
        have hb2 : Below w.heap.size w ((w.alloc (.cells #[.int .u16 0, .int .u32 0, .int .u16 0, .int .u8 0, .int .u8 0, .int .u8 0, .bool false, .int .u8 0, .int .u8 0, .int .u8 0] 26)).alloc (.cells e.cells 26)).drew := (hs.alloc hs.size _).drew
        have B2 : Box ((w.alloc (.cells #[.int .u16 0, .int .u32 0, .int .u16 0, .int .u8 0, .int .u8 0, .int .u8 0, .bool false, .int .u8 0, .int .u8 0, .int .u8 0] 26)).alloc (.cells e.cells 26)).drew w.heap.size Ev.none := (Box.new w Ev.none).alloc _
        have B4 : Box ((w.alloc (.cells #[.int .u16 0, .int .u32 0, .int .u16 0, .int .u8 0, .int .u8 0, .int .u8 0, .bool false, .int .u8 0, .int .u8 0, .int .u8 0] 26)).alloc (.cells e.cells 26)).drew (w.heap.size + 1) e := by have := Box.new (w.alloc (.cells #[.int .u16 0, .int .u32 0, .int .u16 0, .int .u8 0, .int .u8 0, .int .u8 0, .bool false, .int .u8 0, .int .u8 0, .int .u8 0] 26)) e; rw [World.size_alloc] at this; exact this
        have hz2 : w.heap.size + 1 < ((w.alloc (.cells #[.int .u16 0, .int .u32 0, .int .u16 0, .int .u8 0, .int .u8 0, .int .u8 0, .bool false, .int .u8 0, .int .u8 0, .int .u8 0] 26)).alloc (.cells e.cells 26)).drew.heap.size := B4.lt
        generalize ((w.alloc (.cells #[.int .u16 0, .int .u32 0, .int .u16 0, .int .u8 0, .int .u8 0, .int .u8 0, .bool false, .int .u8 0, .int .u8 0, .int .u8 0] 26)).alloc (.cells e.cells 26)).drew = w2 at *
        have hV := Lib.hid (fun u => valid_r e u)
        replace B4 := Lib.hid B4
        go_wp2_with (refine wpList_load_box rfl (.tmp 4) rfl (w.heap.size + 1) e rfl B4.out ?_)
        refine (hV.out _).mono ?_
        rintro x w3 ⟨rfl, hb3⟩
        have B2' := B2.below hb3 (by omega)
        have B4' := B4.out.below hb3 (by omega)
        have hb3' := hb2.trans (hb3.mono hb2.size)
        replace B4' := Lib.hid B4'
        replace B2' := Lib.hid B2'
        replace hb3' := Lib.hid hb3'
        clear B2 B4 hb2 hb3
        cases hv : vld e
        · go_wp2_with (refine wpList_store_box rfl (.tmp 2) (.tmp 65) rfl w.heap.size Ev.none Ev.none rfl rfl B2'.out ?_; intro w5 hB5 hg5)
          all_goals exact out_box2 (r := w.heap.size) (e := Ev.none) Tryd.results22 rfl rfl rfl hB5 ⟨rfl, hb3'.out.grown hg5 hb3'.out.size (fun k hk => by injection hk; omega)⟩
        · go_wp2_with (first
            | (refine wpList_load_box rfl (.tmp 4) rfl (w.heap.size + 1) e rfl B4'.out ?_)
            | (refine wpList_store_box rfl (.tmp 2) (.tmp 66) rfl w.heap.size e Ev.none rfl rfl B2'.out ?_; intro w5 hB5 hg5))
          all_goals exact out_box2 (r := w.heap.size) (e := e) Tryd.results22 rfl rfl rfl hB5 ⟨rfl, hb3'.out.grown hg5 hb3'.out.size (fun k hk => by injection hk; omega)⟩
    · rw [if_pos (.inr h9)]
      clear hfit
      rcases (show x9 < 4 ∨ 4 < x9 by omega) with hh | hh
      · go_enter Tryd.func22, Tryd.ntmps22
        go_wp2_with fail
        all_goals exact out_box2 (r := w.heap.size) (e := Ev.none) Tryd.results22 rfl rfl rfl (Box.new w Ev.none) ⟨rfl, hs⟩
      · go_enter Tryd.func22, Tryd.ntmps22
        go_wp2_with fail
        all_goals exact out_box2 (r := w.heap.size) (e := Ev.none) Tryd.results22 rfl rfl rfl (Box.new w Ev.none) ⟨rfl, hs⟩
  · rw [if_pos (.inl h2)]
    clear hfit
    rcases (show x2 < 2 ∨ 2 < x2 by omega) with hh | hh
    · go_enter Tryd.func22, Tryd.ntmps22
      go_wp2_with fail
      exact out_box2 (r := w.heap.size) (e := Ev.none) Tryd.results22 rfl rfl rfl (Box.new w Ev.none) ⟨rfl, hs⟩
    · go_enter Tryd.func22, Tryd.ntmps22
      go_wp2_with fail
      exact out_box2 (r := w.heap.size) (e := Ev.none) Tryd.results22 rfl rfl rfl (Box.new w Ev.none) ⟨rfl, hs⟩
end Go.Proofs.YtgbnigbjnbcfeaaDoor.V7
