/- Walks: the program's conversions: reading a table. -/
import Derived.Test.YtafoaonkjcfbaaaK57
import Derived.Test.YtafoaonkjcfbaaaK21
namespace Go.Proofs.Ytafoaonkjcfbaaa.P5
open Go.RowKit Go.Proofs.Ytafoaonkjcfbaaa.Mem Go.Proofs.Ytafoaonkjcfbaaa.M3p Go.Proofs.Ytafoaonkjcfbaaa.C4p Go.Proofs.Ytafoaonkjcfbaaa.C4l Go.Proofs.Ytafoaonkjcfbaaa.C4v Go.Proofs.Ytafoaonkjcfbaaa.P4 Go.Proofs.Ytafoaonkjcfbaaa.D5
set_option maxRecDepth 100000
set_option maxHeartbeats 1000000

theorem pts_snoc : ∀ (j : Nat) (l : List UInt8), pts l (j + 1) = pts l j ++ [(l.getD (7 * j) 0, sgn (piece l (7 * j + 1) 6))]
  | 0, l => by simp [pts]
  | j + 1, l => by
    have := pts_snoc j (l.drop 7)
    have e1 : (l.drop 7).getD (7 * j) 0 = l.getD (7 * (j + 1)) 0 := by
      rw [List.getD_eq_getElem?_getD, List.getD_eq_getElem?_getD, List.getElem?_drop, show 7 + 7 * j = 7 * (j + 1) by omega]
    have e2 : piece (l.drop 7) (7 * j + 1) 6 = piece l (7 * (j + 1) + 1) 6 := by
      unfold piece
      rw [List.drop_drop, show 7 + (7 * j + 1) = 7 * (j + 1) + 1 by omega]
    rw [pts, this, e1, e2, pts, List.cons_append]
theorem pts_len : ∀ (j : Nat) (l : List UInt8), (pts l j).length = j
  | 0, _ => rfl
  | j + 1, l => by rw [pts, List.length_cons, pts_len]
/-- What reading a table leaves. -/
def TabRead (w : World) (l : List UInt8) (e : Ending) (w' : World) : Prop := ∃ A n c, e = .returned (.agg #[.int .i64 5, .bool (decide (128 ≤ u8 l 0)), .int .i64 0, .int .i64 0, .int .i64 0, .int .i64 0, .slice A n c]) ∧
  POwn w.heap.size w' (.slice A n c) (pts (l.drop 2) (u8 l 1)) ∧ Below w.heap.size w w'
theorem read_tab (a : Addr) (n c : Nat) (l : List UInt8) (w : World) (hsl : Sl w (some a) n c l) (hf : u8 l 0 % 128 = 5) (hk2 : u8 l 1 ≤ 12) (hn : n = 2 + 7 * u8 l 1) (hk1 : 2 ≤ u8 l 1) :
    Calls Try.prog 160 #[.slice (some a) n c] w (TabRead w l) := by
  have hln := hsl.len
  have hrow := hsl.row
  have hcp := hsl.cap
  have hmx := hsl.max
  unfold maxLen at hmx
  have hl0 : 0 < l.length := by omega
  obtain ⟨a', ha', hab, hc0⟩ := row_at hrow hl0
  injection ha' with ha'
  subst ha'
  have hc0' : w.cell? a = some (.int .u8 (l[0].toNat : Int)) := hc0
  have hx8 := l[0].toNat_lt
  unfold TabRead
  rw [u8_at hl0] at hf ⊢
  obtain ⟨x, hx⟩ : ∃ x, l[0].toNat = x := ⟨_, rfl⟩
  rw [hx] at hc0' hx8 hf ⊢
  have han := andnot_128 x hx8
  have hsg := and_128' x hx8
  rw [hf] at han
  obtain ⟨S, hS⟩ : ∃ S, decide (128 ≤ x) = S := ⟨_, rfl⟩
  rw [hS] at hsg ⊢
  obtain ⟨k, hk⟩ : ∃ k, k = u8 l 1 := ⟨_, rfl⟩
  rw [← hk] at hn hk1 hk2 ⊢
  have HLN := Lib.hid hln
  have HN := Lib.hid hn
  have b1 : (2 : Int) ≤ (n : Int) := by omega
  have b2 : (n : Int) ≤ (c : Int) := by omega
  have b3 : ¬ (c = 2) := by omega
  clear hln hc0 hx hf hS hk hn hsl
  go_enter Try.func160, Try.ntmps160
  go_wp2_with fail
  go_region
  go_wp2_with fail
  have hb0 : Below w.heap.size w (((w.alloc (.cells #[.int .i64 0, .bool false, .int .i64 0, .int .i64 0, .int .i64 0, .int .i64 0, .slice none 0 0] 54)).alloc (.cells #[.int .i64 5, .bool S, .int .i64 0, .int .i64 0, .int .i64 0, .int .i64 0, .slice none 0 0] 54)).drew) := by
    have h := ((Below.refl w.heap.size w).alloc (Nat.le_refl _) (.cells #[.int .i64 0, .bool false, .int .i64 0, .int .i64 0, .int .i64 0, .int .i64 0, .slice none 0 0] 54)).alloc (by simp) (.cells #[.int .i64 5, .bool S, .int .i64 0, .int .i64 0, .int .i64 0, .int .i64 0, .slice none 0 0] 54)
    exact ⟨h.os, h.tape, h.output, h.size, h.block⟩
  have hhr : (((w.alloc (.cells #[.int .i64 0, .bool false, .int .i64 0, .int .i64 0, .int .i64 0, .int .i64 0, .slice none 0 0] 54)).alloc (.cells #[.int .i64 5, .bool S, .int .i64 0, .int .i64 0, .int .i64 0, .int .i64 0, .slice none 0 0] 54)).drew).heap[w.heap.size]? = some (.cells #[.int .i64 0, .bool false, .int .i64 0, .int .i64 0, .int .i64 0, .int .i64 0, .slice none 0 0] 54 (0, 0)) := (Below.heap_alloc _ _ _ (by rw [World.size_alloc]; omega)).trans (heap_alloc_new w _)
  have hhf : (((w.alloc (.cells #[.int .i64 0, .bool false, .int .i64 0, .int .i64 0, .int .i64 0, .int .i64 0, .slice none 0 0] 54)).alloc (.cells #[.int .i64 5, .bool S, .int .i64 0, .int .i64 0, .int .i64 0, .int .i64 0, .slice none 0 0] 54)).drew).heap[w.heap.size + 1]? = some (.cells #[.int .i64 5, .bool S, .int .i64 0, .int .i64 0, .int .i64 0, .int .i64 0, .slice none 0 0] 54 (0, 0)) := by
    have e := heap_alloc_new (w.alloc (.cells #[.int .i64 0, .bool false, .int .i64 0, .int .i64 0, .int .i64 0, .int .i64 0, .slice none 0 0] 54)) (.cells #[.int .i64 5, .bool S, .int .i64 0, .int .i64 0, .int .i64 0, .int .i64 0, .slice none 0 0] 54)
    rw [World.size_alloc] at e
    exact e
  generalize ((w.alloc (.cells #[.int .i64 0, .bool false, .int .i64 0, .int .i64 0, .int .i64 0, .int .i64 0, .slice none 0 0] 54)).alloc (.cells #[.int .i64 5, .bool S, .int .i64 0, .int .i64 0, .int .i64 0, .int .i64 0, .slice none 0 0] 54)).drew = W0 at *
  obtain ⟨r, hr⟩ : ∃ r, r = w.heap.size := ⟨_, rfl⟩
  rw [← hr] at hhr hhf ⊢
  have hrw : w.heap.size ≤ r := Nat.le_of_eq hr.symm
  have hrw2 : r ≤ w.heap.size := Nat.le_of_eq hr
  clear hr hc0' han hsg
  go_loopw [0] (fun u wr => ∃ (j m : Nat) (A : Option Addr) (c' : Nat) (v : Value), j ≤ k ∧ m = 7 * (k - j) ∧ u = .slice A m c' ∧ m ≤ c' ∧ (j < k → A = some ⟨a.block, a.off + 2 + 7 * j, none⟩) ∧
      wr.heap[r]? = some (.cells #[.int .i64 0, .bool false, .int .i64 0, .int .i64 0, .int .i64 0, .int .i64 0, .slice none 0 0] 54 (0, 0)) ∧ wr.heap[r + 1]? = some (.cells #[.int .i64 5, .bool S, .int .i64 0, .int .i64 0, .int .i64 0, .int .i64 0, v] 54 (0, 0)) ∧ POwn (r + 2) wr v (pts (l.drop 2) j) ∧ Below w.heap.size w wr) (fun u _ => match u with | .slice _ m _ => m | _ => 0)
  case atStart => exact ⟨0, n - 2, some ⟨a.block, a.off + 2, none⟩, c - 2, .slice none 0 0, Nat.zero_le _, by have := HN.out; omega, rfl, by have := HN.out; omega, fun _ => rfl, hhr, hhf, POwn.nil, hb0⟩
  case round =>
    clear hhr hhf hb0 b1 b2 b3
    obtain ⟨j, m, A, c', v, hj, hm, rfl, hc', hA, hhr, hhf, hown, hb⟩ := hrel
    by_cases hlt : j < k
    · obtain rfl := hA hlt
      have hm7 : 7 ≤ m := by omega
      have HM := Lib.hid hm; clear hm
      have hyl : 2 + 7 * j < l.length := by have := HLN.out; have := HN.out; omega
      obtain ⟨a', ha', _, hcy⟩ := row_at hrow hyl
      injection ha' with ha'
      subst ha'
      have hcy1 : w.cell? ⟨a.block, a.off + 2 + 7 * j, none⟩ = some (.int .u8 (l[2 + 7 * j].toNat : Int)) := by
        have he : a.add (2 + 7 * j) = ⟨a.block, a.off + 2 + 7 * j, none⟩ := by unfold Addr.add; rw [if_neg (by omega), Nat.add_assoc]
        rw [he] at hcy
        exact hcy
      have hcy2 := (hb.cell (p := ⟨a.block, a.off + 2 + 7 * j, none⟩) hab).trans hcy1
      have hps := pts_snoc j (l.drop 2)
      have hgd : (l.drop 2).getD (7 * j) 0 = l[2 + 7 * j] := by
        rw [List.getD_eq_getElem?_getD, List.getElem?_drop, List.getElem?_eq_getElem hyl]; rfl
      have hpc : piece (l.drop 2) (7 * j + 1) 6 = piece l (3 + 7 * j) 6 := by unfold piece; rw [List.drop_drop, show 2 + (7 * j + 1) = 3 + 7 * j by omega]
      rw [hgd, hpc] at hps
      have hrk := (piece_row hrow (3 + 7 * j) 6 (by have := HLN.out; have := HN.out; omega)).below hb
      have he3 : a.add (3 + 7 * j) = ⟨a.block, a.off + 2 + 7 * j + 1, none⟩ := by unfold Addr.add; rw [if_neg (by omega)]; congr 1; omega
      rw [he3] at hrk
      have hnq := fun c2 => number_q (some ⟨a.block, a.off + 2 + 7 * j + 1, none⟩) 6 c2 (piece l (3 + 7 * j) 6) w.heap.size wr.drew hrk (by simp [piece]; have := HLN.out; have := HN.out; omega) (by omega) (by omega)
      generalize l[2 + 7 * j] = y at *
      generalize sgn (piece l (3 + 7 * j) 6) = V at *
      have HPS := Lib.hid hps; have HNQ := Lib.hid hnq
      clear hps hgd hpc hrk he3 hnq hcy hcy1
      have hpl := pts_len j (l.drop 2)
      have hpl2 : (pts (l.drop 2) j).length ≤ 12 := by omega
      have hlf := lt_of_some hhf
      have hlr := lt_of_some hhr
      have hob : ∀ b, Value.ownBlock v = some b → r + 2 ≤ b := fun b hb => (World.ownsRow.lt hown b hb).1
      have k0 : wr.cell? ⟨r + 1, 6, none⟩ = some v := (cell_of_row wr (r + 1) 6 _ _ _ hhf).trans rfl
      have k0d : wr.drew.cell? ⟨r + 1, 6, none⟩ = some v := k0
      have hownd : POwn (r + 2) wr.drew v (pts (l.drop 2) j) := World.ownsRow.drew hown
      have HFD := Lib.hid hhf; have HRD := Lib.hid hhr
      generalize pts (l.drop 2) j = p at *
      clear hpl hhf hhr hown
      have b1 : (0 : Int) < (m : Int) := by omega
      have b4 : (1 : Int) ≤ (c' : Int) := by omega
      have b5 : (7 : Int) ≤ (c' : Int) := by omega
      have b6 : ¬ (c' = 1) := by omega
      have b7 : (7 : Int) ≤ (m : Int) := by omega
      go_wp2_with fail
      go_region_law (first
        | (go_simp; go_at_call 178; (with_reducible refine (HNQ.out _).mono ?_); rintro e w' ⟨rfl, rfl⟩)
        | (go_loud (refine step_append_p (wr.drew.alloc (.cells #[.int .u8 (y.toNat : Int), .int .i64 V] 150)) rfl (.tmp 26) (.tmp 34) rfl (r + 2) v p rfl (World.ownsRow.alloc hownd _) y V ⟨wr.drew.heap.size, 0, none⟩ 1 rfl (cell_of_row _ wr.drew.heap.size 0 _ _ _ (heap_alloc_new wr.drew _)) (cell_of_row _ wr.drew.heap.size 1 _ _ _ (heap_alloc_new wr.drew _)) (by omega) (by rw [World.size_alloc]; show r + 2 ≤ wr.heap.size + 1; omega) ?_); intro v9 w9 hown9 hg9; obtain ⟨A9, n9, c9, rfl, -⟩ := hown9.sl; have hF9 := (hg9.block (r + 1) (by rw [World.size_alloc]; show r + 1 < wr.heap.size + 1; omega) (fun e => (by have := hob _ e.symm; omega))).trans (((World.grownBy_alloc wr.drew (.cells #[.int .u8 (y.toNat : Int), .int .i64 V] 150) (none : Option Nat)).block (r + 1) hlf (by simp)).trans HFD.out); have hR9 := (hg9.block r (by rw [World.size_alloc]; show r < wr.heap.size + 1; omega) (fun e => (by have := hob _ e.symm; omega))).trans (((World.grownBy_alloc wr.drew (.cells #[.int .u8 (y.toNat : Int), .int .i64 V] 150) (none : Option Nat)).block r hlr (by simp)).trans HRD.out); have k9 : w9.cell? ⟨r + 1, 6, none⟩ = some v := (cell_of_row w9 (r + 1) 6 _ _ _ hF9).trans rfl; have f9 := frozen_of_row w9 (r + 1) 6 _ _ hF9))
      all_goals
        have hs5 := heap_setCell_same w9 (r + 1) 6 _ _ (.slice A9 n9 c9) hF9
        rw [set6] at hs5
        have hr5 := (heap_setCell_other w9 ⟨r + 1, 6, none⟩ r (.slice A9 n9 c9) (by show r ≠ r + 1; omega)).trans hR9
        have ho5 : POwn (r + 2) (w9.setCell ⟨r + 1, 6, none⟩ (.slice A9 n9 c9)) (.slice A9 n9 c9) (pts (l.drop 2) (j + 1)) := by rw [HPS.out]; exact pown_kept hown9 (set_grown w9 (r + 1) 6 _) (by omega)
        have hbd : Below w.heap.size w wr.drew := ⟨hb.os, hb.tape, hb.output, hb.size, hb.block⟩
        have hb5 := ((hbd.alloc hb.size (.cells #[.int .u8 (y.toNat : Int), .int .i64 V] 150)).grown hg9 (by rw [World.size_alloc]; show _ ≤ wr.heap.size + 1; omega) (fun q hq => by have := hob q hq; omega)).setCell (p := ⟨r + 1, 6, none⟩) (by show _ ≤ r + 1; omega) (.slice A9 n9 c9)
        generalize w9.setCell ⟨r + 1, 6, none⟩ (.slice A9 n9 c9) = wa at *
        clear k9 f9 hF9 hR9 hg9 hown9 hbd HFD HRD
        by_cases h7 : c' = 7
        · have HH7 := Lib.hid h7
          subst h7
          have hm0 : m = 7 := by omega
          subst hm0
          go_wp2_with fail
          exact ⟨⟨j + 1, 0, _, 0, _, by omega, by have := HM.out; omega, rfl, Nat.le_refl _, fun hj2 => by have := HM.out; omega, hr5, hs5, ho5, hb5⟩, by show 0 < 7; omega⟩
        · go_wp2_with fail
          exact ⟨⟨j + 1, m - 7, _, c' - 7, _, by omega, by have := HM.out; omega, rfl, by omega, fun _ => by rw [show a.off + 2 + 7 * (j + 1) = a.off + 2 + 7 * j + 7 by omega], hr5, hs5, ho5, hb5⟩, by show m - 7 < m; omega⟩
    · have hjk : j = k := by omega
      have hm0 : m = 0 := by omega
      subst hm0
      obtain ⟨A9, n9, c9, rfl, hps⟩ := hown.sl
      have cF : ∀ i v', (#[.int .i64 5, .bool S, .int .i64 0, .int .i64 0, .int .i64 0, .int .i64 0, .slice A9 n9 c9] : Array Value)[i]? = some v' → wr.cell? ⟨r + 1, i, none⟩ = some v' := fun i v h => (cell_of_row wr (r + 1) i _ _ _ hhf).trans h
      have cR : ∀ i v', (#[.int .i64 0, .bool false, .int .i64 0, .int .i64 0, .int .i64 0, .int .i64 0, .slice none 0 0] : Array Value)[i]? = some v' → wr.cell? ⟨r, i, none⟩ = some v' := fun i v h => (cell_of_row wr r i _ _ _ hhr).trans h
      have f0 := cF 0 _ rfl; have f1 := cF 1 _ rfl; have f2 := cF 2 _ rfl; have f3 := cF 3 _ rfl; have f4 := cF 4 _ rfl; have f5 := cF 5 _ rfl; have f6 := cF 6 _ rfl
      have r0 := cR 0 _ rfl; have r1 := cR 1 _ rfl; have r2 := cR 2 _ rfl; have r3 := cR 3 _ rfl; have r4 := cR 4 _ rfl; have r5 := cR 5 _ rfl; have r6 := cR 6 _ rfl
      have zR := fun i => frozen_of_row wr r i _ _ hhr
      have q0 := zR 0; have q1 := zR 1; have q2 := zR 2; have q3 := zR 3; have q4 := zR 4; have q5 := zR 5; have q6 := zR 6
      have HJ := Lib.hid hjk; have HPS := Lib.hid hps; have HOWN := Lib.hid hown
      have hb7 := ((((((hb.setCell (p := ⟨r, 0, none⟩) hrw (.int .i64 5)).setCell (p := ⟨r, 1, none⟩) hrw (.bool S)).setCell (p := ⟨r, 2, none⟩) hrw (.int .i64 0)).setCell (p := ⟨r, 3, none⟩) hrw (.int .i64 0)).setCell (p := ⟨r, 4, none⟩) hrw (.int .i64 0)).setCell (p := ⟨r, 5, none⟩) hrw (.int .i64 0)).setCell (p := ⟨r, 6, none⟩) hrw (.slice A9 n9 c9)
      have HB7 := Lib.hid hb7
      have ho7 := pown_out7 hown (r := r) (by omega) (.int .i64 5) (.bool S) (.int .i64 0) (.int .i64 0) (.int .i64 0) (.int .i64 0) (.slice A9 n9 c9)
      have HO7 := Lib.hid ho7
      clear cF cR zR hhr hhf hjk hps hown hb hb7 ho7 hm hA hc'
      go_wp2_with fail
      refine bodyPost_ret (v := .agg #[.int .i64 5, .bool S, .int .i64 0, .int .i64 0, .int .i64 0, .int .i64 0, .slice A9 n9 c9]) ?_ rfl ⟨A9, n9, c9, rfl, HJ.out ▸ pown_base HO7.out (by omega), HB7.out⟩
      simp [results, Try.results160, go_sem, r0, r1, r2, r3, r4, r5, r6]
end Go.Proofs.Ytafoaonkjcfbaaa.P5
