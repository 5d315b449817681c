/- Walks: the reference of conversions: Decode of a table; Decode whole. -/
import Derived.Test.YtfnocgkhhbpiiaaC5i
namespace Go.Proofs.Ytfnocgkhhbpiiaa.C5h
open Go.RowKit Go.Proofs.Ytfnocgkhhbpiiaa.Mem Go.Proofs.Ytfnocgkhhbpiiaa.M3p Go.Proofs.Ytfnocgkhhbpiiaa.C4p Go.Proofs.Ytfnocgkhhbpiiaa.C4l Go.Proofs.Ytfnocgkhhbpiiaa.C4v Go.Proofs.Ytfnocgkhhbpiiaa.P4 Go.Proofs.Ytfnocgkhhbpiiaa.P5 Go.Proofs.Ytfnocgkhhbpiiaa.D5
set_option maxRecDepth 100000
set_option maxHeartbeats 2000000

theorem dec_tab (a : Addr) (n c : Nat) (l : List UInt8) (w : World) (hsl : Sl w (some a) n c l) (hf : u8 l 0 % 128 = 5) (hk1 : 2 ≤ u8 l 1) (hk2 : u8 l 1 ≤ 12) (hn1 : 2 + 7 * u8 l 1 ≤ n) (hn : n ≤ 1000000) :
    Calls Try.prog 14 #[.slice (some a) n c] w (Dcd w l) := by
  have hln := hsl.len
  have hcp := hsl.cap
  have hrow := hsl.row
  have hl0 : 0 < l.length := by omega
  have hl1 : 1 < l.length := by omega
  have hd : dec l = dfin ⟨5, decide (128 ≤ u8 l 0), 0, 0, 0, 0, pts (l.drop 2) (u8 l 1)⟩ (2 + 7 * u8 l 1) := by
    unfold dec
    rw [if_neg (by intro e; rw [e] at hl0; simp at hl0), if_neg (by omega), if_pos hf, if_neg (by omega), if_neg (by omega), if_neg (by omega)]
  obtain ⟨a', ha', hab, hc0⟩ := row_at hrow hl0
  injection ha' with ha'
  subst ha'
  have hc0' : w.cell? a = some (.int .u8 (l[0].toNat : Int)) := hc0
  obtain ⟨a2, e2, -, hc1⟩ := row_at hrow hl1
  injection e2 with e2
  subst e2
  have hc1' : w.cell? ⟨a.block, a.off + 1, none⟩ = some (.int .u8 (l[1].toNat : Int)) := hc1
  have hx8 := l[0].toNat_lt
  rw [u8_at hl0] at hf hd
  rw [u8_at hl1] at hk1 hk2 hn1 hd
  obtain ⟨x, hx⟩ : ∃ x, l[0].toNat = x := ⟨_, rfl⟩
  obtain ⟨k, hk⟩ : ∃ k, l[1].toNat = k := ⟨_, rfl⟩
  rw [hx] at hc0' hx8 hf hd
  rw [hk] at hc1' hk1 hk2 hn1 hd
  have P1 : ∀ o, (w.alloc o).cell? a = some (.int .u8 (x : Int)) := fun o => (World.cell?_alloc_lt w o a hab).trans hc0'
  have P2 : ∀ o o', ((w.alloc o).alloc o').cell? a = some (.int .u8 (x : Int)) := fun o o' => (World.cell?_alloc_lt (w.alloc o) o' a (by rw [World.size_alloc]; omega)).trans (P1 o)
  have P3 : ∀ o o' o'', (((w.alloc o).alloc o').alloc o'').cell? a = some (.int .u8 (x : Int)) := fun o o' o'' => (World.cell?_alloc_lt ((w.alloc o).alloc o') o'' a (by rw [World.size_alloc, World.size_alloc]; omega)).trans (P2 o o')
  have hmod : (x : Int) % 128 = 5 := by omega
  obtain ⟨S, hS⟩ : ∃ S, decide (128 ≤ x) = S := ⟨_, rfl⟩
  have hS' : decide (128 ≤ (x : Int)) = S := by rw [← hS]; exact decide_eq_decide.2 (by omega)
  rw [hS] at hd
  have HD := Lib.hid hd
  have HQ := Lib.hid (boxes w)
  have HLN := Lib.hid hln
  have HCP := Lib.hid hcp
  have HN1 := Lib.hid hn1
  have HN := Lib.hid hn
  have hne : ((n : Int) == 0) = false := by rw [beq_eq_false_iff_ne]; omega
  have h0n : 0 < n := by omega
  have h1n : 1 < n := by omega
  have g3 : decide ((n : Int) < 2) = false := by simp; omega
  have g4 : decide ((k : Int) < 2) = false := by simp; omega
  have g5 : decide (12 < (k : Int)) = false := by simp; omega
  have g6 : decide ((n : Int) < 2 + 7 * (k : Int)) = false := by simp; omega
  have R3 : ∀ o o' o'', (((w.alloc o).alloc o').alloc o'').cell? ⟨a.block, a.off + 1, none⟩ = some (.int .u8 (k : Int)) := fun o o' o'' => (World.cell?_alloc_lt ((w.alloc o).alloc o') o'' ⟨a.block, a.off + 1, none⟩ (by rw [World.size_alloc, World.size_alloc]; show a.block < _; omega)).trans ((World.cell?_alloc_lt (w.alloc o) o' ⟨a.block, a.off + 1, none⟩ (by rw [World.size_alloc]; show a.block < _; omega)).trans ((World.cell?_alloc_lt w o ⟨a.block, a.off + 1, none⟩ hab).trans hc1'))
  have HR1 := Lib.hid hc1'
  clear hd hsl hln hcp hn1 hn hc0 hc1 hx hk hl0 hl1 hS hf hc1'
  go_enter Try.func14, Try.ntmps14
  go_wp2_with fail
  go_region
  go_wp2_with fail
  obtain ⟨hhr, hh5, hh6, hb0⟩ := HQ.out #[.int .i64 5, .bool S, .int .i64 0, .int .i64 0, .int .i64 0, .int .i64 0, .slice none 0 0]
  generalize hW : (((w.alloc (.cells #[.int .i64 0, .bool false, .int .i64 0, .int .i64 0, .int .i64 0, .int .i64 0, .slice none 0 0] 24)).alloc (.cells #[.int .i64 0, .bool false, .int .i64 0, .int .i64 0, .int .i64 0, .int .i64 0, .slice none 0 0] 24)).alloc (.cells #[.int .i64 5, .bool S, .int .i64 0, .int .i64 0, .int .i64 0, .int .i64 0, .slice none 0 0] 24)).drew = W0 at *
  clear hW P1 P2 P3 R3 hc0' HQ hmod hS' g3 g4 g5 g6 hne
  obtain ⟨r, hr⟩ : ∃ r, r = w.heap.size := ⟨_, rfl⟩
  rw [← hr] at hhr hh5 hh6 ⊢
  have hrw : w.heap.size ≤ r := Nat.le_of_eq hr.symm
  have hrw2 : r ≤ w.heap.size := Nat.le_of_eq hr
  clear hr
  go_loopw [8] (fun u wr => ∃ (j : Nat) (v : Value), j ≤ k ∧ u = .int .i64 j ∧ wr.heap[r]? = some (.cells Z7 24 (0, 0)) ∧ wr.heap[r + 1]? = some (.cells Z7 24 (0, 0)) ∧
      wr.heap[r + 1 + 1]? = some (.cells #[.int .i64 5, .bool S, .int .i64 0, .int .i64 0, .int .i64 0, .int .i64 0, v] 24 (0, 0)) ∧ POwn (r + 3) wr v (pts (l.drop 2) j) ∧ Below w.heap.size w wr) (fun u _ => k - (intOf u).toNat)
  case atStart => exact ⟨0, .slice none 0 0, Nat.zero_le _, rfl, hhr, hh5, hh6, POwn.nil, hb0⟩
  case round =>
    clear hhr hh5 hh6 hb0
    obtain ⟨j, v, hj, rfl, hhr, hh5, hh6, hown, hb⟩ := hrel
    have hck := (hb.cell (p := ⟨a.block, a.off + 1, none⟩) hab).trans HR1.out
    by_cases hlt : j < k
    · have hyl : 2 + 7 * j < l.length := by have := HLN.out; have := HN1.out; omega
      obtain ⟨a', ha', _, hcy⟩ := row_at hrow hyl
      injection ha' with ha'
      subst ha'
      have hcy2 : wr.cell? (a.add (2 + 7 * j)) = some (.int .u8 (l[2 + 7 * j].toNat : Int)) := (hb.cell (p := a.add (2 + 7 * j)) (by unfold Addr.add; split <;> exact hab)).trans hcy
      have hps := pts_snoc j (l.drop 2)
      have hgd : (l.drop 2).getD (7 * j) 0 = l[2 + 7 * j] := by
        rw [List.getD_eq_getElem?_getD, List.getElem?_drop, List.getElem?_eq_getElem hyl]; rfl
      have hpc : piece (l.drop 2) (7 * j + 1) 6 = piece l (3 + 7 * j) 6 := by unfold piece; rw [List.drop_drop, show 2 + (7 * j + 1) = 3 + 7 * j by omega]
      rw [hgd, hpc] at hps
      have hrk := (piece_row hrow (3 + 7 * j) 6 (by have := HLN.out; have := HN1.out; omega)).below hb
      have he3 : a.add (3 + 7 * j) = ⟨a.block, a.off + (2 + 7 * j + 1), none⟩ := by unfold Addr.add; rw [if_neg (by omega)]; congr 1; omega
      rw [he3] at hrk
      have hnq := fun c2 => signed_6 (some ⟨a.block, a.off + (2 + 7 * j + 1), none⟩) c2 (piece l (3 + 7 * j) 6) w.heap.size wr.drew hrk (by simp [piece]; have := HLN.out; have := HN1.out; omega)
      generalize l[2 + 7 * j] = y at *
      generalize sgn (piece l (3 + 7 * j) 6) = V at *
      have HPS := Lib.hid hps; have HNQ := Lib.hid hnq
      clear hps hgd hpc hrk he3 hnq hcy hyl
      obtain ⟨p, hp⟩ : ∃ p, p = 2 + 7 * j := ⟨_, rfl⟩
      rw [← hp] at HNQ hcy2
      have hpi : (2 : Int) + 7 * (j : Int) = (p : Int) := by omega
      have hpl := pts_len j (l.drop 2)
      have hpl2 : (pts (l.drop 2) j).length ≤ 12 := by omega
      have hpn : p + 7 ≤ n := by have := HN1.out; omega
      have hpc : p + 7 ≤ c := by have := HCP.out; omega
      have hp100 : p ≤ 100 := by omega
      have HP := Lib.hid hp
      clear hp
      have hlf := lt_of_some hh6
      have hlr := lt_of_some hhr
      have hl5 := lt_of_some hh5
      have hob : ∀ b, Value.ownBlock v = some b → r + 3 ≤ b := fun b hb => (World.ownsRow.lt hown b hb).1
      have k0 : wr.cell? ⟨r + 1 + 1, 6, none⟩ = some v := (cell_of_row wr (r + 1 + 1) 6 _ _ _ hh6).trans rfl
      have k0d : wr.drew.cell? ⟨r + 1 + 1, 6, none⟩ = some v := k0
      have hownd : POwn (r + 3) wr.drew v (pts (l.drop 2) j) := World.ownsRow.drew hown
      have HFD := Lib.hid hh6; have HRD := Lib.hid hhr; have H5D := Lib.hid hh5
      generalize pts (l.drop 2) j = pl at *
      clear hpl hhr hh5 hh6 hown
      have b0 : decide ((j : Int) < (k : Int)) = true := by simp; exact hlt
      have b1 : (p : Int) < (n : Int) := by omega
      have b2 : (0 : Int) ≤ (p : Int) := by omega
      have b3 : (p : Int) + 7 ≤ (c : Int) := by omega
      have b4 : (p : Int) + 1 ≤ (p : Int) + 7 := by omega
      have b5 : (p : Int) + 7 ≤ (n : Int) := by omega
      have i1 : IntKind.i64.wrap ((p : Int) + 1) = (p : Int) + 1 := IntWalk.i64_in _ (by omega)
      have i7 : IntKind.i64.wrap ((p : Int) + 7) = (p : Int) + 7 := IntWalk.i64_in _ (by omega)
      have z1 : (0 : Int) ≤ (p : Int) + 7 := by omega
      have z2 : (0 : Int) ≤ (p : Int) + 1 := by omega
      have z3 : (p : Int) + 1 ≤ max ((p : Int) + 7) 0 := by omega
      have z4 : ¬ (c = p + 1) := by omega
      have z5 : ((p : Int) + 7).toNat - (p + 1) = 6 := by omega
      go_wp2_with fail
      go_region_law (first
        | (go_simp; go_at_call 30; (with_reducible refine (HNQ.out _).mono ?_); rintro e w' ⟨rfl, rfl⟩)
        | (go_loud (refine step_append_p (wr.drew.alloc (.cells #[.int .u8 (y.toNat : Int), .int .i64 V] 46)) rfl (.tmp 78) (.tmp 91) rfl (r + 3) v pl rfl (World.ownsRow.alloc hownd _) y V ⟨wr.drew.heap.size, 0, none⟩ 1 rfl (cell_of_row _ wr.drew.heap.size 0 _ _ _ (heap_alloc_new wr.drew _)) (cell_of_row _ wr.drew.heap.size 1 _ _ _ (heap_alloc_new wr.drew _)) (by omega) (by rw [World.size_alloc]; show r + 3 ≤ wr.heap.size + 1; omega) ?_); intro v9 w9 hown9 hg9; obtain ⟨A9, n9, c9, rfl, -⟩ := hown9.sl; have hF9 := (hg9.block (r + 1 + 1) (by rw [World.size_alloc]; show r + 1 + 1 < wr.heap.size + 1; omega) (fun e => (by have := hob _ e.symm; omega))).trans (((World.grownBy_alloc wr.drew (.cells #[.int .u8 (y.toNat : Int), .int .i64 V] 46) (none : Option Nat)).block (r + 1 + 1) hlf (by simp)).trans HFD.out); have h59 := (hg9.block (r + 1) (by rw [World.size_alloc]; show r + 1 < wr.heap.size + 1; omega) (fun e => (by have := hob _ e.symm; omega))).trans (((World.grownBy_alloc wr.drew (.cells #[.int .u8 (y.toNat : Int), .int .i64 V] 46) (none : Option Nat)).block (r + 1) hl5 (by simp)).trans H5D.out); have hR9 := (hg9.block r (by rw [World.size_alloc]; show r < wr.heap.size + 1; omega) (fun e => (by have := hob _ e.symm; omega))).trans (((World.grownBy_alloc wr.drew (.cells #[.int .u8 (y.toNat : Int), .int .i64 V] 46) (none : Option Nat)).block r hlr (by simp)).trans HRD.out); have k9 : w9.cell? ⟨r + 1 + 1, 6, none⟩ = some v := (cell_of_row w9 (r + 1 + 1) 6 _ _ _ hF9).trans rfl; have f9 := frozen_of_row w9 (r + 1 + 1) 6 _ _ hF9))
      all_goals
        have hs5 := heap_setCell_same w9 (r + 1 + 1) 6 _ _ (.slice A9 n9 c9) hF9
        rw [set6] at hs5
        have hr5 := (heap_setCell_other w9 ⟨r + 1 + 1, 6, none⟩ r (.slice A9 n9 c9) (by show r ≠ r + 1 + 1; omega)).trans hR9
        have h55 := (heap_setCell_other w9 ⟨r + 1 + 1, 6, none⟩ (r + 1) (.slice A9 n9 c9) (by show r + 1 ≠ r + 1 + 1; omega)).trans h59
        have ho5 : POwn (r + 3) (w9.setCell ⟨r + 1 + 1, 6, none⟩ (.slice A9 n9 c9)) (.slice A9 n9 c9) (pts (l.drop 2) (j + 1)) := by rw [HPS.out]; exact pown_kept hown9 (set_grown w9 (r + 1 + 1) 6 _) (by omega)
        have hbd : Below w.heap.size w wr.drew := ⟨hb.os, hb.tape, hb.output, hb.size, hb.block⟩
        have hb5 := ((hbd.alloc hb.size (.cells #[.int .u8 (y.toNat : Int), .int .i64 V] 46)).grown hg9 (by rw [World.size_alloc]; show _ ≤ wr.heap.size + 1; omega) (fun q hq => by have := hob q hq; omega)).setCell (p := ⟨r + 1 + 1, 6, none⟩) (by show _ ≤ r + 1 + 1; omega) (.slice A9 n9 c9)
        generalize w9.setCell ⟨r + 1 + 1, 6, none⟩ (.slice A9 n9 c9) = wa at *
        clear k9 f9 hF9 hR9 h59 hg9 hown9 hbd HFD HRD H5D
        go_wp2_with fail
        go_roundw
        case rel => exact ⟨j + 1, _, by omega, by push_cast; rfl, hr5, h55, hs5, ho5, hb5⟩
        case measure => simp [intOf]; omega
    · have hjk : j = k := by omega
      subst hjk
      have b0 : decide ((j : Int) < (j : Int)) = false := by simp
      obtain ⟨A9, n9, c9, rfl, hps⟩ := hown.sl
      have cF : ∀ i v', (#[.int .i64 5, .bool S, .int .i64 0, .int .i64 0, .int .i64 0, .int .i64 0, .slice A9 n9 c9] : Array Value)[i]? = some v' → wr.cell? ⟨r + 1 + 1, i, none⟩ = some v' := fun i v h => (cell_of_row wr (r + 1 + 1) i _ _ _ hh6).trans h
      have f0 := cF 0 _ rfl; have f1 := cF 1 _ rfl; have f2 := cF 2 _ rfl; have f3 := cF 3 _ rfl; have f4 := cF 4 _ rfl; have f5 := cF 5 _ rfl; have f6 := cF 6 _ rfl
      have HV0 := Lib.hid (valid_r 5 0 0 0 0 S A9 n9 c9 (pts (l.drop 2) j) wr hps)
      have HB := Lib.hid hb; have HH := Lib.hid hhr; have H5 := Lib.hid hh5; have H6 := Lib.hid hh6; have HPS := Lib.hid hps; have HOW := Lib.hid hown
      clear cF hb hhr hh5 hh6 hps hown
      go_wp2_with fail
      refine HV0.out.mono ?_
      rintro e w6 ⟨rfl, hb6⟩
      have t0 := (hb6.block r (lt_of_some HH.out)).trans HH.out
      have t1 := (hb6.block (r + 1) (lt_of_some H5.out)).trans H5.out
      have t2 := (hb6.block (r + 1 + 1) (lt_of_some H6.out)).trans H6.out
      have hB6 := HB.out.trans (hb6.mono HB.out.size)
      have hp6 := HPS.out.step hb6
      have cF : ∀ i v', (#[.int .i64 5, .bool S, .int .i64 0, .int .i64 0, .int .i64 0, .int .i64 0, .slice A9 n9 c9] : Array Value)[i]? = some v' → w6.cell? ⟨r + 1 + 1, i, none⟩ = some v' := fun i v h => (cell_of_row _ _ i _ _ _ t2).trans h
      have f0 := cF 0 _ rfl; have f1 := cF 1 _ rfl; have f2 := cF 2 _ rfl; have f3 := cF 3 _ rfl; have f4 := cF 4 _ rfl; have f5 := cF 5 _ rfl; have f6 := cF 6 _ rfl
      have cX : ∀ i v', (#[.int .i64 0, .bool false, .int .i64 0, .int .i64 0, .int .i64 0, .int .i64 0, .slice none 0 0] : Array Value)[i]? = some v' → w6.cell? ⟨r + 1, i, none⟩ = some v' := fun i v h => (cell_of_row _ _ i _ _ _ t1).trans h
      have x0 := cX 0 _ rfl; have x1 := cX 1 _ rfl; have x2 := cX 2 _ rfl; have x3 := cX 3 _ rfl; have x4 := cX 4 _ rfl; have x5 := cX 5 _ rfl; have x6 := cX 6 _ rfl
      have cR : ∀ i v', (#[.int .i64 0, .bool false, .int .i64 0, .int .i64 0, .int .i64 0, .int .i64 0, .slice none 0 0] : Array Value)[i]? = some v' → w6.cell? ⟨r, i, none⟩ = some v' := fun i v h => (cell_of_row _ _ i _ _ _ t0).trans h
      have r0 := cR 0 _ rfl; have r1 := cR 1 _ rfl; have r2 := cR 2 _ rfl; have r3 := cR 3 _ rfl; have r4 := cR 4 _ rfl; have r5 := cR 5 _ rfl; have r6 := cR 6 _ rfl
      have zR := fun i => frozen_of_row w6 r i _ _ t0
      have q0 := zR 0; have q1 := zR 1; have q2 := zR 2; have q3 := zR 3; have q4 := zR 4; have q5 := zR 5; have q6 := zR 6
      have T0 := Lib.hid t0
      have HB6 := Lib.hid hB6
      have HOW6 := Lib.hid (pown_out7 (pown_keep HOW.out hb6 (Nat.le_refl _)) (r := r) (by omega) (.int .i64 5) (.bool S) (.int .i64 0) (.int .i64 0) (.int .i64 0) (.int .i64 0) (.slice A9 n9 c9))
      clear cF cX cR zR t0 t1 t2 hB6 hb6 HB HH H5 H6 HPS HOW hp6 hck HR1
      cases hv : vld ⟨5, S, 0, 0, 0, 0, pts (l.drop 2) j⟩
      · have HV := Lib.hid hv; clear hv
        have e : dec l = (noCv, 0, 1) := by rw [HD.out, dfin, HV.out]; rfl
        have HE := Lib.hid e; clear e
        go_wp2_with fail
        have hz := put7 T0.out (.int .i64 0) (.bool false) (.int .i64 0) (.int .i64 0) (.int .i64 0) (.int .i64 0) (.slice none 0 0)
        have hlo := low7 HB6.out hrw (.int .i64 0) (.bool false) (.int .i64 0) (.int .i64 0) (.int .i64 0) (.int .i64 0) (.slice none 0 0)
        exact endz HE.out hz hlo rfl rfl rfl rfl
      · have HV := Lib.hid hv; clear hv
        have e : dec l = (⟨5, S, 0, 0, 0, 0, pts (l.drop 2) j⟩, 2 + 7 * (j : Int), 0) := by rw [HD.out, dfin, HV.out]; simp
        have HE := Lib.hid e; clear e
        go_wp2_with fail
        have hz := put7 T0.out (.int .i64 5) (.bool S) (.int .i64 0) (.int .i64 0) (.int .i64 0) (.int .i64 0) (.slice A9 n9 c9)
        have hlo := low7 HB6.out hrw (.int .i64 5) (.bool S) (.int .i64 0) (.int .i64 0) (.int .i64 0) (.int .i64 0) (.slice A9 n9 c9)
        obtain ⟨A8, n8, c8, hv8, hs8⟩ := HOW6.out.sl
        injection hv8 with e1 e2 e3
        subst e1 e2 e3
        refine endc (A := A9) (n := n9) (c := c9) HE.out ?_ hs8 hlo rfl rfl rfl rfl
        intro i v' h
        exact (cell_of_row _ r i _ _ _ hz).trans h
/-- Decode of the reference: whatever the bytes. -/
theorem dec_r (A : Option Addr) (n c : Nat) (l : List UInt8) (w : World) (hsl : Sl w A n c l) (hn : n ≤ 1000000) :
    Calls Try.prog 14 #[.slice A n c] w (Dcd w l) := by
  have hln := hsl.len
  by_cases h0 : n = 0
  · exact dec_nil A n c l w hsl h0
  obtain ⟨a, rfl, -⟩ := row_at hsl.row (k := 0) (by omega)
  have hne : ¬ l = [] := by intro e; rw [e] at hln; simp at hln; omega
  by_cases h1 : u8 l 0 % 128 < 1 ∨ 5 < u8 l 0 % 128
  · have hd : dec l = (noCv, 0, 6) := by unfold dec; rw [if_neg hne, if_pos h1]
    exact dec_early a n c l w hsl (by omega) hn 6 hd (by rcases h1 with h | h; exact .inl ⟨h, rfl⟩; exact .inr (.inl ⟨h, rfl⟩))
  by_cases h5 : u8 l 0 % 128 = 5
  · by_cases h2 : l.length < 2
    · have hd : dec l = (noCv, 0, 4) := by unfold dec; rw [if_neg hne, if_neg h1, if_pos h5, if_pos h2]
      exact dec_early a n c l w hsl (by omega) hn 4 hd (.inr (.inr (.inl ⟨h5, by omega, rfl⟩)))
    by_cases h3 : u8 l 1 < 2 ∨ 12 < u8 l 1
    · have hd : dec l = (noCv, 0, 6) := by unfold dec; rw [if_neg hne, if_neg h1, if_pos h5, if_neg h2, if_pos h3]
      exact dec_early a n c l w hsl (by omega) hn 6 hd (by rcases h3 with h | h; exact .inr (.inr (.inr (.inl ⟨h5, by omega, h, rfl⟩))); exact .inr (.inr (.inr (.inr (.inl ⟨h5, by omega, h, rfl⟩)))))
    by_cases h4 : l.length < 2 + 7 * u8 l 1
    · have hd : dec l = (noCv, 0, 4) := by unfold dec; rw [if_neg hne, if_neg h1, if_pos h5, if_neg h2, if_neg h3, if_pos h4]
      exact dec_early a n c l w hsl (by omega) hn 4 hd (.inr (.inr (.inr (.inr (.inr (.inl ⟨h5, by omega, by omega, by omega, by omega, rfl⟩))))))
    exact dec_tab a n c l w hsl h5 (by omega) (by omega) (by omega) hn
  · by_cases h7 : l.length < 7
    · have hd : dec l = (noCv, 0, 4) := by unfold dec; rw [if_neg hne, if_neg h1, if_neg h5, if_pos h7]
      exact dec_early a n c l w hsl (by omega) hn 4 hd (.inr (.inr (.inr (.inr (.inr (.inr ⟨by omega, by omega, by omega, rfl⟩))))))
    exact dec_lin a n c l w hsl (by omega) hn (by omega) (by omega)
end Go.Proofs.Ytfnocgkhhbpiiaa.C5h
