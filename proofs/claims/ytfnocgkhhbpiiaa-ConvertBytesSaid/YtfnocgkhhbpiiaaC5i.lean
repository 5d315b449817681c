/- Walks: the reference of conversions: Decode of what is no table. -/
import Derived.Test.YtfnocgkhhbpiiaaC5h
import Derived.Test.YtfnocgkhhbpiiaaC5c
namespace Go.Proofs.Ytfnocgkhhbpiiaa.C5h
open Go.RowKit Go.Proofs.Ytfnocgkhhbpiiaa.Mem Go.Proofs.Ytfnocgkhhbpiiaa.M3p Go.Proofs.Ytfnocgkhhbpiiaa.C4p Go.Proofs.Ytfnocgkhhbpiiaa.C4l Go.Proofs.Ytfnocgkhhbpiiaa.C4v Go.Proofs.Ytfnocgkhhbpiiaa.P4 Go.Proofs.Ytfnocgkhhbpiiaa.P5 Go.Proofs.Ytfnocgkhhbpiiaa.D5
set_option maxRecDepth 100000
set_option maxHeartbeats 2000000

/-- The end of a Decode that succeeds. -/
theorem endc {w W : World} {l : List UInt8} {r : Nat} {a : Act} {C : Cv} {N : Int} {A : Option Addr} {n c : Nat} (hd : dec l = (C, N, 0)) (hr : ∀ i v', (#[.int .i64 C.f, .bool C.s, .int .i64 C.m, .int .i64 C.b, .int .i64 C.k1, .int .i64 C.k2, .slice A n c] : Array Value)[i]? = some v' → W.cell? ⟨r, i, none⟩ = some v')
    (hp : PSl W A n c C.p) (hb : Below w.heap.size w W)
    (h2 : a.tmps[2]? = some (.pointer (some ⟨r, 0, none⟩))) (h3 : a.tmps[3]? = some (.int .i64 N)) (h4 : a.tmps[4]? = some (.int .i64 0)) (hdf : a.defers = []) :
    bodyPost Try.prog Try.f14 (Dcd w l) .ret a W := by
  have r0 := hr 0 _ rfl; have r1 := hr 1 _ rfl; have r2 := hr 2 _ rfl; have r3 := hr 3 _ rfl; have r4 := hr 4 _ rfl; have r5 := hr 5 _ rfl; have r6 := hr 6 _ rfl
  unfold Dcd
  rw [hd]
  refine bodyPost_ret (v := .tuple #[.agg #[.int .i64 C.f, .bool C.s, .int .i64 C.m, .int .i64 C.b, .int .i64 C.k1, .int .i64 C.k2, .slice A n c], .int .i64 N, .int .i64 0]) ?_ hdf ⟨A, n, c, rfl, hp, hb⟩
  simp [results, Try.results14, go_sem, h2, h3, h4, r0, r1, r2, r3, r4, r5, r6]
theorem put7 {w : World} {r : Nat} {a0 a1 a2 a3 a4 a5 a6 : Value} {T : TypeId} (h : w.heap[r]? = some (.cells #[a0, a1, a2, a3, a4, a5, a6] T (0, 0))) (v0 v1 v2 v3 v4 v5 v6 : Value) :
    (((((((w.setCell ⟨r, 0, none⟩ v0).setCell ⟨r, 1, none⟩ v1).setCell ⟨r, 2, none⟩ v2).setCell ⟨r, 3, none⟩ v3).setCell ⟨r, 4, none⟩ v4).setCell ⟨r, 5, none⟩ v5).setCell ⟨r, 6, none⟩ v6).heap[r]? = some (.cells #[v0, v1, v2, v3, v4, v5, v6] T (0, 0)) := by
  have s0 := heap_setCell_same _ r 0 _ _ v0 h
  rw [set0] at s0
  have s1 := heap_setCell_same _ r 1 _ _ v1 s0
  rw [set1] at s1
  have s2 := heap_setCell_same _ r 2 _ _ v2 s1
  rw [set2] at s2
  have s3 := heap_setCell_same _ r 3 _ _ v3 s2
  rw [set3] at s3
  have s4 := heap_setCell_same _ r 4 _ _ v4 s3
  rw [set4] at s4
  have s5 := heap_setCell_same _ r 5 _ _ v5 s4
  rw [set5] at s5
  have s6 := heap_setCell_same _ r 6 _ _ v6 s5
  rw [set6] at s6
  exact s6
theorem low7 {B : Nat} {w W : World} {r : Nat} (h : Below B w W) (hr : B ≤ r) (v0 v1 v2 v3 v4 v5 v6 : Value) :
    Below B w (((((((W.setCell ⟨r, 0, none⟩ v0).setCell ⟨r, 1, none⟩ v1).setCell ⟨r, 2, none⟩ v2).setCell ⟨r, 3, none⟩ v3).setCell ⟨r, 4, none⟩ v4).setCell ⟨r, 5, none⟩ v5).setCell ⟨r, 6, none⟩ v6) :=
  ((((((h.setCell (p := ⟨r, 0, none⟩) hr v0).setCell (p := ⟨r, 1, none⟩) hr v1).setCell (p := ⟨r, 2, none⟩) hr v2).setCell (p := ⟨r, 3, none⟩) hr v3).setCell (p := ⟨r, 4, none⟩) hr v4).setCell (p := ⟨r, 5, none⟩) hr v5).setCell (p := ⟨r, 6, none⟩) hr v6
theorem dec_lin (a : Addr) (n c : Nat) (l : List UInt8) (w : World) (hsl : Sl w (some a) n c l) (h7 : 7 ≤ n) (hn : n ≤ 1000000) (hf1 : 1 ≤ u8 l 0 % 128) (hf2 : u8 l 0 % 128 < 5) :
    Calls Try.prog 14 #[.slice (some a) n c] w (Dcd w l) := by
  have hln := hsl.len
  have hcp := hsl.cap
  have hrow := hsl.row
  have hl0 : 0 < l.length := by omega
  have hd : dec l = dfin ⟨(u8 l 0 % 128 : Nat), decide (128 ≤ u8 l 0), sgn (piece l 1 2), sgn (piece l 3 2), sgn (piece l 5 1), sgn (piece l 6 1), []⟩ 7 := by
    unfold dec
    rw [if_neg (by intro e; rw [e] at hl0; simp at hl0), if_neg (by omega), if_neg (by omega), if_neg (by omega)]
  obtain ⟨a', ha', hab, hc0⟩ := row_at hrow hl0
  injection ha' with ha'
  subst ha'
  have hc0' : w.cell? a = some (.int .u8 (l[0].toNat : Int)) := hc0
  have hx8 := l[0].toNat_lt
  rw [u8_at hl0] at hf1 hf2 hd
  obtain ⟨x, hx⟩ : ∃ x, l[0].toNat = x := ⟨_, rfl⟩
  rw [hx] at hc0' hx8 hf1 hf2 hd
  have P1 : ∀ o, (w.alloc o).cell? a = some (.int .u8 (x : Int)) := fun o => (World.cell?_alloc_lt w o a hab).trans hc0'
  have P2 : ∀ o o', ((w.alloc o).alloc o').cell? a = some (.int .u8 (x : Int)) := fun o o' => (World.cell?_alloc_lt (w.alloc o) o' a (by rw [World.size_alloc]; omega)).trans (P1 o)
  have P3 : ∀ o o' o'', (((w.alloc o).alloc o').alloc o'').cell? a = some (.int .u8 (x : Int)) := fun o o' o'' => (World.cell?_alloc_lt ((w.alloc o).alloc o') o'' a (by rw [World.size_alloc, World.size_alloc]; omega)).trans (P2 o o')
  obtain ⟨v, hv⟩ : ∃ v, x % 128 = v := ⟨_, rfl⟩
  have hmod : (x : Int) % 128 = (v : Int) := by omega
  rw [hv] at hf1 hf2 hd
  obtain ⟨S, hS⟩ : ∃ S, decide (128 ≤ x) = S := ⟨_, rfl⟩
  have hS' : decide (128 ≤ (x : Int)) = S := by rw [← hS]; exact decide_eq_decide.2 (by omega)
  rw [hS] at hd
  have hrow' : ∀ k m : Nat, 1 ≤ k → 1 ≤ m → k + m ≤ 7 → ∀ (u : World), Below w.heap.size w u → Row w.heap.size u (some ⟨a.block, a.off + k, none⟩) (piece l k m) := by
    intro k m hk h1 h2 u hu
    have hrk := (piece_row hrow k m (by omega)).below hu
    have he : a.add k = ⟨a.block, a.off + k, none⟩ := by unfold Addr.add; rw [if_neg (by omega)]
    rw [he] at hrk
    exact hrk
  obtain ⟨N1, hN1⟩ : ∃ N1, N1 = sgn (piece l 1 2) := ⟨_, rfl⟩
  obtain ⟨N2, hN2⟩ : ∃ N2, N2 = sgn (piece l 3 2) := ⟨_, rfl⟩
  obtain ⟨N3, hN3⟩ : ∃ N3, N3 = sgn (piece l 5 1) := ⟨_, rfl⟩
  obtain ⟨N4, hN4⟩ : ∃ N4, N4 = sgn (piece l 6 1) := ⟨_, rfl⟩
  rw [← hN1, ← hN2, ← hN3, ← hN4] at hd
  have HC1 := Lib.hid (fun c' u hu => by have := signed_2 _ c' _ _ u (hrow' 1 2 (by omega) (by omega) (by omega) u hu) (by simp [piece]; omega); rw [← hN1] at this; exact this)
  have HC2 := Lib.hid (fun c' u hu => by have := signed_2 _ c' _ _ u (hrow' 3 2 (by omega) (by omega) (by omega) u hu) (by simp [piece]; omega); rw [← hN2] at this; exact this)
  have HC3 := Lib.hid (fun c' u hu => by have := signed_1 _ c' _ _ u (hrow' 5 1 (by omega) (by omega) (by omega) u hu) (by simp [piece]; omega); rw [← hN3] at this; exact this)
  have HC4 := Lib.hid (fun c' u hu => by have := signed_1 _ c' _ _ u (hrow' 6 1 (by omega) (by omega) (by omega) u hu) (by simp [piece]; omega); rw [← hN4] at this; exact this)
  have HD := Lib.hid hd
  have HQ := Lib.hid (boxes w)
  have hne : ((n : Int) == 0) = false := by rw [beq_eq_false_iff_ne]; omega
  have g1 : decide ((v : Int) < 1) = false := by simp; omega
  have g2 : decide (5 < (v : Int)) = false := by simp; omega
  have g7 : ((v : Int) == 5) = false := by simp; omega
  have g8 : decide ((n : Int) < 7) = false := by simp; omega
  have n1 : (7 : Int) ≤ (c : Int) := by omega
  have n2 : (7 : Int) ≤ (n : Int) := by omega
  have n3 : (6 : Int) ≤ (c : Int) := by omega
  have n4 : (5 : Int) ≤ (c : Int) := by omega
  have n5 : (3 : Int) ≤ (c : Int) := by omega
  have n6 : ¬ (c = 1) := by omega
  have n7 : ¬ (c = 3) := by omega
  have n8 : ¬ (c = 5) := by omega
  have n9 : ¬ (c = 6) := by omega
  clear hd hsl hln hc0 hx hl0 hv hS hrow hrow' hN1 hN2 hN3 hN4
  go_enter Try.func14, Try.ntmps14
  go_wp2_with fail
  go_region
  go_wp2_with fail
  obtain ⟨hhr, hh5, hh6, hb0⟩ := HQ.out #[.int .i64 (v : Int), .bool S, .int .i64 0, .int .i64 0, .int .i64 0, .int .i64 0, .slice none 0 0]
  generalize hW : (((w.alloc (.cells #[.int .i64 0, .bool false, .int .i64 0, .int .i64 0, .int .i64 0, .int .i64 0, .slice none 0 0] 24)).alloc (.cells #[.int .i64 0, .bool false, .int .i64 0, .int .i64 0, .int .i64 0, .int .i64 0, .slice none 0 0] 24)).alloc (.cells #[.int .i64 (v : Int), .bool S, .int .i64 0, .int .i64 0, .int .i64 0, .int .i64 0, .slice none 0 0] 24)).drew = W0 at *
  clear hW P1 P2 P3 hc0' HQ
  obtain ⟨r, hr⟩ : ∃ r, r = w.heap.size := ⟨_, rfl⟩
  rw [← hr] at hhr hh5 hh6 ⊢
  have hrw : w.heap.size ≤ r := Nat.le_of_eq hr.symm
  clear hr
  have cF : ∀ i v', (#[.int .i64 (v : Int), .bool S, .int .i64 0, .int .i64 0, .int .i64 0, .int .i64 0, .slice none 0 0] : Array Value)[i]? = some v' → W0.cell? ⟨r + 1 + 1, i, none⟩ = some v' := fun i v h => (cell_of_row W0 (r + 1 + 1) i _ _ _ hh6).trans h
  have f0 := cF 0 _ rfl; have f1 := cF 1 _ rfl; have f2 := cF 2 _ rfl; have f3 := cF 3 _ rfl; have f4 := cF 4 _ rfl; have f5 := cF 5 _ rfl; have f6 := cF 6 _ rfl
  have zF := fun i => frozen_of_row W0 (r + 1 + 1) i _ _ hh6
  have z2 := zF 2; have z3 := zF 3; have z4 := zF 4; have z5 := zF 5
  clear cF zF
  refine (HC1.out _ _ hb0).mono ?_
  rintro e w' ⟨rfl, rfl⟩
  have hb1 := hb0.setCell (p := ⟨r + 1 + 1, 2, none⟩) (by show _ ≤ r + 1 + 1; omega) (.int .i64 N1)
  go_wp2_with fail
  refine (HC2.out _ _ hb1).mono ?_
  rintro e w' ⟨rfl, rfl⟩
  have hb2 := hb1.setCell (p := ⟨r + 1 + 1, 3, none⟩) (by show _ ≤ r + 1 + 1; omega) (.int .i64 N2)
  go_wp2_with fail
  refine (HC3.out _ _ hb2).mono ?_
  rintro e w' ⟨rfl, rfl⟩
  have hb3 := hb2.setCell (p := ⟨r + 1 + 1, 4, none⟩) (by show _ ≤ r + 1 + 1; omega) (.int .i64 N3)
  go_wp2_with fail
  refine (HC4.out _ _ hb3).mono ?_
  rintro e w' ⟨rfl, rfl⟩
  have hb4 := hb3.setCell (p := ⟨r + 1 + 1, 5, none⟩) (by show _ ≤ r + 1 + 1; omega) (.int .i64 N4)
  go_wp2_with fail
  have s2 := heap_setCell_same W0 (r + 1 + 1) 2 _ _ (.int .i64 N1) hh6
  rw [set2] at s2
  have s3 := heap_setCell_same _ (r + 1 + 1) 3 _ _ (.int .i64 N2) s2
  rw [set3] at s3
  have s4 := heap_setCell_same _ (r + 1 + 1) 4 _ _ (.int .i64 N3) s3
  rw [set4] at s4
  have s5 := heap_setCell_same _ (r + 1 + 1) 5 _ _ (.int .i64 N4) s4
  rw [set5] at s5
  have o1 : ((((W0.setCell ⟨r + 1 + 1, 2, none⟩ (.int .i64 N1)).setCell ⟨r + 1 + 1, 3, none⟩ (.int .i64 N2)).setCell ⟨r + 1 + 1, 4, none⟩ (.int .i64 N3)).setCell ⟨r + 1 + 1, 5, none⟩ (.int .i64 N4)).heap[r]? = some (.cells #[.int .i64 0, .bool false, .int .i64 0, .int .i64 0, .int .i64 0, .int .i64 0, .slice none 0 0] 24 (0, 0)) := by
    rw [heap_setCell_other _ ⟨r + 1 + 1, 5, none⟩ r _ (by show r ≠ r + 1 + 1; omega), heap_setCell_other _ ⟨r + 1 + 1, 4, none⟩ r _ (by show r ≠ r + 1 + 1; omega), heap_setCell_other _ ⟨r + 1 + 1, 3, none⟩ r _ (by show r ≠ r + 1 + 1; omega), heap_setCell_other _ ⟨r + 1 + 1, 2, none⟩ r _ (by show r ≠ r + 1 + 1; omega)]
    exact hhr
  have o2 : ((((W0.setCell ⟨r + 1 + 1, 2, none⟩ (.int .i64 N1)).setCell ⟨r + 1 + 1, 3, none⟩ (.int .i64 N2)).setCell ⟨r + 1 + 1, 4, none⟩ (.int .i64 N3)).setCell ⟨r + 1 + 1, 5, none⟩ (.int .i64 N4)).heap[r + 1]? = some (.cells #[.int .i64 0, .bool false, .int .i64 0, .int .i64 0, .int .i64 0, .int .i64 0, .slice none 0 0] 24 (0, 0)) := by
    rw [heap_setCell_other _ ⟨r + 1 + 1, 5, none⟩ (r + 1) _ (by show r + 1 ≠ r + 1 + 1; omega), heap_setCell_other _ ⟨r + 1 + 1, 4, none⟩ (r + 1) _ (by show r + 1 ≠ r + 1 + 1; omega), heap_setCell_other _ ⟨r + 1 + 1, 3, none⟩ (r + 1) _ (by show r + 1 ≠ r + 1 + 1; omega), heap_setCell_other _ ⟨r + 1 + 1, 2, none⟩ (r + 1) _ (by show r + 1 ≠ r + 1 + 1; omega)]
    exact hh5
  generalize (((W0.setCell ⟨r + 1 + 1, 2, none⟩ (.int .i64 N1)).setCell ⟨r + 1 + 1, 3, none⟩ (.int .i64 N2)).setCell ⟨r + 1 + 1, 4, none⟩ (.int .i64 N3)).setCell ⟨r + 1 + 1, 5, none⟩ (.int .i64 N4) = W5 at *
  clear s2 s3 s4 f0 f1 f2 f3 f4 f5 f6 z2 z3 z4 z5 hhr hh5 hh6 hb0 hb1 hb2 hb3
  refine (valid_r (v : Int) N1 N2 N3 N4 S none 0 0 [] W5 PSl.none).mono ?_
  rintro e w6 ⟨rfl, hb6⟩
  have t0 := (hb6.block r (lt_of_some o1)).trans o1
  have t1 := (hb6.block (r + 1) (lt_of_some o2)).trans o2
  have t2 := (hb6.block (r + 1 + 1) (lt_of_some s5)).trans s5
  have hB6 := hb4.trans (hb6.mono hb4.size)
  clear o1 o2 s5 hb6 hb4
  have cF : ∀ i v', (#[.int .i64 (v : Int), .bool S, .int .i64 N1, .int .i64 N2, .int .i64 N3, .int .i64 N4, .slice none 0 0] : Array Value)[i]? = some v' → w6.cell? ⟨r + 1 + 1, i, none⟩ = some v' := fun i v h => (cell_of_row _ _ i _ _ _ t2).trans h
  have f0 := cF 0 _ rfl; have f1 := cF 1 _ rfl; have f2 := cF 2 _ rfl; have f3 := cF 3 _ rfl; have f4 := cF 4 _ rfl; have f5 := cF 5 _ rfl; have f6 := cF 6 _ rfl
  have cX : ∀ i v', (#[.int .i64 0, .bool false, .int .i64 0, .int .i64 0, .int .i64 0, .int .i64 0, .slice none 0 0] : Array Value)[i]? = some v' → w6.cell? ⟨r + 1, i, none⟩ = some v' := fun i v h => (cell_of_row _ _ i _ _ _ t1).trans h
  have x0 := cX 0 _ rfl; have x1 := cX 1 _ rfl; have x2 := cX 2 _ rfl; have x3 := cX 3 _ rfl; have x4 := cX 4 _ rfl; have x5 := cX 5 _ rfl; have x6 := cX 6 _ rfl
  have cR : ∀ i v', (#[.int .i64 0, .bool false, .int .i64 0, .int .i64 0, .int .i64 0, .int .i64 0, .slice none 0 0] : Array Value)[i]? = some v' → w6.cell? ⟨r, i, none⟩ = some v' := fun i v h => (cell_of_row _ _ i _ _ _ t0).trans h
  have r0 := cR 0 _ rfl; have r1 := cR 1 _ rfl; have r2 := cR 2 _ rfl; have r3 := cR 3 _ rfl; have r4 := cR 4 _ rfl; have r5 := cR 5 _ rfl; have r6 := cR 6 _ rfl
  have zR := fun i => frozen_of_row w6 r i _ _ t0
  have q0 := zR 0; have q1 := zR 1; have q2 := zR 2; have q3 := zR 3; have q4 := zR 4; have q5 := zR 5; have q6 := zR 6
  have T0 := Lib.hid t0
  have HB := Lib.hid hB6
  clear cF cX cR zR t0 t1 t2 hB6
  cases hv : vld ⟨(v : Int), S, N1, N2, N3, N4, []⟩
  · have HV := Lib.hid hv; clear hv
    have e : dec l = (noCv, 0, 1) := by rw [HD.out, dfin, HV.out]; rfl
    have HE := Lib.hid e; clear e
    go_wp2_with fail
    have hz := put7 T0.out (.int .i64 0) (.bool false) (.int .i64 0) (.int .i64 0) (.int .i64 0) (.int .i64 0) (.slice none 0 0)
    have hlo := low7 HB.out hrw (.int .i64 0) (.bool false) (.int .i64 0) (.int .i64 0) (.int .i64 0) (.int .i64 0) (.slice none 0 0)
    exact endz HE.out hz hlo rfl rfl rfl rfl
  · have HV := Lib.hid hv; clear hv
    have e : dec l = (⟨(v : Int), S, N1, N2, N3, N4, []⟩, 7, 0) := by rw [HD.out, dfin, HV.out]; rfl
    have HE := Lib.hid e; clear e
    go_wp2_with fail
    have hz := put7 T0.out (.int .i64 (v : Int)) (.bool S) (.int .i64 N1) (.int .i64 N2) (.int .i64 N3) (.int .i64 N4) (.slice none 0 0)
    have hlo := low7 HB.out hrw (.int .i64 (v : Int)) (.bool S) (.int .i64 N1) (.int .i64 N2) (.int .i64 N3) (.int .i64 N4) (.slice none 0 0)
    refine endc (A := none) (n := 0) (c := 0) HE.out ?_ PSl.none hlo rfl rfl rfl rfl
    intro i v' h
    exact (cell_of_row _ r i _ _ _ hz).trans h
end Go.Proofs.Ytfnocgkhhbpiiaa.C5h
