/- ConvertBetween holds for every input: values of a table lie between those of the neighbouring points, and at a point are its value. No condition. -/
import Derived.Test.YtkjjjphpbkcebaaAw4
import Derived.Test.YtkjjjphpbkcebaaLaw4
namespace Go.Proofs.Ytkjjjphpbkcebaa.convertBetween
open Go.RowKit Go.ChangeShapes Go.WideShapes Go.ChangeAt Go.Proofs.Ytkjjjphpbkcebaa.Mem Go.Proofs.Ytkjjjphpbkcebaa.M3p Go.Proofs.Ytkjjjphpbkcebaa.C4p Go.Proofs.Ytkjjjphpbkcebaa.C4l Go.Proofs.Ytkjjjphpbkcebaa.C4v Go.Proofs.Ytkjjjphpbkcebaa.P4 Go.Proofs.Ytkjjjphpbkcebaa.D5 Go.Proofs.Ytkjjjphpbkcebaa.Aw4 Go.Proofs.Ytkjjjphpbkcebaa.Made Go.Proofs.Ytkjjjphpbkcebaa.Law
set_option maxRecDepth 100000
set_option maxHeartbeats 4000000

theorem walk (A : Option Addr) (n c : Nat) (l : List Int) (hn : n = l.length) (hw : ∀ x ∈ l, -9223372036854775808 ≤ x ∧ x ≤ 9223372036854775807) (hc : n ≤ c) (hm : c ≤ maxLen) (_hA : A = none → c = 0)
    (y : Int) (hy : -9223372036854775808 ≤ y ∧ y ≤ 9223372036854775807) (x : Int) (hx : 0 ≤ x ∧ x ≤ 255)
    (w : World) (hr : IRow w.heap.size w A l) :
    Calls Try.prog 9 #[.slice A n c, .int .i64 y, .int .u8 x] w fun e w' => e = .returned (.bool true) ∧ Below w.heap.size w w' := by
  obtain ⟨r, rfl⟩ : ∃ r : UInt8, x = (r.toNat : Int) := ⟨UInt8.ofNat x.toNat, by rw [UInt8.toNat_ofNat']; omega⟩
  have hnm : n ≤ maxLen := by omega
  have HN := Lib.hid hn
  have HW := Lib.hid hw
  clear hn hw hc hm _hA
  have haw := Lib.hid (fun u => awake_any u)
  by_cases h6 : n ≤ 600
  case neg =>
    have d6 : decide (n ≤ 600) = false := decide_eq_false h6
    go_enter Try.func9, Try.ntmps9
    go_wp2_with fail
    refine (lightmade_any A n c _ hnm).mono ?_
    rintro e w' ⟨rfl, rfl⟩
    rw [d6]
    go_wp2_with fail
    refine (haw.out _).mono ?_
    rintro e w3 ⟨rfl, hb3⟩
    go_wp2_with fail
    go_ret
    exact ⟨rfl, hb3⟩
  have d6 : decide (n ≤ 600) = true := decide_eq_true h6
  go_enter Try.func9, Try.ntmps9
  go_wp2_with fail
  refine (lightmade_any A n c _ hnm).mono ?_
  rintro e w' ⟨rfl, rfl⟩
  rw [d6]
  go_wp2_with fail
  refine (roll_any A n c w).mono ?_
  rintro e w1 ⟨rfl, rfl⟩
  obtain ⟨hdz, hb1⟩ := irow_light (c := c) HN.out hr HW.out h6
  go_wp2_with fail
  refine (conv_go hdz hb1 (Nat.le_refl _)).mono ?_
  rintro e wc ⟨f, m, b, k1, k2, s, A', n', c', p, rfl, hv, hsl, hd, hbc, -⟩
  clear d6 h6 hdz hb1 hr hnm HN HW

  by_cases h5 : f = 5
  case neg =>
    have hne : (f != 5) = true := by rw [bne_iff_ne]; exact h5
    go_wp2_with fail
    refine (haw.out _).mono ?_
    rintro e w3 ⟨rfl, hb3⟩
    go_wp2_with fail
    go_ret
    exact ⟨rfl, hbc.trans (((Below.refl wc.heap.size wc).alloc (Nat.le_refl _) _ |>.trans (hb3.mono (by simp))).mono hbc.size)⟩
  subst h5
  obtain ⟨⟨z1, z2, z3, z4⟩, ⟨hp1, hp2⟩, -⟩ := vld_tab hv rfl
  dsimp only at z1 z2 z3 z4 hp1 hp2
  subst z1 z2 z3 z4
  have hln := hsl.len
  have hn2 : 2 ≤ n' := by omega
  have hn12 : n' ≤ 12 := by omega
  have HLN := Lib.hid hln
  clear hln hp1 hp2
  have hcb0 := Cb.new wc (.int .i64 5) (.bool s) (.int .i64 0) (.int .i64 0) (.int .i64 0) (.int .i64 0) (.slice A' n' c')
  go_wp2_with fail
  refine (mod_at y ((n' : Int) - 1) (n' - 1) _ (by omega) hy.1 hy.2 (by omega) (by omega)).mono ?_
  rintro e w' ⟨k, hk, rfl, rfl⟩
  generalize hW0 : wc.alloc (.cells #[.int .i64 5, .bool s, .int .i64 0, .int .i64 0, .int .i64 0, .int .i64 0, .slice A' n' c'] 24) = W0 at *
  clear hW0
  have hk1 : k + 1 < p.length := by rw [← HLN.out]; omega
  obtain ⟨a, q1, rfl, hab, hq1, hqb1, e0, e1⟩ := prow_q (hcb0.sl hsl).row (k := k) (by omega)
  obtain ⟨a2, q2, e2, hab2, hq2, hqb2, e3, e4⟩ := prow_q (hcb0.sl hsl).row hk1
  injection e2 with e2
  subst e2
  have vb := fun h1 h2 => value_between (c := ⟨5, s, 0, 0, 0, 0, p⟩) hv rfl (k := k) hk1 r h1 h2
  have v1 := value_point (c := ⟨5, s, 0, 0, 0, 0, p⟩) hv rfl (k := k) (show k < p.length by omega)
  have v2 := value_point (c := ⟨5, s, 0, 0, 0, 0, p⟩) hv rfl (k := k + 1) hk1
  dsimp only at vb v1 v2
  obtain ⟨⟨r1, u1⟩, hpk⟩ : ∃ q, p[k] = q := ⟨_, rfl⟩
  obtain ⟨⟨r2, u2⟩, hpk2⟩ : ∃ q, p[k + 1] = q := ⟨_, rfl⟩
  rw [hpk] at e0 e1 vb v1
  rw [hpk2] at e3 e4 vb v2
  dsimp only at e0 e1 e3 e4 vb v1 v2
  have VB := Lib.hid vb
  have hv0 : (value ⟨5, s, 0, 0, 0, 0, p⟩ r).2 = 0 := by unfold value; rw [if_pos hv]; rfl
  obtain ⟨V, hV⟩ : ∃ V, V = (value ⟨5, s, 0, 0, 0, 0, p⟩ r).1 := ⟨_, rfl⟩
  have C1 := Lib.hid (fun u hu => by have := value_p 5 0 0 0 0 s (some a) n' c' p r1 u hu; rw [v1] at this; exact this)
  have C2 := Lib.hid (fun u hu => by have := value_p 5 0 0 0 0 s (some a) n' c' p r2 u hu; rw [v2] at this; exact this)
  have C3 := Lib.hid (fun u hu => by have := value_p 5 0 0 0 0 s (some a) n' c' p r u hu; rw [hv0, ← hV] at this; exact this)
  rw [← hV] at VB
  have HNU := Lib.hid (fun z u => number_p s z u)
  obtain ⟨i0, i1, i2, i3, i4, i5, i6⟩ := hcb0.cells
  have b1 : (k : Int) < (n' : Int) := by omega
  have b2 : (k : Int) + 1 < (n' : Int) := by omega
  have b3 : ((k : Int) + 1).toNat = k + 1 := by omega
  have b4 : IntKind.i64.wrap ((k : Int) + 1) = (k : Int) + 1 := by rw [IntKind.wrap_i64]; omega
  have b5 : 0 ≤ (k : Int) + 1 := by omega
  have HCB := Lib.hid hcb0
  have HSL := Lib.hid hsl
  have hF := hcb0.lt
  have L1 : ∀ o, (W0.alloc o).cell? ⟨wc.heap.size, 6, none⟩ = some (.slice (some a) n' c') := fun o => (World.cell?_alloc_lt W0 o ⟨wc.heap.size, 6, none⟩ hF).trans i6
  have L2 : ∀ o o', ((W0.alloc o).alloc o').cell? ⟨wc.heap.size, 6, none⟩ = some (.slice (some a) n' c') := fun o o' => (World.cell?_alloc_lt (W0.alloc o) o' ⟨wc.heap.size, 6, none⟩ (by rw [World.size_alloc]; show wc.heap.size < _; omega)).trans (L1 o)
  have P1 : ∀ o, (W0.alloc o).cell? q1 = some (.int .u8 (r1.toNat : Int)) := fun o => (World.cell?_alloc_lt W0 o q1 hqb1).trans e0
  have P2 : ∀ o o', ((W0.alloc o).alloc o').cell? q1 = some (.int .u8 (r1.toNat : Int)) := fun o o' => (World.cell?_alloc_lt (W0.alloc o) o' q1 (by rw [World.size_alloc]; omega)).trans (P1 o)
  have P3 : ∀ o, (W0.alloc o).cell? ⟨q1.block, q1.off + 1, none⟩ = some (.int .i64 u1) := fun o => (World.cell?_alloc_lt W0 o ⟨q1.block, q1.off + 1, none⟩ hqb1).trans e1
  have P4 : ∀ o o', ((W0.alloc o).alloc o').cell? ⟨q1.block, q1.off + 1, none⟩ = some (.int .i64 u1) := fun o o' => (World.cell?_alloc_lt (W0.alloc o) o' ⟨q1.block, q1.off + 1, none⟩ (by rw [World.size_alloc]; show q1.block < _; omega)).trans (P3 o)
  have Q1 : ∀ o, (W0.alloc o).cell? q2 = some (.int .u8 (r2.toNat : Int)) := fun o => (World.cell?_alloc_lt W0 o q2 hqb2).trans e3
  have Q2 : ∀ o o', ((W0.alloc o).alloc o').cell? q2 = some (.int .u8 (r2.toNat : Int)) := fun o o' => (World.cell?_alloc_lt (W0.alloc o) o' q2 (by rw [World.size_alloc]; omega)).trans (Q1 o)
  have Q3 : ∀ o, (W0.alloc o).cell? ⟨q2.block, q2.off + 1, none⟩ = some (.int .i64 u2) := fun o => (World.cell?_alloc_lt W0 o ⟨q2.block, q2.off + 1, none⟩ hqb2).trans e4
  have Q4 : ∀ o o', ((W0.alloc o).alloc o').cell? ⟨q2.block, q2.off + 1, none⟩ = some (.int .i64 u2) := fun o o' => (World.cell?_alloc_lt (W0.alloc o) o' ⟨q2.block, q2.off + 1, none⟩ (by rw [World.size_alloc]; show q2.block < _; omega)).trans (Q3 o)
  clear vb v1 v2 hv hV hpk hpk2 hcb0 hsl hd hab hab2 hk1
  go_wp2_with fail
  go_region
  · as_aux_lemma =>
      have hsz0 : (W0.alloc (.cells #[.int .u8 (r1.toNat : Int), .int .i64 u1] 60)).heap.size = W0.heap.size + 1 := World.size_alloc ..
      have hx0 : (((W0.alloc (.cells #[.int .u8 (r1.toNat : Int), .int .i64 u1] 60)).alloc (.cells #[.int .u8 (r2.toNat : Int), .int .i64 u2] 60)).drew).heap[W0.heap.size]? = some (.cells #[.int .u8 (r1.toNat : Int), .int .i64 u1] 60 (0, 0)) := (Below.heap_alloc _ _ _ (by rw [World.size_alloc]; omega)).trans (heap_alloc_new W0 _)
      have hx1 : (((W0.alloc (.cells #[.int .u8 (r1.toNat : Int), .int .i64 u1] 60)).alloc (.cells #[.int .u8 (r2.toNat : Int), .int .i64 u2] 60)).drew).heap[W0.heap.size + 1]? = some (.cells #[.int .u8 (r2.toNat : Int), .int .i64 u2] 60 (0, 0)) := by
        have := heap_alloc_new (W0.alloc (.cells #[.int .u8 (r1.toNat : Int), .int .i64 u1] 60)) (.cells #[.int .u8 (r2.toNat : Int), .int .i64 u2] 60)
        rw [hsz0] at this
        exact this
      have hbW : Below W0.heap.size W0 (((W0.alloc (.cells #[.int .u8 (r1.toNat : Int), .int .i64 u1] 60)).alloc (.cells #[.int .u8 (r2.toNat : Int), .int .i64 u2] 60)).drew) := by
        have h := ((Below.refl W0.heap.size W0).alloc (Nat.le_refl _) (.cells #[.int .u8 (r1.toNat : Int), .int .i64 u1] 60)).alloc (by omega) (.cells #[.int .u8 (r2.toNat : Int), .int .i64 u2] 60)
        exact ⟨h.os, h.tape, h.output, h.size, h.block⟩
      have hcb1 := HCB.out.step hbW
      have hrp := hx0
      have hrq := hx1
      clear hbW hsz0 hx0 hx1
      generalize ((W0.alloc (.cells #[.int .u8 (r1.toNat : Int), .int .i64 u1] 60)).alloc (.cells #[.int .u8 (r2.toNat : Int), .int .i64 u2] 60)).drew = W1 at *
      generalize hbq : W0.heap.size + 1 = bq at *
      generalize W0.heap.size = bp at *
      clear L1 L2 P1 P2 P3 P4 Q1 Q2 Q3 Q4 e0 e1 e3 e4 i0 i1 i2 i3 i4 i5 i6 b3 b4 b5
      obtain ⟨i0, i1, i2, i3, i4, i5, i6⟩ := hcb1.cells
      have HP := Lib.hid hrp
      have HQ := Lib.hid hrq
      have n0 : W1.cell? ⟨bp, 0, none⟩ = some (.int .u8 (r1.toNat : Int)) := (cell_of_row W1 bp 0 _ _ _ hrp).trans rfl
      go_wp2_with fail
      refine (C1.out _ (hcb1.sl HSL.out)).mono ?_
      rintro e w2 ⟨rfl, hb2⟩
      have hcb2 := hcb1.step hb2
      have hrp2 := (hb2.block _ (lt_of_some HP.out)).trans HP.out
      have hrq2 := (hb2.block _ (lt_of_some HQ.out)).trans HQ.out
      clear i0 i1 i2 i3 i4 i5 i6 n0 hb2 hcb1 hrp hrq
      obtain ⟨i0, i1, i2, i3, i4, i5, i6⟩ := hcb2.cells
      have n0 : w2.cell? ⟨bq, 0, none⟩ = some (.int .u8 (r2.toNat : Int)) := (cell_of_row w2 bq 0 _ _ _ hrq2).trans rfl
      go_wp2_with fail
      refine (C2.out _ (hcb2.sl HSL.out)).mono ?_
      rintro e w3 ⟨rfl, hb3⟩
      have hcb3 := hcb2.step hb3
      have hrp3 := (hb3.block _ (lt_of_some hrp2)).trans hrp2
      have hrq3 := (hb3.block _ (lt_of_some hrq2)).trans hrq2
      clear i0 i1 i2 i3 i4 i5 i6 n0 hb3 hcb2 hrp2 hrq2
      obtain ⟨i0, i1, i2, i3, i4, i5, i6⟩ := hcb3.cells
      go_wp2_with fail
      refine (C3.out _ (hcb3.sl HSL.out)).mono ?_
      rintro e w4 ⟨rfl, hb4⟩
      have hcb4 := hcb3.step hb4
      have hrp4 := (hb4.block _ (lt_of_some hrp3)).trans hrp3
      have hrq4 := (hb4.block _ (lt_of_some hrq3)).trans hrq3
      clear i0 i1 i2 i3 i4 i5 i6 hb4 hcb3 hrp3 hrq3
      obtain ⟨i0, i1, i2, i3, i4, i5, i6⟩ := hcb4.cells
      have n0 : w4.cell? ⟨bp, 0, none⟩ = some (.int .u8 (r1.toNat : Int)) := (cell_of_row w4 bp 0 _ _ _ hrp4).trans rfl
      have n1 : w4.cell? ⟨bp, 1, none⟩ = some (.int .i64 u1) := (cell_of_row w4 bp 1 _ _ _ hrp4).trans rfl
      have n2 : w4.cell? ⟨bq, 0, none⟩ = some (.int .u8 (r2.toNat : Int)) := (cell_of_row w4 bq 0 _ _ _ hrq4).trans rfl
      have n3 : w4.cell? ⟨bq, 1, none⟩ = some (.int .i64 u2) := (cell_of_row w4 bq 1 _ _ _ hrq4).trans rfl
      have hend := Lib.hid (hcb4.all hbc)
      clear hcb4 hrp4 hrq4 HP HQ HSL
      by_cases g1 : num s r1 ≤ num s r
      case neg =>
       as_aux_lemma =>
        have g1b : num s r < num s r1 := by omega
        go_wp2_with (first | (go_at_call 23; refine (HNU.out _ _).mono ?_; rintro e w' ⟨rfl, rfl⟩) | (go_at_call 15; refine (haw.out _).mono ?_; rintro e w9 ⟨rfl, hb9⟩))
        all_goals go_ret
        all_goals exact ⟨rfl, hend.out.trans (hb9.mono hend.out.size)⟩
      have g1b : ¬ num s r < num s r1 := by omega
      by_cases g2 : num s r ≤ num s r2
      case neg =>
       as_aux_lemma =>
        have g2b : num s r2 < num s r := by omega
        go_wp2_with (first | (go_at_call 23; refine (HNU.out _ _).mono ?_; rintro e w' ⟨rfl, rfl⟩) | (go_at_call 15; refine (haw.out _).mono ?_; rintro e w9 ⟨rfl, hb9⟩))
        all_goals go_ret
        all_goals exact ⟨rfl, hend.out.trans (hb9.mono hend.out.size)⟩
      have g2b : ¬ num s r2 < num s r := by omega
      obtain ⟨-, t1, t2⟩ := VB.out g1 g2
      go_wp2_with (first | (go_at_call 23; refine (HNU.out _ _).mono ?_; rintro e w' ⟨rfl, rfl⟩) | (go_at_call 15; refine (haw.out _).mono ?_; rintro e w9 ⟨rfl, hb9⟩))
      all_goals first
        | (exfalso; omega)
        | (go_ret
           exact ⟨rfl, hend.out.trans (hb9.mono hend.out.size)⟩)
  · as_aux_lemma =>
      have hsz0 : (W0.alloc (.cells #[.int .u8 (r2.toNat : Int), .int .i64 u2] 60)).heap.size = W0.heap.size + 1 := World.size_alloc ..
      have hx0 : (((W0.alloc (.cells #[.int .u8 (r2.toNat : Int), .int .i64 u2] 60)).alloc (.cells #[.int .u8 (r1.toNat : Int), .int .i64 u1] 60)).drew).heap[W0.heap.size]? = some (.cells #[.int .u8 (r2.toNat : Int), .int .i64 u2] 60 (0, 0)) := (Below.heap_alloc _ _ _ (by rw [World.size_alloc]; omega)).trans (heap_alloc_new W0 _)
      have hx1 : (((W0.alloc (.cells #[.int .u8 (r2.toNat : Int), .int .i64 u2] 60)).alloc (.cells #[.int .u8 (r1.toNat : Int), .int .i64 u1] 60)).drew).heap[W0.heap.size + 1]? = some (.cells #[.int .u8 (r1.toNat : Int), .int .i64 u1] 60 (0, 0)) := by
        have := heap_alloc_new (W0.alloc (.cells #[.int .u8 (r2.toNat : Int), .int .i64 u2] 60)) (.cells #[.int .u8 (r1.toNat : Int), .int .i64 u1] 60)
        rw [hsz0] at this
        exact this
      have hbW : Below W0.heap.size W0 (((W0.alloc (.cells #[.int .u8 (r2.toNat : Int), .int .i64 u2] 60)).alloc (.cells #[.int .u8 (r1.toNat : Int), .int .i64 u1] 60)).drew) := by
        have h := ((Below.refl W0.heap.size W0).alloc (Nat.le_refl _) (.cells #[.int .u8 (r2.toNat : Int), .int .i64 u2] 60)).alloc (by omega) (.cells #[.int .u8 (r1.toNat : Int), .int .i64 u1] 60)
        exact ⟨h.os, h.tape, h.output, h.size, h.block⟩
      have hcb1 := HCB.out.step hbW
      have hrp := hx1
      have hrq := hx0
      clear hbW hsz0 hx0 hx1
      generalize ((W0.alloc (.cells #[.int .u8 (r2.toNat : Int), .int .i64 u2] 60)).alloc (.cells #[.int .u8 (r1.toNat : Int), .int .i64 u1] 60)).drew = W1 at *
      generalize hbp : W0.heap.size + 1 = bp at *
      generalize W0.heap.size = bq at *
      clear L1 L2 P1 P2 P3 P4 Q1 Q2 Q3 Q4 e0 e1 e3 e4 i0 i1 i2 i3 i4 i5 i6 b3 b4 b5
      obtain ⟨i0, i1, i2, i3, i4, i5, i6⟩ := hcb1.cells
      have HP := Lib.hid hrp
      have HQ := Lib.hid hrq
      have n0 : W1.cell? ⟨bp, 0, none⟩ = some (.int .u8 (r1.toNat : Int)) := (cell_of_row W1 bp 0 _ _ _ hrp).trans rfl
      go_wp2_with fail
      refine (C1.out _ (hcb1.sl HSL.out)).mono ?_
      rintro e w2 ⟨rfl, hb2⟩
      have hcb2 := hcb1.step hb2
      have hrp2 := (hb2.block _ (lt_of_some HP.out)).trans HP.out
      have hrq2 := (hb2.block _ (lt_of_some HQ.out)).trans HQ.out
      clear i0 i1 i2 i3 i4 i5 i6 n0 hb2 hcb1 hrp hrq
      obtain ⟨i0, i1, i2, i3, i4, i5, i6⟩ := hcb2.cells
      have n0 : w2.cell? ⟨bq, 0, none⟩ = some (.int .u8 (r2.toNat : Int)) := (cell_of_row w2 bq 0 _ _ _ hrq2).trans rfl
      go_wp2_with fail
      refine (C2.out _ (hcb2.sl HSL.out)).mono ?_
      rintro e w3 ⟨rfl, hb3⟩
      have hcb3 := hcb2.step hb3
      have hrp3 := (hb3.block _ (lt_of_some hrp2)).trans hrp2
      have hrq3 := (hb3.block _ (lt_of_some hrq2)).trans hrq2
      clear i0 i1 i2 i3 i4 i5 i6 n0 hb3 hcb2 hrp2 hrq2
      obtain ⟨i0, i1, i2, i3, i4, i5, i6⟩ := hcb3.cells
      go_wp2_with fail
      refine (C3.out _ (hcb3.sl HSL.out)).mono ?_
      rintro e w4 ⟨rfl, hb4⟩
      have hcb4 := hcb3.step hb4
      have hrp4 := (hb4.block _ (lt_of_some hrp3)).trans hrp3
      have hrq4 := (hb4.block _ (lt_of_some hrq3)).trans hrq3
      clear i0 i1 i2 i3 i4 i5 i6 hb4 hcb3 hrp3 hrq3
      obtain ⟨i0, i1, i2, i3, i4, i5, i6⟩ := hcb4.cells
      have n0 : w4.cell? ⟨bp, 0, none⟩ = some (.int .u8 (r1.toNat : Int)) := (cell_of_row w4 bp 0 _ _ _ hrp4).trans rfl
      have n1 : w4.cell? ⟨bp, 1, none⟩ = some (.int .i64 u1) := (cell_of_row w4 bp 1 _ _ _ hrp4).trans rfl
      have n2 : w4.cell? ⟨bq, 0, none⟩ = some (.int .u8 (r2.toNat : Int)) := (cell_of_row w4 bq 0 _ _ _ hrq4).trans rfl
      have n3 : w4.cell? ⟨bq, 1, none⟩ = some (.int .i64 u2) := (cell_of_row w4 bq 1 _ _ _ hrq4).trans rfl
      have hend := Lib.hid (hcb4.all hbc)
      clear hcb4 hrp4 hrq4 HP HQ HSL
      by_cases g1 : num s r1 ≤ num s r
      case neg =>
       as_aux_lemma =>
        have g1b : num s r < num s r1 := by omega
        go_wp2_with (first | (go_at_call 23; refine (HNU.out _ _).mono ?_; rintro e w' ⟨rfl, rfl⟩) | (go_at_call 15; refine (haw.out _).mono ?_; rintro e w9 ⟨rfl, hb9⟩))
        all_goals go_ret
        all_goals exact ⟨rfl, hend.out.trans (hb9.mono hend.out.size)⟩
      have g1b : ¬ num s r < num s r1 := by omega
      by_cases g2 : num s r ≤ num s r2
      case neg =>
       as_aux_lemma =>
        have g2b : num s r2 < num s r := by omega
        go_wp2_with (first | (go_at_call 23; refine (HNU.out _ _).mono ?_; rintro e w' ⟨rfl, rfl⟩) | (go_at_call 15; refine (haw.out _).mono ?_; rintro e w9 ⟨rfl, hb9⟩))
        all_goals go_ret
        all_goals exact ⟨rfl, hend.out.trans (hb9.mono hend.out.size)⟩
      have g2b : ¬ num s r2 < num s r := by omega
      obtain ⟨-, t1, t2⟩ := VB.out g1 g2
      go_wp2_with (first | (go_at_call 23; refine (HNU.out _ _).mono ?_; rintro e w' ⟨rfl, rfl⟩) | (go_at_call 15; refine (haw.out _).mono ?_; rintro e w9 ⟨rfl, hb9⟩))
      all_goals first
        | (exfalso; omega)
        | (go_ret
           exact ⟨rfl, hend.out.trans (hb9.mono hend.out.size)⟩)

theorem cells_u8 : Try.prog.cellsOf 5 = 1 := by kernel_rfl
theorem cells_int : Try.prog.cellsOf 3 = 1 := by kernel_rfl
theorem own : ownKnob Try.prog.godebug = none := by kernel_rfl
theorem laidOut : laidOutB Try.prog = true := by kernel_rfl
theorem contract (H : Type) (enc : TypeId × Value → H) (W : World) (base : Nat) (args : Array Value) (ds gs : List (DataW H)) (before : List MemPlace)
    (hval : ∀ (j : Nat) t v, Try.f9.params[j]? = some t → args[j]? = some v → Value.okWide Try.prog W .any base t v)
    (hW : DataW.Whole enc Try.prog Try.f9.params.toList Rows.convertBetweenSpec.vars false W args.toList ds gs before) :
    Calls Try.prog 9 args W fun e W' => ∃ v, e = .returned v ∧ Rows.convertBetweenSpec.post enc Try.prog Try.f9 false true false false W args v W' := by
  have hW' := hW
  obtain ⟨p, q, hA0, hV, rfl, hfz, hnd⟩ := hW
  have hA : DataW.TrodAll enc Try.prog W 0 (fun _ => true) true Try.f9.params.toList args.toList ds p := hA0
  rw [Try.params9] at hA hval
  obtain ⟨v0, vs0, d0, ds0, p0, q0, hargs, rfl, rfl, h0, r0⟩ := trodAll_cons hA
  obtain ⟨v1, vs1, d1, ds1, p1, q1, rfl, rfl, rfl, h1, r1⟩ := trodAll_cons r0
  obtain ⟨v2, vs2, d2, ds2, p2, q2, rfl, rfl, rfl, h2, r2⟩ := trodAll_cons r1
  obtain ⟨rfl, rfl, rfl⟩ := trodAll_nil r2
  obtain rfl : args = #[v0, v1, v2] := by cases args; simp_all
  obtain ⟨A0, n0, c0, l0, rfl, hn0, hr0, hw0, hc0, hm0, hk0⟩ := open_int_list Try.underlying25 Try.underlying3 cells_int (hval 0 25 v0 rfl rfl) h0
  obtain ⟨a1, rfl, -, -, w1⟩ := open_int Try.underlying3 (hval 1 3 v1 rfl rfl) h1
  obtain ⟨a2, rfl, -, -, w2⟩ := open_int Try.underlying5 (hval 2 5 v2 rfl rfl) h2
  clear hA0
  refine (walk A0 n0 c0 l0 hn0 hw0 hc0 hm0 hk0 a1 (bounds_i64 w1) a2 (bounds_u8 w2) W hr0).mono fun e W' ⟨he, hb⟩ => ?_
  subst he
  exact ⟨_, rfl, law_post laidOut (types_fit (by kernel_rfl)) (by kernel_rfl) Try.underlying4 rfl (fun xs hx => by
    match xs, hx with
    | [_, _, _], _ => rfl) hW' hb⟩

theorem lifted (os : Os) (started : os.Started) (H : Type) (enc : TypeId × Value → H) :
    ReturnsInHanded {} Try.checked os 9 .any (Rows.convertBetweenSpec.pre6 enc Try.prog Try.f9 Rows.convertBetweenRow.domain false) (Rows.convertBetweenSpec.post enc Try.prog Try.f9 false true false false) := by
  refine returnsInHanded_of_change (C := Try.checked) own started (by kernel_rfl) Try.func9
    (ChangeSpec.witness6 (enc := enc) (C := Try.checked) false ⟨#[], #[.slice none 0 0, .int .i64 0, .int .u8 0], []⟩ 8 (by kernel_rfl) (by kernel_rfl) (by kernel_rfl) (by kernel_rfl)) ?_
  intro W base args ds gs before hval hW _ _
  exact contract H enc W base args ds gs before hval hW

theorem proved : Rows.ConvertBetweenSaid :=
  OpenClaim.holds_of_wide 9 Try.f9 rfl rfl rfl rfl rfl rfl rfl ⟨rfl, rfl, rfl, rfl, rfl⟩ rfl rfl rfl rfl rfl (by kernel_rfl) Try.func9 (by kernel_rfl)
    (of_decide_eq_true (by kernel_rfl)) (by unfold Func.isWrapper; first | (rw [if_pos (by decide +kernel)]; kernel_rfl) | (rw [if_neg (by decide +kernel)]; exact ⟨rfl, rfl⟩))
    (fun os started H enc _ => lifted os started H enc)
end Go.Proofs.Ytkjjjphpbkcebaa.convertBetween
