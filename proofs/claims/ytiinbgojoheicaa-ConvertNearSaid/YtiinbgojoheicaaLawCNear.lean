/- ConvertNear holds for every input: no raw reading has a nearer value than the nearest one; the nearest one of the value of a raw reading has the same value. No condition. -/
import Derived.Test.YtiinbgojoheicaaAw5
import Derived.Test.YtiinbgojoheicaaLaw4
namespace Go.Proofs.Ytiinbgojoheicaa.convertNear
open Go.RowKit Go.ChangeShapes Go.WideShapes Go.ChangeAt Go.Proofs.Ytiinbgojoheicaa.Mem Go.Proofs.Ytiinbgojoheicaa.M3p Go.Proofs.Ytiinbgojoheicaa.C4p Go.Proofs.Ytiinbgojoheicaa.C4l Go.Proofs.Ytiinbgojoheicaa.C4v Go.Proofs.Ytiinbgojoheicaa.P4 Go.Proofs.Ytiinbgojoheicaa.D5 Go.Proofs.Ytiinbgojoheicaa.Aw4 Go.Proofs.Ytiinbgojoheicaa.Made Go.Proofs.Ytiinbgojoheicaa.Law
set_option maxRecDepth 100000
set_option maxHeartbeats 4000000

theorem near_val {c : Cv} (h : vld c = true) (v : Int) : (near c v).2 = 0 ∨ (near c v).2 = 8 := by
  unfold near
  rw [if_pos h]
  split
  · exact .inr rfl
  · exact .inl rfl
theorem walk (A : Option Addr) (n c : Nat) (l : List Int) (hn : n = l.length) (hw : ∀ x ∈ l, -9223372036854775808 ≤ x ∧ x ≤ 9223372036854775807) (hc : n ≤ c) (hm : c ≤ maxLen) (_hA : A = none → c = 0)
    (v : Int) (_hv0 : -9223372036854775808 ≤ v ∧ v ≤ 9223372036854775807) (x : Int) (hx : 0 ≤ x ∧ x ≤ 255)
    (w : World) (hr : IRow w.heap.size w A l) :
    Calls Try.prog 10 #[.slice A n c, .int .i64 v, .int .u8 x] w fun e w' => e = .returned (.bool true) ∧ Below w.heap.size w w' := by
  obtain ⟨r, rfl⟩ : ∃ r : UInt8, x = (r.toNat : Int) := ⟨UInt8.ofNat x.toNat, by rw [UInt8.toNat_ofNat']; omega⟩
  have hnm : n ≤ maxLen := by omega
  have HN := Lib.hid hn
  have HW := Lib.hid hw
  clear hn hw hc hm _hA
  have haw := Lib.hid (fun u => awake_any u)
  by_cases h6 : n ≤ 600
  case neg =>
    have d6 : decide (n ≤ 600) = false := decide_eq_false h6
    go_enter Try.func10, Try.ntmps10
    go_wp2_with fail
    refine (lightmade_any A n c _ hnm).mono ?_
    rintro e w' ⟨rfl, rfl⟩
    rw [d6]
    go_wp2_with fail
    refine (haw.out _).mono ?_
    rintro e w3 ⟨rfl, hb3⟩
    go_wp2_with fail
    go_ret
    exact ⟨rfl, hb3⟩
  have d6 : decide (n ≤ 600) = true := decide_eq_true h6
  go_enter Try.func10, Try.ntmps10
  go_wp2_with fail
  refine (lightmade_any A n c _ hnm).mono ?_
  rintro e w' ⟨rfl, rfl⟩
  rw [d6]
  go_wp2_with fail
  refine (roll_any A n c w).mono ?_
  rintro e w1 ⟨rfl, rfl⟩
  obtain ⟨hdz, hb1⟩ := irow_light (c := c) HN.out hr HW.out h6
  go_wp2_with fail
  refine (conv_go2 hdz hb1 (Nat.le_refl _)).mono ?_
  rintro e wc ⟨f, m, b, k1, k2, s, A', n', c', p, rfl, hv, hown, hd, hbc, hgc⟩
  have hlt := hdz.lt
  rw [World.size_alloc] at hown
  clear d6 h6 hdz hb1 hr hnm HN HW

  have hal := World.grownBy_alloc wc (.cells #[.int .i64 f, .bool s, .int .i64 m, .int .i64 b, .int .i64 k1, .int .i64 k2, .slice A' n' c'] 24) none
  have hd1 := hd.grown hal (by simp) (fun k hk => by cases hk)
  have hrow1 := heap_alloc_new wc (.cells #[.int .i64 f, .bool s, .int .i64 m, .int .i64 b, .int .i64 k1, .int .i64 k2, .slice A' n' c'] 24)
  have hown1 : POwn (w.heap.size + 1) (wc.alloc (.cells #[.int .i64 f, .bool s, .int .i64 m, .int .i64 b, .int .i64 k1, .int .i64 k2, .slice A' n' c'] 24)) (.slice A' n' c') p := World.ownsRow.alloc hown _
  have hbw1 : Below w.heap.size w (wc.alloc (.cells #[.int .i64 f, .bool s, .int .i64 m, .int .i64 b, .int .i64 k1, .int .i64 k2, .slice A' n' c'] 24)) := hbc.alloc hbc.size _
  have hgc1 : w.heap.size < wc.heap.size := by have := hd.lt; exact this
  go_wp2_with fail
  generalize hF : wc.heap.size = F at *
  generalize wc.alloc (.cells #[.int .i64 f, .bool s, .int .i64 m, .int .i64 b, .int .i64 k1, .int .i64 k2, .slice A' n' c'] 24) = w1 at *
  clear hF hd hown hgc hal hbc
  refine hd1.micro.mono ?_
  rintro e w2 ⟨m0, rfl, hm0, hd2, hg2⟩
  have hrow2 := (hg2.block _ (lt_of_some hrow1) (fun e => by injection e; omega)).trans hrow1
  have hown2 := pown_kept hown1 hg2 (by omega)
  have hbw2 := hbw1.trans (grown_lo hg2 (Nat.le_refl _) hd1.lt)
  clear hd1 hrow1 hown1 hbw1 hg2
  go_wp2_with fail
  refine (hd2.bool 2 (by omega) (by omega)).mono ?_
  rintro e w3 ⟨bb, rfl, hd3, hg3⟩
  have hrow3 := (hg3.block _ (lt_of_some hrow2) (fun e => by injection e; omega)).trans hrow2
  have hs3 := pown_psl (pown_kept hown2 hg3 (by omega))
  have hbw3 := hbw2.trans (grown_lo hg3 (Nat.le_refl _) hd2.lt)
  have hcg0 := Cg.start hrow3
  clear hd2 hrow2 hown2 hbw2 hg3 hd3 hrow3
  have hvc := clp_le v
  have HCL := Lib.hid (fun u => M3r.clamp_r v u)
  obtain ⟨V, hV⟩ : ∃ V, V = clp v := ⟨_, rfl⟩
  rw [← hV] at HCL hvc
  unfold lim at hvc
  clear hV
  rcases bb with _ | _
  · obtain ⟨W, rfl⟩ : ∃ W, W = m0 := ⟨_, rfl⟩
    have hW := hm0
    obtain ⟨X, hX⟩ : ∃ D, D = (value ⟨f, s, m, b, k1, k2, p⟩ r).1 := ⟨_, rfl⟩
    obtain ⟨E, hE⟩ : ∃ D, D = (value ⟨f, s, m, b, k1, k2, p⟩ r).2 := ⟨_, rfl⟩
    obtain ⟨Q, hQ⟩ : ∃ D, D = (near ⟨f, s, m, b, k1, k2, p⟩ W).1 := ⟨_, rfl⟩
    obtain ⟨G, hG⟩ : ∃ D, D = (near ⟨f, s, m, b, k1, k2, p⟩ W).2 := ⟨_, rfl⟩
    obtain ⟨Q2, hQ2⟩ : ∃ D, D = (near ⟨f, s, m, b, k1, k2, p⟩ X).1 := ⟨_, rfl⟩
    obtain ⟨G2, hG2⟩ : ∃ D, D = (near ⟨f, s, m, b, k1, k2, p⟩ X).2 := ⟨_, rfl⟩
    obtain ⟨Y, hY⟩ : ∃ D, D = (value ⟨f, s, m, b, k1, k2, p⟩ Q).1 := ⟨_, rfl⟩
    obtain ⟨H, hH⟩ : ∃ D, D = (value ⟨f, s, m, b, k1, k2, p⟩ Q).2 := ⟨_, rfl⟩
    obtain ⟨Z, hZ⟩ : ∃ D, D = (value ⟨f, s, m, b, k1, k2, p⟩ Q2).1 := ⟨_, rfl⟩
    obtain ⟨I, hI⟩ : ∃ D, D = (value ⟨f, s, m, b, k1, k2, p⟩ Q2).2 := ⟨_, rfl⟩
    have C1 := Lib.hid (fun u hu => by have := value_p f m b k1 k2 s A' n' c' p r u hu; rw [← hX, ← hE] at this; exact this)
    have C2 := Lib.hid (fun u hu => by have := near_p f m b k1 k2 s A' n' c' p W u hu; rw [← hQ, ← hG] at this; exact this)
    have C3 := Lib.hid (fun u hu => by have := near_p f m b k1 k2 s A' n' c' p X u hu; rw [← hQ2, ← hG2] at this; exact this)
    have C4 := Lib.hid (fun u hu => by have := value_p f m b k1 k2 s A' n' c' p Q u hu; rw [← hY, ← hH] at this; exact this)
    have C5 := Lib.hid (fun u hu => by have := value_p f m b k1 k2 s A' n' c' p Q2 u hu; rw [← hZ, ← hI] at this; exact this)
    have g1 : G = 0 ∨ G = 8 := by rw [hG]; exact near_val hv W
    have hXl : -lim ≤ X ∧ X ≤ lim := by rw [hX]; exact value_in _ _
    have hYl : -lim ≤ Y ∧ Y ≤ lim := by rw [hY]; exact value_in _ _
    have fin : E = 0 → G = 0 ∧ G2 = 0 ∧ H = 0 ∧ I = 0 ∧ Z = X ∧ dist W Y ≤ dist W X := by
      intro h0
      have hr0 : (value ⟨f, s, m, b, k1, k2, p⟩ r).2 = 0 := by rw [← hE]; exact h0
      obtain ⟨q2, hn2, hv2⟩ := near_own hv hr0
      rw [← hX] at hn2
      have e1 : Q2 = q2 := by rw [hQ2, hn2]
      have e2 : G2 = 0 := by rw [hG2, hn2]
      have e3 : I = 0 := by rw [hI, e1, hv2]; exact hr0
      have e4 : Z = X := by rw [hZ, e1, hv2, hX]
      rcases near_is hv W with ⟨-, hno⟩ | ⟨q, hq, hq0, hall⟩
      · exact absurd hr0 (hno r)
      · have e5 : Q = q := by rw [hQ, hq]
        have e6 : G = 0 := by rw [hG, hq]
        have e7 : H = 0 := by rw [hH, e5]; exact hq0
        have := hall r hr0
        rw [clp_in (v := W) (by unfold lim; omega) (by unfold lim; omega), ← hX, ← e5, ← hY] at this
        exact ⟨e6, e2, e7, e3, e4, this⟩
    have FIN := Lib.hid fin
    unfold lim at hXl hYl
    clear hX hE hQ hG hQ2 hG2 hY hH hZ hI fin hv
    obtain ⟨k0, k1', k2', k3', k4', k5', k6'⟩ := hcg0.cells
    go_wp2_with fail
    refine (C1.out _ (hcg0.sl hs3)).mono ?_
    rintro e w4 ⟨rfl, hb4⟩
    have hcg1 := hcg0.step hb4
    clear k0 k1' k2' k3' k4' k5' k6' hb4
    obtain ⟨k0, k1', k2', k3', k4', k5', k6'⟩ := hcg1.cells
    go_wp2_with fail
    refine (C2.out _ (hcg1.sl hs3)).mono ?_
    rintro e w5 ⟨rfl, hb5⟩
    have hcg2 := hcg1.step hb5
    clear k0 k1' k2' k3' k4' k5' k6' hb5
    obtain ⟨k0, k1', k2', k3', k4', k5', k6'⟩ := hcg2.cells
    go_wp2_with fail
    refine (C3.out _ (hcg2.sl hs3)).mono ?_
    rintro e w6 ⟨rfl, hb6⟩
    have hcg3 := hcg2.step hb6
    clear k0 k1' k2' k3' k4' k5' k6' hb6
    obtain ⟨k0, k1', k2', k3', k4', k5', k6'⟩ := hcg3.cells
    have hend3 := Lib.hid (hcg3.all hbw3)
    by_cases hE0 : E = 0
    case neg =>
      have e0 : (E != 0) = true := by rw [bne_iff_ne]; exact hE0
      clear hE0
      rcases g1 with rfl | rfl
      all_goals
        go_wp2_with (go_at_call 15; refine (haw.out _).mono ?_; rintro e w7 ⟨rfl, hb7⟩)
        go_ret
        exact ⟨rfl, hend3.out.trans (hb7.mono hend3.out.size)⟩
    obtain ⟨e6, e2, e7, e3, e4, hdist⟩ := FIN.out hE0
    subst hE0 e6 e2 e7 e3 e4
    go_wp2_with fail
    refine (C4.out _ (hcg3.sl hs3)).mono ?_
    rintro e w7 ⟨rfl, hb7⟩
    have hcg4 := hcg3.step hb7
    clear k0 k1' k2' k3' k4' k5' k6' hb7
    obtain ⟨k0, k1', k2', k3', k4', k5', k6'⟩ := hcg4.cells
    go_wp2_with fail
    refine (C5.out _ (hcg4.sl hs3)).mono ?_
    rintro e w8 ⟨rfl, hb8⟩
    have hend5 := Lib.hid ((hcg4.step hb8).all hbw3)
    unfold dist at hdist
    have hmx : (max (Y - W) (W - Y) ≤ max (Z - W) (W - Z)) := by omega
    clear k0 k1' k2' k3' k4' k5' k6' hb8 hcg0 hcg1 hcg2 hcg3 hcg4 hs3 hdist
    go_wp2_with (go_at_call 15; refine (haw.out _).mono ?_; rintro e w9 ⟨rfl, hb9⟩)
    all_goals first
      | (exfalso; omega)
      | (go_ret
         exact ⟨rfl, hend5.out.trans (hb9.mono hend5.out.size)⟩)
  · obtain ⟨W, rfl⟩ : ∃ W, W = V := ⟨_, rfl⟩
    have hW := hvc
    go_wp2_with fail
    refine (HCL.out _).mono ?_
    rintro e w' ⟨rfl, rfl⟩
    obtain ⟨X, hX⟩ : ∃ D, D = (value ⟨f, s, m, b, k1, k2, p⟩ r).1 := ⟨_, rfl⟩
    obtain ⟨E, hE⟩ : ∃ D, D = (value ⟨f, s, m, b, k1, k2, p⟩ r).2 := ⟨_, rfl⟩
    obtain ⟨Q, hQ⟩ : ∃ D, D = (near ⟨f, s, m, b, k1, k2, p⟩ W).1 := ⟨_, rfl⟩
    obtain ⟨G, hG⟩ : ∃ D, D = (near ⟨f, s, m, b, k1, k2, p⟩ W).2 := ⟨_, rfl⟩
    obtain ⟨Q2, hQ2⟩ : ∃ D, D = (near ⟨f, s, m, b, k1, k2, p⟩ X).1 := ⟨_, rfl⟩
    obtain ⟨G2, hG2⟩ : ∃ D, D = (near ⟨f, s, m, b, k1, k2, p⟩ X).2 := ⟨_, rfl⟩
    obtain ⟨Y, hY⟩ : ∃ D, D = (value ⟨f, s, m, b, k1, k2, p⟩ Q).1 := ⟨_, rfl⟩
    obtain ⟨H, hH⟩ : ∃ D, D = (value ⟨f, s, m, b, k1, k2, p⟩ Q).2 := ⟨_, rfl⟩
    obtain ⟨Z, hZ⟩ : ∃ D, D = (value ⟨f, s, m, b, k1, k2, p⟩ Q2).1 := ⟨_, rfl⟩
    obtain ⟨I, hI⟩ : ∃ D, D = (value ⟨f, s, m, b, k1, k2, p⟩ Q2).2 := ⟨_, rfl⟩
    have C1 := Lib.hid (fun u hu => by have := value_p f m b k1 k2 s A' n' c' p r u hu; rw [← hX, ← hE] at this; exact this)
    have C2 := Lib.hid (fun u hu => by have := near_p f m b k1 k2 s A' n' c' p W u hu; rw [← hQ, ← hG] at this; exact this)
    have C3 := Lib.hid (fun u hu => by have := near_p f m b k1 k2 s A' n' c' p X u hu; rw [← hQ2, ← hG2] at this; exact this)
    have C4 := Lib.hid (fun u hu => by have := value_p f m b k1 k2 s A' n' c' p Q u hu; rw [← hY, ← hH] at this; exact this)
    have C5 := Lib.hid (fun u hu => by have := value_p f m b k1 k2 s A' n' c' p Q2 u hu; rw [← hZ, ← hI] at this; exact this)
    have g1 : G = 0 ∨ G = 8 := by rw [hG]; exact near_val hv W
    have hXl : -lim ≤ X ∧ X ≤ lim := by rw [hX]; exact value_in _ _
    have hYl : -lim ≤ Y ∧ Y ≤ lim := by rw [hY]; exact value_in _ _
    have fin : E = 0 → G = 0 ∧ G2 = 0 ∧ H = 0 ∧ I = 0 ∧ Z = X ∧ dist W Y ≤ dist W X := by
      intro h0
      have hr0 : (value ⟨f, s, m, b, k1, k2, p⟩ r).2 = 0 := by rw [← hE]; exact h0
      obtain ⟨q2, hn2, hv2⟩ := near_own hv hr0
      rw [← hX] at hn2
      have e1 : Q2 = q2 := by rw [hQ2, hn2]
      have e2 : G2 = 0 := by rw [hG2, hn2]
      have e3 : I = 0 := by rw [hI, e1, hv2]; exact hr0
      have e4 : Z = X := by rw [hZ, e1, hv2, hX]
      rcases near_is hv W with ⟨-, hno⟩ | ⟨q, hq, hq0, hall⟩
      · exact absurd hr0 (hno r)
      · have e5 : Q = q := by rw [hQ, hq]
        have e6 : G = 0 := by rw [hG, hq]
        have e7 : H = 0 := by rw [hH, e5]; exact hq0
        have := hall r hr0
        rw [clp_in (v := W) (by unfold lim; omega) (by unfold lim; omega), ← hX, ← e5, ← hY] at this
        exact ⟨e6, e2, e7, e3, e4, this⟩
    have FIN := Lib.hid fin
    unfold lim at hXl hYl
    clear hX hE hQ hG hQ2 hG2 hY hH hZ hI fin hv
    obtain ⟨k0, k1', k2', k3', k4', k5', k6'⟩ := hcg0.cells
    go_wp2_with fail
    refine (C1.out _ (hcg0.sl hs3)).mono ?_
    rintro e w4 ⟨rfl, hb4⟩
    have hcg1 := hcg0.step hb4
    clear k0 k1' k2' k3' k4' k5' k6' hb4
    obtain ⟨k0, k1', k2', k3', k4', k5', k6'⟩ := hcg1.cells
    go_wp2_with fail
    refine (C2.out _ (hcg1.sl hs3)).mono ?_
    rintro e w5 ⟨rfl, hb5⟩
    have hcg2 := hcg1.step hb5
    clear k0 k1' k2' k3' k4' k5' k6' hb5
    obtain ⟨k0, k1', k2', k3', k4', k5', k6'⟩ := hcg2.cells
    go_wp2_with fail
    refine (C3.out _ (hcg2.sl hs3)).mono ?_
    rintro e w6 ⟨rfl, hb6⟩
    have hcg3 := hcg2.step hb6
    clear k0 k1' k2' k3' k4' k5' k6' hb6
    obtain ⟨k0, k1', k2', k3', k4', k5', k6'⟩ := hcg3.cells
    have hend3 := Lib.hid (hcg3.all hbw3)
    by_cases hE0 : E = 0
    case neg =>
      have e0 : (E != 0) = true := by rw [bne_iff_ne]; exact hE0
      clear hE0
      rcases g1 with rfl | rfl
      all_goals
        go_wp2_with (go_at_call 15; refine (haw.out _).mono ?_; rintro e w7 ⟨rfl, hb7⟩)
        go_ret
        exact ⟨rfl, hend3.out.trans (hb7.mono hend3.out.size)⟩
    obtain ⟨e6, e2, e7, e3, e4, hdist⟩ := FIN.out hE0
    subst hE0 e6 e2 e7 e3 e4
    go_wp2_with fail
    refine (C4.out _ (hcg3.sl hs3)).mono ?_
    rintro e w7 ⟨rfl, hb7⟩
    have hcg4 := hcg3.step hb7
    clear k0 k1' k2' k3' k4' k5' k6' hb7
    obtain ⟨k0, k1', k2', k3', k4', k5', k6'⟩ := hcg4.cells
    go_wp2_with fail
    refine (C5.out _ (hcg4.sl hs3)).mono ?_
    rintro e w8 ⟨rfl, hb8⟩
    have hend5 := Lib.hid ((hcg4.step hb8).all hbw3)
    unfold dist at hdist
    have hmx : (max (Y - W) (W - Y) ≤ max (Z - W) (W - Z)) := by omega
    clear k0 k1' k2' k3' k4' k5' k6' hb8 hcg0 hcg1 hcg2 hcg3 hcg4 hs3 hdist
    go_wp2_with (go_at_call 15; refine (haw.out _).mono ?_; rintro e w9 ⟨rfl, hb9⟩)
    all_goals first
      | (exfalso; omega)
      | (go_ret
         exact ⟨rfl, hend5.out.trans (hb9.mono hend5.out.size)⟩)

theorem cells_u8 : Try.prog.cellsOf 5 = 1 := by kernel_rfl
theorem cells_int : Try.prog.cellsOf 3 = 1 := by kernel_rfl
theorem own : ownKnob Try.prog.godebug = none := by kernel_rfl
theorem laidOut : laidOutB Try.prog = true := by kernel_rfl
theorem contract (H : Type) (enc : TypeId × Value → H) (W : World) (base : Nat) (args : Array Value) (ds gs : List (DataW H)) (before : List MemPlace)
    (hval : ∀ (j : Nat) t v, Try.f10.params[j]? = some t → args[j]? = some v → Value.okWide Try.prog W .any base t v)
    (hW : DataW.Whole enc Try.prog Try.f10.params.toList Rows.convertNearSpec.vars false W args.toList ds gs before) :
    Calls Try.prog 10 args W fun e W' => ∃ v, e = .returned v ∧ Rows.convertNearSpec.post enc Try.prog Try.f10 false true false false W args v W' := by
  have hW' := hW
  obtain ⟨p, q, hA0, hV, rfl, hfz, hnd⟩ := hW
  have hA : DataW.TrodAll enc Try.prog W 0 (fun _ => true) true Try.f10.params.toList args.toList ds p := hA0
  rw [Try.params10] at hA hval
  obtain ⟨v0, vs0, d0, ds0, p0, q0, hargs, rfl, rfl, h0, r0⟩ := trodAll_cons hA
  obtain ⟨v1, vs1, d1, ds1, p1, q1, rfl, rfl, rfl, h1, r1⟩ := trodAll_cons r0
  obtain ⟨v2, vs2, d2, ds2, p2, q2, rfl, rfl, rfl, h2, r2⟩ := trodAll_cons r1
  obtain ⟨rfl, rfl, rfl⟩ := trodAll_nil r2
  obtain rfl : args = #[v0, v1, v2] := by cases args; simp_all
  obtain ⟨A0, n0, c0, l0, rfl, hn0, hr0, hw0, hc0, hm0, hk0⟩ := open_int_list Try.underlying25 Try.underlying3 cells_int (hval 0 25 v0 rfl rfl) h0
  obtain ⟨a1, rfl, -, -, w1⟩ := open_int Try.underlying2 (hval 1 2 v1 rfl rfl) h1
  obtain ⟨a2, rfl, -, -, w2⟩ := open_int Try.underlying5 (hval 2 5 v2 rfl rfl) h2
  clear hA0
  refine (walk A0 n0 c0 l0 hn0 hw0 hc0 hm0 hk0 a1 (bounds_i64 w1) a2 (bounds_u8 w2) W hr0).mono fun e W' ⟨he, hb⟩ => ?_
  subst he
  exact ⟨_, rfl, law_post laidOut (types_fit (by kernel_rfl)) (by kernel_rfl) Try.underlying4 rfl (fun xs hx => by
    match xs, hx with
    | [_, _, _], _ => rfl) hW' hb⟩

theorem lifted (os : Os) (started : os.Started) (H : Type) (enc : TypeId × Value → H) :
    ReturnsInHanded {} Try.checked os 10 .any (Rows.convertNearSpec.pre6 enc Try.prog Try.f10 Rows.convertNearRow.domain false) (Rows.convertNearSpec.post enc Try.prog Try.f10 false true false false) := by
  refine returnsInHanded_of_change (C := Try.checked) own started (by kernel_rfl) Try.func10
    (ChangeSpec.witness6 (enc := enc) (C := Try.checked) false ⟨#[], #[.slice none 0 0, .int .i64 0, .int .u8 0], []⟩ 8 (by kernel_rfl) (by kernel_rfl) (by kernel_rfl) (by kernel_rfl)) ?_
  intro W base args ds gs before hval hW _ _
  exact contract H enc W base args ds gs before hval hW

theorem proved : Rows.ConvertNearSaid :=
  OpenClaim.holds_of_wide 10 Try.f10 rfl rfl rfl rfl rfl rfl rfl ⟨rfl, rfl, rfl, rfl, rfl⟩ rfl rfl rfl rfl rfl (by kernel_rfl) Try.func10 (by kernel_rfl)
    (of_decide_eq_true (by kernel_rfl)) (by unfold Func.isWrapper; first | (rw [if_pos (by decide +kernel)]; kernel_rfl) | (rw [if_neg (by decide +kernel)]; exact ⟨rfl, rfl⟩))
    (fun os started H enc _ => lifted os started H enc)
end Go.Proofs.Ytiinbgojoheicaa.convertNear
