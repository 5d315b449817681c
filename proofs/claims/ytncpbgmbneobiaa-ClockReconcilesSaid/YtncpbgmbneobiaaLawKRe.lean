/- The statement ClockReconciles: the reconciled times of any events, or that there are none, are what the chapter's reference says, for any list of events and those that a list of numbers makes. -/
import Derived.Test.YtncpbgmbneobiaaV9v
import Derived.Test.YtncpbgmbneobiaaDe
import Derived.Test.YtncpbgmbneobiaaLaw8
import Derived.Test.YtncpbgmbneobiaaSwp
import Derived.Deep.RegionLaw
namespace Go.Proofs.Ytncpbgmbneobiaa.clockReconciles
open Go.RowKit Go.ChangeShapes Go.WideShapes Go.ChangeAt Go.Proofs.Ytncpbgmbneobiaa.Mem Go.Proofs.Ytncpbgmbneobiaa.Law Go.Proofs.Ytncpbgmbneobiaa.F2p Go.Proofs.Ytncpbgmbneobiaa.V7 Go.Proofs.Ytncpbgmbneobiaa.V9 Go.Proofs.Ytncpbgmbneobiaa.Made Go.Proofs.Ytncpbgmbneobiaa.De Go.Proofs.Ytncpbgmbneobiaa.Swp
set_option maxRecDepth 100000
set_option maxHeartbeats 4000000

/-- An event, its direction turned. -/
def turn (e : Ev) : Ev := ⟨e.id, e.time, e.gen, e.st, e.sn, e.ty, !e.de, e.d0, e.d1, e.d2⟩
theorem turn_fit {e : Ev} (h : e.Fit) : (turn e).Fit := ⟨h.id, h.time, h.gen, h.st, h.sn, h.ty, h.d0, h.d1, h.d2⟩
theorem evs_set : ∀ (l : List Ev) (i : Nat) (h : i < l.length), (evs l).set (i * 10 + 6) (.bool (!l[i].de)) = evs (l.set i (turn l[i]))
  | x :: l, 0, _ => rfl
  | x :: l, i + 1, h => by
    have := evs_set l i (by simpa using h)
    simp only [evs, List.getElem_cons_succ, List.set_cons_succ]
    rw [List.set_append_right _ _ (by rw [cells_len]; omega), cells_len, ← this]
    congr 2; omega
theorem eown_form {base : Nat} {w : World} {v : Value} {l : List Ev} (h : EOwn base w v l) (hl : 0 < l.length) : ∃ g c, v = .slice (some ⟨g, 0, none⟩) l.length c ∧ base ≤ g ∧ l.length ≤ c := by
  rcases h.2 with ⟨_, h0⟩ | ⟨g, cap, cur, rfl, hg, _, h1, _⟩
  · omega
  · exact ⟨g, cap, rfl, hg, h1⟩
theorem fit_set {l : List Ev} (hf : ∀ e ∈ l, e.Fit) (i : Nat) (h : i < l.length) : ∀ e ∈ l.set i (turn l[i]), e.Fit := fun e he => by
  rcases List.mem_or_eq_of_mem_set he with he | rfl
  · exact hf e he
  · exact turn_fit (hf _ (List.getElem_mem h))
theorem eown_new {base : Nat} {w w' : World} {v : Value} {l : List Ev} {o : Obj} (h : EOwn base w v l) (hg : (w.alloc o).grownBy w' (some w.heap.size)) : EOwn base w' v l :=
  World.ownsRow.kept (eown_below h ((Below.refl _ _).alloc (Nat.le_refl _) o)) hg (.inr (by
    intro e
    have := (World.ownsRow.lt h _ e).2
    omega))
/-- What holds before each throw; k throws are left. -/
structure Rel (W : World) (A : Option Addr) (n c : Nat) (l : List Int) (k : Int) (m : List Ev) (v : Value) (w : World) : Prop where
  rng : 0 ≤ k ∧ k ≤ 19
  len : (m.length : Int) + 2 * k ≤ 38
  fit : ∀ e ∈ m, e.Fit
  own : EOwn (W.heap.size + 1) w v m
  dz : Dz w W.heap.size A n c l
  bel : Below W.heap.size W w
theorem walk (A0 : Option Addr) (n0 c0 : Nat) (l0 : List Ev) (hf0 : ∀ e ∈ l0, e.Fit)
    (A : Option Addr) (n c : Nat) (l : List Int) (hn : n = l.length) (hw : ∀ x ∈ l, -9223372036854775808 ≤ x ∧ x ≤ 9223372036854775807) (hc : n ≤ c) (hm : c ≤ maxLen) (_hA : A = none → c = 0) (W : World) (h0 : ESl W A0 n0 c0 l0) (hr : IRow W.heap.size W A l) :
    Calls Try.prog 3 #[.slice A0 n0 c0, .slice A n c] W fun e W' => e = .returned (.bool true) ∧ Below W.heap.size W W' := by
  have haw := Lib.hid (fun u => awake_any u)
  by_cases h100 : n0 ≤ 100
  · have g1 : ¬ (100 : Int) < (n0 : Int) := by omega
    by_cases h600 : n ≤ 600
    · have hL1 := Lib.hid (fun u => by have := lightmade_any A n c u (by unfold maxLen at *; omega); rw [decide_eq_true h600] at this; exact this)
      have hd1 := Lib.hid (Dz.start A n c l W hr hn hw (by omega))
      have hb0 : Below W.heap.size W (W.alloc (.cells #[.slice A n c, .int .i64 0] 81)) := (Below.refl _ _).alloc (Nat.le_refl _) _
      have hz0 : (W.alloc (.cells #[.slice A n c, .int .i64 0] 81)).heap.size = W.heap.size + 1 := by simp
      replace hb0 := Lib.hid hb0
      replace h0 := Lib.hid h0
      clear hr hn hw
      go_enter Try.func3, Try.ntmps3
      go_wp2_with (go_at_call 10; refine (hL1.out _).mono ?_; rintro e w' ⟨rfl, rfl⟩)
      refine (roll_any A n c _).mono ?_
      rintro e w1 ⟨rfl, rfl⟩
      have D1 := hd1.out
      generalize W.alloc (.cells #[.slice A n c, .int .i64 0] 81) = w1 at *
      clear hL1
      go_wp2_with fail
      refine (D1.next 20 (by omega) (by omega)).mono ?_
      rintro e w2 ⟨k0, hk0, rfl, D2, g2⟩
      have HST : Hid (Rel W A n c l (k0 : Int) [] (.slice none 0 0) w2) := Lib.hid
        ⟨by omega, by simp; omega, by simp, EOwn.nil, D2, hb0.out.grown g2 (by omega) (fun q hq => by injection hq; omega)⟩
      clear D1 D2 g2 hd1 hb0
      go_wp2_with fail
      go_loopw [6, 7] (fun v i wr => ∃ (k : Int) (m : List Ev), i = .int .i64 k ∧ Rel W A n c l k m v wr) (fun _ i _ => (intOf i).toNat)
      case atStart => exact ⟨(k0 : Int), [], rfl, HST.out⟩
      case round =>
        obtain ⟨k, m, rfl, R⟩ := hrel
        have hk := R.rng
        have HR := Lib.hid R
        clear R
        rcases Int.lt_or_le 0 k with hpos | hle
        · have D := HR.out.dz
          have hwk : wrap64 (k - 1) = k - 1 := by unfold wrap64; omega
          have hlw : W.heap.size < wr.heap.size := D.lt
          have hlen := HR.out.len
          go_wp2_with fail
          refine (event_any D).mono ?_
          rintro e u1 ⟨x, rfl, hx, D1, g1⟩
          have O1 := eown_off HR.out.own g1 (Nat.lt_succ_self _)
          have B1 := HR.out.bel.grown g1 (by omega) (fun q hq => by injection hq; omega)
          have hlu : W.heap.size < u1.heap.size := D1.lt
          clear D g1
          replace O1 := Lib.hid O1
          replace B1 := Lib.hid B1
          replace D1 := Lib.hid D1
          go_wp2_with (refine wpList_store_box rfl (.tmp 8) (.tmp 37) rfl u1.heap.size x Ev.none rfl rfl (Box.new u1 Ev.none) ?_; intro u2 hB2 hg2; refine Hid.out ?_)
          refine Lib.hid ?_
          have hz2 := hg2.size
          rw [World.size_alloc] at hz2
          have O2 := eown_new O1.out hg2
          have B2 := (B1.out.alloc B1.out.size (.cells Ev.none.cells 33)).grown hg2 (by simp; omega) (fun q hq => by injection hq; omega)
          have D2 := Dz.grown (Dz.below D1.out ((Below.refl _ _).alloc (Nat.le_refl _) (.cells Ev.none.cells 33)) hlu) hg2 (fun e => by injection e; omega) (fun q hq => by injection hq; omega)
          have hz3 : u1.heap.size + 1 ≤ u2.heap.size := by simpa using hz2
          clear hg2 O1 B1 D1 hz2
          go_wp2_with fail
          refine (D2.bool 2 (by omega) (by omega)).mono ?_
          rintro e u3 ⟨b2, rfl, D3, g3⟩
          have O3 := eown_off O2 g3 (Nat.lt_succ_self _)
          have B3 := B2.grown g3 (by omega) (fun q hq => by injection hq; omega)
          have hB3 := hB2.grown g3 (fun e => by injection e; omega)
          have hz4 : u1.heap.size + 1 ≤ u3.heap.size := Nat.le_trans hz3 g3.size
          clear O2 B2 hB2 D2 g3 hz3
          have hxf := hx.fit
          replace O3 := Lib.hid O3
          replace B3 := Lib.hid B3
          replace D3 := Lib.hid D3
          cases b2
          · go_wp2_with (refine wpList_load_box rfl (.tmp 8) rfl u1.heap.size x rfl hB3 ?_; refine Hid.out ?_)
            dsimp only [Ev.v, Ev.cells]
            refine Lib.hid ?_
            have S4 : EvsAt (u3.alloc (.cells x.cells 33)) ⟨u3.heap.size, 0, none⟩ [x] := (box_at (Box.new u3 x)).one
            have O4 := eown_below O3.out ((Below.refl _ _).alloc (Nat.le_refl _) (.cells x.cells 33))
            have B4 := B3.out.alloc B3.out.size (.cells x.cells 33)
            have D4 := Dz.below D3.out ((Below.refl _ _).alloc (Nat.le_refl _) (.cells x.cells 33)) (by omega)
            have z4 : W.heap.size + 1 ≤ (u3.alloc (.cells x.cells 33)).heap.size := by simp; omega
            simp only [Ev.cells] at S4 O4 B4 D4 z4
            replace B4 := Lib.hid B4
            replace D4 := Lib.hid D4
            clear O3 B3 D3 hB3
            go_wp2_with (refine wpList_append_e _ rfl (.tmp 71) (.tmp 73) rfl (W.heap.size + 1) u6 m rfl O4 [x] ⟨u3.heap.size, 0, none⟩ 1 1 rfl rfl S4 (by simp; omega) z4 ?_; intro x4 Y5 O5 G5; refine Hid.out ?_)
            refine Lib.hid ?_
            have B5 := below_own O4 B4.out G5 (Nat.le_succ _) (by omega)
            have D5 := Dz.grown D4.out G5 (fun e => by have := (World.ownsRow.lt O4 _ e).1; omega) (fun q hq => by have := (World.ownsRow.lt O4 _ hq).1; omega)
            have hf5 : ∀ e ∈ m ++ [x], e.Fit := fun e he => by
              rcases List.mem_append.1 he with he | he
              · exact HR.out.fit e he
              · obtain rfl := List.mem_singleton.1 he; exact hxf
            have hl5 : 0 < (m ++ [x]).length := by simp
            have hlen5 : ((m ++ [x]).length : Int) + 2 * (k - 1) ≤ 38 := by simp; omega
            clear O4 S4 B4 D4 G5 z4 HR hlen
            generalize m ++ [x] = M at *
            replace O5 := Lib.hid O5
            replace B5 := Lib.hid B5
            have hf5 := Lib.hid hf5
            have hlY : W.heap.size < Y5.heap.size := D5.lt
            go_wp2_with fail
            refine (D5.bool 20 (by omega) (by omega)).mono ?_
            rintro e Y6 ⟨b6, rfl, D6, g6⟩
            have O6 := eown_off O5.out g6 (Nat.lt_succ_self _)
            have B6 := B5.out.grown g6 (by omega) (fun q hq => by injection hq; omega)
            clear O5 B5 D5 g6
            replace D6 := Lib.hid D6
            replace B6 := Lib.hid B6
            cases b6
            · replace O6 := Lib.hid O6
              go_wp2_with fail
              exact ⟨⟨k - 1, M, rfl, ⟨by omega, hlen5, hf5.out, O6.out, D6.out, B6.out⟩⟩, by simp only [intOf]; omega⟩
            · obtain ⟨g, cg, rfl, hg, hcg⟩ := eown_form O6 hl5
              obtain ⟨i, hi⟩ : ∃ i, M.length = i + 1 := ⟨M.length - 1, by omega⟩
              have hiM : i < M.length := by omega
              have ce : Y6.cell? ⟨g, i * 10 + 6, none⟩ = some (.bool M[i].de) := by
                rw [World.ownsRow.cellAt O6 (i * 10 + 6) (by omega), evs_get M i hiM 6 (by omega)]; rfl
              have fe : Y6.frozen? ⟨g, i * 10 + 6, none⟩ = false := World.ownsRow.frozenAt O6 (i * 10 + 6)
              have hst := World.ownsRow.stored O6 (i * 10 + 6) (.bool (!M[i].de))
              rw [evs_set M i hiM] at hst
              have hN := Lib.hid hi
              have hcg2 : i + 1 ≤ cg := by omega
              rw [hi] at hst ⊢
              clear hi
              replace hst := Lib.hid hst
              replace O6 := Lib.hid O6
              generalize hde : M[i].de = b at *
              have hwi : wrap64 ((i : Int) + 1 - 1) = (i : Int) := by unfold wrap64; omega
              go_wp2_with fail
              have O7 : EOwn (W.heap.size + 1) (Y6.setCell ⟨g, i * 10 + 6, none⟩ (.bool (!b))) (.slice (some ⟨g, 0, none⟩) (i + 1) cg) (M.set i (turn M[i])) := by
                have h1 := hst.out.1
                unfold EOwn
                rw [List.length_set, hN.out]
                exact h1
              have B7 := B6.out.grown hst.out.2 (by have := B6.out.size; omega) (fun q hq => by injection hq; omega)
              have D7 := Dz.grown D6.out hst.out.2 (fun e => by injection e; omega) (fun q hq => by injection hq; omega)
              refine ⟨⟨k - 1, _, rfl, ⟨by omega, by rw [List.length_set]; exact hlen5, fit_set hf5.out i hiM, O7, D7, B7⟩⟩, by simp only [intOf]; omega⟩
          · go_wp2_with fail
            refine (D3.out.next 100000 (by omega) (by omega)).mono ?_
            rintro e u4 ⟨q1, hq1, rfl, D4, g4⟩
            have O4 := eown_off O3.out g4 (Nat.lt_succ_self _)
            have B4 := B3.out.grown g4 (by omega) (fun q hq => by injection hq; omega)
            have hz5 := g4.size
            clear O3 B3 D3 g4 hB3
            replace O4 := Lib.hid O4
            replace B4 := Lib.hid B4
            go_wp2_with fail
            refine (D4.next 100000 (by omega) (by omega)).mono ?_
            rintro e u5 ⟨q2, hq2, rfl, D5, g5⟩
            have O5 := eown_off O4.out g5 (Nat.lt_succ_self _)
            have B5 := B4.out.grown g5 (by omega) (fun q hq => by injection hq; omega)
            have hz6 := g5.size
            clear O4 B4 D4 g5
            replace O5 := Lib.hid O5
            replace B5 := Lib.hid B5
            have hok : (Ck.mk (q1 : Int) 0 false).ok = true := by simp [Ck.ok]; omega
            obtain ⟨T, hT⟩ : ∃ T, T = (Ck.mk (q1 : Int) 0 false).tm.toNat := ⟨_, rfl⟩
            have hT9 : T < 4294967296 := by have := (Ck.ok_b hok).2.2.2; omega
            have had := Lib.hid (fun u => (show Calls Try.prog 16 #[.agg #[.int .i64 (q1 : Int), .int .i64 0, .bool false], .int .u32 (q2 : Int)] u fun x w' => ∃ v, x = .returned (.tuple #[.agg #[.int .i64 (q1 : Int), .int .i64 ((q2 : Int) - (q1 : Int) / 10), .bool true], v, .int .i64 0]) ∧ EOwn u.heap.size w' v [chg 0 T, chg 128 q2] ∧ Below u.heap.size u w' from by
              have := adjust_r ⟨(q1 : Int), 0, false⟩ ⟨by show _ ≤ (q1 : Int) ∧ (q1 : Int) ≤ _; omega, by show (-9223372036854775808 : Int) ≤ 0 ∧ (0 : Int) ≤ _; decide⟩ q2 (by omega) u
              rw [show adj ⟨(q1 : Int), 0, false⟩ q2 = (⟨(q1 : Int), (q2 : Int) - (q1 : Int) / 10, true⟩, [chg 0 T, chg 128 q2], 0) by unfold adj; rw [hok, if_pos rfl, if_neg (by omega), hT]] at this
              exact this))
            clear hok hT
            go_wp2_with fail
            refine (had.out _).mono ?_
            rintro e u6' ⟨v6, rfl, hown6, hb6⟩
            have hz7 := hb6.size
            have O6 := eown_below O5.out hb6
            have B6 := B5.out.trans (hb6.mono B5.out.size)
            have D6 := Dz.below D5 hb6 D5.lt
            obtain ⟨g6, c6, rfl, hg6, hc6⟩ := eown_form hown6 (by simp)
            have P6 := eown_base hown6 (show W.heap.size + 1 ≤ u5.heap.size by have := D5.lt; omega)
            have hal : Below u6'.heap.size u6' (u6'.alloc (.cells #[.int .i64 (q1 : Int), .int .i64 ((q2 : Int) - (q1 : Int) / 10), .bool true] 37)) := (Below.refl _ _).alloc (Nat.le_refl _) _
            have P7 := eown_below P6 hal
            have O7 := eown_below O6 hal
            have B7 := B6.trans (hal.mono B6.size)
            have D7 := Dz.below D6 hal D6.lt
            have hfm := Lib.hid HR.out.fit
            have hne : Hid (∀ b, u6.ownBlock = some b → b < u5.heap.size) := Lib.hid (fun b hb => (World.ownsRow.lt O5.out _ hb).2)
            clear O5 B5 D5 hb6 hown6 had HR hc6 h0 hal O6 B6 P6 D6
            replace O7 := Lib.hid O7
            replace B7 := Lib.hid B7
            replace P7 := Lib.hid P7
            go_wp2_with fail
            refine (D7.bool 12 (by omega) (by omega)).mono ?_
            rintro e u8 ⟨b8, rfl, D8, g8⟩
            have O8 := eown_off O7.out g8 (Nat.lt_succ_self _)
            have P8 := eown_off P7.out g8 (Nat.lt_succ_self _)
            have B8 := B7.out.grown g8 (by have := D7.lt; omega) (fun q hq => by injection hq; omega)
            clear O7 P7 B7 D7 g8
            cases b8
            · replace O8 := Lib.hid O8
              replace B8 := Lib.hid B8
              replace P8 := Lib.hid P8
              replace D8 := Lib.hid D8
              go_wp2_with (refine wpList_append_e _ rfl (.tmp 68) (.tmp 69) rfl (W.heap.size + 1) u6 m rfl O8.out [chg 0 T, chg 128 q2] ⟨g6, 0, none⟩ 2 c6 rfl rfl (evs_of_own P8.out (by simp)) (by simp; omega) (by have := D8.out.lt; omega) ?_; intro x4 Y5 O5 G5; refine Hid.out ?_)
              refine Lib.hid ?_
              have B5 := below_own O8.out B8.out G5 (Nat.le_succ _) (by have := D8.out.lt; omega)
              have D5 := Dz.grown D8.out G5 (fun e => by have := (World.ownsRow.lt O8.out _ e).1; omega) (fun q hq => by have := (World.ownsRow.lt O8.out _ hq).1; omega)
              have hf5 : ∀ e ∈ m ++ [chg 0 T, chg 128 q2], e.Fit := fun e he => by
                rcases List.mem_append.1 he with he | he
                · exact hfm.out e he
                · rcases (by simpa using he : e = chg 0 T ∨ e = chg 128 q2) with rfl | rfl
                  · exact chg_fit (by omega) (by omega)
                  · exact chg_fit (by omega) (by omega)
              have hl5 : 0 < (m ++ [chg 0 T, chg 128 q2]).length := by simp
              have hlen5 : ((m ++ [chg 0 T, chg 128 q2]).length : Int) + 2 * (k - 1) ≤ 38 := by simp; omega
              clear O8 P8 B8 D8 G5 hfm hlen
              generalize m ++ [chg 0 T, chg 128 q2] = M at *
              replace O5 := Lib.hid O5
              replace B5 := Lib.hid B5
              have hf5 := Lib.hid hf5
              have hlY : W.heap.size < Y5.heap.size := D5.lt
              go_wp2_with fail
              refine (D5.bool 20 (by omega) (by omega)).mono ?_
              rintro e Y6 ⟨b6, rfl, D6, g6⟩
              have O6 := eown_off O5.out g6 (Nat.lt_succ_self _)
              have B6 := B5.out.grown g6 (by omega) (fun q hq => by injection hq; omega)
              clear O5 B5 D5 g6
              replace D6 := Lib.hid D6
              replace B6 := Lib.hid B6
              cases b6
              · replace O6 := Lib.hid O6
                go_wp2_with fail
                exact ⟨⟨k - 1, M, rfl, ⟨by omega, hlen5, hf5.out, O6.out, D6.out, B6.out⟩⟩, by simp only [intOf]; omega⟩
              · obtain ⟨g, cg, rfl, hg, hcg⟩ := eown_form O6 hl5
                obtain ⟨i, hi⟩ : ∃ i, M.length = i + 1 := ⟨M.length - 1, by omega⟩
                have hiM : i < M.length := by omega
                have ce : Y6.cell? ⟨g, i * 10 + 6, none⟩ = some (.bool M[i].de) := by
                  rw [World.ownsRow.cellAt O6 (i * 10 + 6) (by omega), evs_get M i hiM 6 (by omega)]; rfl
                have fe : Y6.frozen? ⟨g, i * 10 + 6, none⟩ = false := World.ownsRow.frozenAt O6 (i * 10 + 6)
                have hst := World.ownsRow.stored O6 (i * 10 + 6) (.bool (!M[i].de))
                rw [evs_set M i hiM] at hst
                have hN := Lib.hid hi
                have hcg2 : i + 1 ≤ cg := by omega
                rw [hi] at hst ⊢
                clear hi
                replace hst := Lib.hid hst
                replace O6 := Lib.hid O6
                generalize hde : M[i].de = b at *
                have hwi : wrap64 ((i : Int) + 1 - 1) = (i : Int) := by unfold wrap64; omega
                go_wp2_with fail
                have O7 : EOwn (W.heap.size + 1) (Y6.setCell ⟨g, i * 10 + 6, none⟩ (.bool (!b))) (.slice (some ⟨g, 0, none⟩) (i + 1) cg) (M.set i (turn M[i])) := by
                  have h1 := hst.out.1
                  unfold EOwn
                  rw [List.length_set, hN.out]
                  exact h1
                have B7 := B6.out.grown hst.out.2 (by have := B6.out.size; omega) (fun q hq => by injection hq; omega)
                have D7 := Dz.grown D6.out hst.out.2 (fun e => by injection e; omega) (fun q hq => by injection hq; omega)
                refine ⟨⟨k - 1, _, rfl, ⟨by omega, by rw [List.length_set]; exact hlen5, fit_set hf5.out i hiM, O7, D7, B7⟩⟩, by simp only [intOf]; omega⟩
            · have R0 := own_range P8 0 (chg 0 T).cells.toList (fun j v hv => by
                have := evs_get [chg 0 T, chg 128 q2] 0 (by simp) j (by have := (List.getElem?_eq_some_iff.1 hv).1; exact this)
                rw [← hv, Nat.zero_add]; simpa using this)
              have R1 := own_range P8 10 (chg 128 q2).cells.toList (fun j v hv => by
                have := evs_get [chg 0 T, chg 128 q2] 1 (by simp) j (by have := (List.getElem?_eq_some_iff.1 hv).1; exact this)
                rw [← hv]; simpa using this)
              have T0 := own_there P8 0 10 (by rw [evs_len]; simp)
              have T1 := own_there P8 10 10 (by rw [evs_len]; simp)
              have hsw := swp_drew P8
              have O9 := World.ownsRow.kept O8 hsw.2 (.inr (by
                intro e
                have := hne.out _ e
                omega))
              have B9 := B8.grown hsw.2 (by have := D8.lt; omega) (fun q hq => by injection hq; omega)
              have D9 := Dz.grown D8 hsw.2 (fun e => by injection e; omega) (fun q hq => by injection hq; omega)
              have P9 := hsw.1
              replace O9 : Hid (EOwn (W.heap.size + 1) (swp u8 g6 T q2).drew u6 m) := Lib.hid O9
              replace B9 := Lib.hid B9
              replace P9 := Lib.hid P9
              replace D9 := Lib.hid D9
              replace O8 := Lib.hid O8
              replace B8 := Lib.hid B8
              replace P8 := Lib.hid P8
              replace D8 := Lib.hid D8
              replace R0 := Lib.hid R0
              replace R1 := Lib.hid R1
              replace T0 := Lib.hid T0
              replace T1 := Lib.hid T1
              replace hsw := Lib.hid hsw
              go_wp2_with fail
              have c0 : u8.cell? ⟨g6, 0, none⟩ = some (.int .u16 0) := R0.out 0 _ rfl
              have f0 : u8.frozen? ⟨g6, 0, none⟩ = false := (T0.out 0 (by omega)).2
              have c1 : u8.cell? ⟨g6, 1, none⟩ = some (.int .u32 (T : Int)) := R0.out 1 _ rfl
              have f1 : u8.frozen? ⟨g6, 1, none⟩ = false := (T0.out 1 (by omega)).2
              have c2 : u8.cell? ⟨g6, 2, none⟩ = some (.int .u16 32) := R0.out 2 _ rfl
              have f2 : u8.frozen? ⟨g6, 2, none⟩ = false := (T0.out 2 (by omega)).2
              have c3 : u8.cell? ⟨g6, 3, none⟩ = some (.int .u8 18) := R0.out 3 _ rfl
              have f3 : u8.frozen? ⟨g6, 3, none⟩ = false := (T0.out 3 (by omega)).2
              have c4 : u8.cell? ⟨g6, 4, none⟩ = some (.int .u8 0) := R0.out 4 _ rfl
              have f4 : u8.frozen? ⟨g6, 4, none⟩ = false := (T0.out 4 (by omega)).2
              have c5 : u8.cell? ⟨g6, 5, none⟩ = some (.int .u8 111) := R0.out 5 _ rfl
              have f5 : u8.frozen? ⟨g6, 5, none⟩ = false := (T0.out 5 (by omega)).2
              have c6 : u8.cell? ⟨g6, 6, none⟩ = some (.bool false) := R0.out 6 _ rfl
              have f6 : u8.frozen? ⟨g6, 6, none⟩ = false := (T0.out 6 (by omega)).2
              have c7 : u8.cell? ⟨g6, 7, none⟩ = some (.int .u8 5) := R0.out 7 _ rfl
              have f7 : u8.frozen? ⟨g6, 7, none⟩ = false := (T0.out 7 (by omega)).2
              have c8 : u8.cell? ⟨g6, 8, none⟩ = some (.int .u8 0) := R0.out 8 _ rfl
              have f8 : u8.frozen? ⟨g6, 8, none⟩ = false := (T0.out 8 (by omega)).2
              have c9 : u8.cell? ⟨g6, 9, none⟩ = some (.int .u8 255) := R0.out 9 _ rfl
              have f9 : u8.frozen? ⟨g6, 9, none⟩ = false := (T0.out 9 (by omega)).2
              have c10 : u8.cell? ⟨g6, 10, none⟩ = some (.int .u16 0) := R1.out 0 _ rfl
              have f10 : u8.frozen? ⟨g6, 10, none⟩ = false := (T1.out 0 (by omega)).2
              have c11 : u8.cell? ⟨g6, 11, none⟩ = some (.int .u32 (q2 : Int)) := R1.out 1 _ rfl
              have f11 : u8.frozen? ⟨g6, 11, none⟩ = false := (T1.out 1 (by omega)).2
              have c12 : u8.cell? ⟨g6, 12, none⟩ = some (.int .u16 32) := R1.out 2 _ rfl
              have f12 : u8.frozen? ⟨g6, 12, none⟩ = false := (T1.out 2 (by omega)).2
              have c13 : u8.cell? ⟨g6, 13, none⟩ = some (.int .u8 18) := R1.out 3 _ rfl
              have f13 : u8.frozen? ⟨g6, 13, none⟩ = false := (T1.out 3 (by omega)).2
              have c14 : u8.cell? ⟨g6, 14, none⟩ = some (.int .u8 0) := R1.out 4 _ rfl
              have f14 : u8.frozen? ⟨g6, 14, none⟩ = false := (T1.out 4 (by omega)).2
              have c15 : u8.cell? ⟨g6, 15, none⟩ = some (.int .u8 111) := R1.out 5 _ rfl
              have f15 : u8.frozen? ⟨g6, 15, none⟩ = false := (T1.out 5 (by omega)).2
              have c16 : u8.cell? ⟨g6, 16, none⟩ = some (.bool false) := R1.out 6 _ rfl
              have f16 : u8.frozen? ⟨g6, 16, none⟩ = false := (T1.out 6 (by omega)).2
              have c17 : u8.cell? ⟨g6, 17, none⟩ = some (.int .u8 5) := R1.out 7 _ rfl
              have f17 : u8.frozen? ⟨g6, 17, none⟩ = false := (T1.out 7 (by omega)).2
              have c18 : u8.cell? ⟨g6, 18, none⟩ = some (.int .u8 128) := R1.out 8 _ rfl
              have f18 : u8.frozen? ⟨g6, 18, none⟩ = false := (T1.out 8 (by omega)).2
              have c19 : u8.cell? ⟨g6, 19, none⟩ = some (.int .u8 255) := R1.out 9 _ rfl
              have f19 : u8.frozen? ⟨g6, 19, none⟩ = false := (T1.out 9 (by omega)).2
              go_region
              clear c0 f0 c1 f1 c2 f2 c3 f3 c4 f4 c5 f5 c6 f6 c7 f7 c8 f8 c9 f9 c10 f10 c11 f11 c12 f12 c13 f13 c14 f14 c15 f15 c16 f16 c17 f17 c18 f18 c19 f19
              rw [show ((((((((((((((((((((u8.setCell ⟨g6, 0, none⟩ (.int .u16 0)).setCell ⟨g6, 1, none⟩ (.int .u32 (q2 : Int))).setCell ⟨g6, 2, none⟩ (.int .u16 32)).setCell ⟨g6, 3, none⟩ (.int .u8 18)).setCell ⟨g6, 4, none⟩ (.int .u8 0)).setCell ⟨g6, 5, none⟩ (.int .u8 111)).setCell ⟨g6, 6, none⟩ (.bool false)).setCell ⟨g6, 7, none⟩ (.int .u8 5)).setCell ⟨g6, 8, none⟩ (.int .u8 128)).setCell ⟨g6, 9, none⟩ (.int .u8 255)).setCell ⟨g6, 10, none⟩ (.int .u16 0)).setCell ⟨g6, 11, none⟩ (.int .u32 (T : Int))).setCell ⟨g6, 12, none⟩ (.int .u16 32)).setCell ⟨g6, 13, none⟩ (.int .u8 18)).setCell ⟨g6, 14, none⟩ (.int .u8 0)).setCell ⟨g6, 15, none⟩ (.int .u8 111)).setCell ⟨g6, 16, none⟩ (.bool false)).setCell ⟨g6, 17, none⟩ (.int .u8 5)).setCell ⟨g6, 18, none⟩ (.int .u8 0)).setCell ⟨g6, 19, none⟩ (.int .u8 255)) = swp u8 g6 T q2 from rfl]
              generalize (swp u8 g6 T q2).drew = Y8 at *
              clear hsw O8 B8 P8 D8 R0 R1 T0 T1 hne
              go_wp2_with (refine wpList_append_e _ rfl (.tmp 68) (.tmp 69) rfl (W.heap.size + 1) u6 m rfl O9.out [chg 128 q2, chg 0 T] ⟨g6, 0, none⟩ 2 c6 rfl rfl (evs_of_own P9.out (by simp)) (by simp; omega) (by have := D9.out.lt; omega) ?_; intro x4 Y5 O5 G5; refine Hid.out ?_)
              refine Lib.hid ?_
              have B5 := below_own O9.out B9.out G5 (Nat.le_succ _) (by have := D9.out.lt; omega)
              have D5 := Dz.grown D9.out G5 (fun e => by have := (World.ownsRow.lt O9.out _ e).1; omega) (fun q hq => by have := (World.ownsRow.lt O9.out _ hq).1; omega)
              have hf5 : ∀ e ∈ m ++ [chg 128 q2, chg 0 T], e.Fit := fun e he => by
                rcases List.mem_append.1 he with he | he
                · exact hfm.out e he
                · rcases (by simpa using he : e = chg 128 q2 ∨ e = chg 0 T) with rfl | rfl
                  · exact chg_fit (by omega) (by omega)
                  · exact chg_fit (by omega) (by omega)
              have hl5 : 0 < (m ++ [chg 128 q2, chg 0 T]).length := by simp
              have hlen5 : ((m ++ [chg 128 q2, chg 0 T]).length : Int) + 2 * (k - 1) ≤ 38 := by simp; omega
              clear O9 P9 B9 D9 G5 hfm hlen
              generalize m ++ [chg 128 q2, chg 0 T] = M at *
              replace O5 := Lib.hid O5
              replace B5 := Lib.hid B5
              have hf5 := Lib.hid hf5
              have hlY : W.heap.size < Y5.heap.size := D5.lt
              go_wp2_with fail
              refine (D5.bool 20 (by omega) (by omega)).mono ?_
              rintro e Y6 ⟨b6, rfl, D6, g6⟩
              have O6 := eown_off O5.out g6 (Nat.lt_succ_self _)
              have B6 := B5.out.grown g6 (by omega) (fun q hq => by injection hq; omega)
              clear O5 B5 D5 g6
              replace D6 := Lib.hid D6
              replace B6 := Lib.hid B6
              cases b6
              · replace O6 := Lib.hid O6
                go_wp2_with fail
                exact ⟨⟨k - 1, M, rfl, ⟨by omega, hlen5, hf5.out, O6.out, D6.out, B6.out⟩⟩, by simp only [intOf]; omega⟩
              · obtain ⟨g, cg, rfl, hg, hcg⟩ := eown_form O6 hl5
                obtain ⟨i, hi⟩ : ∃ i, M.length = i + 1 := ⟨M.length - 1, by omega⟩
                have hiM : i < M.length := by omega
                have ce : Y6.cell? ⟨g, i * 10 + 6, none⟩ = some (.bool M[i].de) := by
                  rw [World.ownsRow.cellAt O6 (i * 10 + 6) (by omega), evs_get M i hiM 6 (by omega)]; rfl
                have fe : Y6.frozen? ⟨g, i * 10 + 6, none⟩ = false := World.ownsRow.frozenAt O6 (i * 10 + 6)
                have hst := World.ownsRow.stored O6 (i * 10 + 6) (.bool (!M[i].de))
                rw [evs_set M i hiM] at hst
                have hN := Lib.hid hi
                have hcg2 : i + 1 ≤ cg := by omega
                rw [hi] at hst ⊢
                clear hi
                replace hst := Lib.hid hst
                replace O6 := Lib.hid O6
                generalize hde : M[i].de = b at *
                have hwi : wrap64 ((i : Int) + 1 - 1) = (i : Int) := by unfold wrap64; omega
                go_wp2_with fail
                have O7 : EOwn (W.heap.size + 1) (Y6.setCell ⟨g, i * 10 + 6, none⟩ (.bool (!b))) (.slice (some ⟨g, 0, none⟩) (i + 1) cg) (M.set i (turn M[i])) := by
                  have h1 := hst.out.1
                  unfold EOwn
                  rw [List.length_set, hN.out]
                  exact h1
                have B7 := B6.out.grown hst.out.2 (by have := B6.out.size; omega) (fun q hq => by injection hq; omega)
                have D7 := Dz.grown D6.out hst.out.2 (fun e => by injection e; omega) (fun q hq => by injection hq; omega)
                refine ⟨⟨k - 1, _, rfl, ⟨by omega, by rw [List.length_set]; exact hlen5, fit_set hf5.out i hiM, O7, D7, B7⟩⟩, by simp only [intOf]; omega⟩
        · have hk0 : k = 0 := by omega
          have hlen := HR.out.len
          have hfit := Lib.hid HR.out.fit
          obtain ⟨A4, n4, c4, rfl, hE⟩ := HR.out.own.sl
          have B0 := HR.out.bel
          have hE0 := h0.out.step B0
          have hm40 : m.length ≤ 40 := by omega
          have HP := Lib.hid (fun u (hu : Below wr.heap.size wr u) => rec_p (hE.step hu) hfit.out (by have := hE.len; omega))
          have HQ := Lib.hid (fun u (hu : Below wr.heap.size wr u) => rec_r (hE.step hu) hfit.out (by have := hE.len; omega))
          have HP0 := Lib.hid (fun u (hu : Below wr.heap.size wr u) => rec_p (hE0.step hu) hf0 (by omega))
          have HQ0 := Lib.hid (fun u (hu : Below wr.heap.size wr u) => rec_r (hE0.step hu) hf0 (by omega))
          replace B0 := Lib.hid B0
          clear hE hE0 HR h0
          subst hk0
          go_wp2_with fail
          have hgw : wr.heap.size < (wr.alloc (.cells #[.slice A0 n0 c0, .slice A4 n4 c4] 22)).heap.size := by simp
          have r0 := cell_of_row (wr.alloc (.cells #[.slice A0 n0 c0, .slice A4 n4 c4] 22)) wr.heap.size 0 _ _ _ (heap_alloc_new wr _)
          have r1 := cell_of_row (wr.alloc (.cells #[.slice A0 n0 c0, .slice A4 n4 c4] 22)) wr.heap.size 1 _ _ _ (heap_alloc_new wr _)
          have hbb : Hid (Below wr.heap.size wr (wr.alloc (.cells #[.slice A0 n0 c0, .slice A4 n4 c4] 22))) := Lib.hid ((Below.refl _ _).alloc (Nat.le_refl _) _)
          obtain ⟨wb, hwb⟩ : ∃ wb, wb = wr := ⟨_, rfl⟩
          rw [← hwb] at hgw r0 r1 hbb B0 HP HQ HP0 HQ0 ⊢
          generalize wb.alloc (.cells #[.slice A0 n0 c0, .slice A4 n4 c4] 22) = wc at *
          clear hwb
          go_loopw [95] (fun i wr => ∃ j : Int, (j = 0 ∨ j = 1 ∨ j = 2) ∧ i = .int .i64 j ∧ Below wc.heap.size wc wr) (fun i _ => 2 - (intOf i).toNat)
          case atStart => exact ⟨0, .inl rfl, rfl, Below.refl _ _⟩
          case round =>
            obtain ⟨j, hj, rfl, hbel⟩ := hrel
            rcases hj with rfl | rfl | rfl
            · have q0 := (hbel.cell (p := ⟨wb.heap.size, 0, none⟩) hgw).trans r0
              simp at q0
              have hbu := hbb.out.trans (hbel.mono hbb.out.size)
              go_wp2_with fail
              refine (HP0.out _ hbu).mono ?_
              rintro e u1 ⟨v1, rfl, ho1, hb1⟩
              have hbu1 := hbu.trans (hb1.mono hbu.size)
              have hbe1 := hbel.trans (hb1.mono hbel.size)
              clear q0 hbu hb1
              go_wp2_with fail
              refine (HQ0.out _ hbu1).mono ?_
              rintro e u2 ⟨v2, rfl, ho2, hb2⟩
              have hbe2 := Lib.hid (hbe1.trans (hb2.mono hbe1.size))
              have ho1' := lown_below ho1 hb2
              obtain ⟨T1, nt1, ct1, rfl, hn1, row1, hc1, hx1⟩ := lown_sl ho1'
              obtain ⟨T2, nt2, ct2, rfl, hn2, row2, hc2, hx2⟩ := lown_sl ho2
              have hnn : nt2 = nt1 := by rw [hn1, hn2]
              subst hnn
              generalize rec l0 = rr at *
              obtain ⟨ts, er⟩ := rr
              simp only at hn1 row1 row2
              have hnl := Lib.hid hn1
              have htl : nt2 ≤ maxLen := Nat.le_trans hc1 hx1
              have htm : nt2 ≤ 9223372036854775807 := by unfold maxLen at htl; omega
              clear ho1 ho1' ho2 hb2 hbu1 hbe1 hn1 hn2 r0 r1
              go_wp2_with fail
              go_loopw [18] (fun i wr' => ∃ q : Nat, q ≤ nt2 ∧ i = .int .i64 (q : Int) ∧ ∃ d, wr' = u2.drewN d) (fun i _ => nt2 - (intOf i).toNat)
              case atStart => exact ⟨0, Nat.zero_le _, rfl, 0, rfl⟩
              case round =>
                obtain ⟨q, hq, rfl, d, rfl⟩ := hrel
                rcases Nat.lt_or_ge q nt2 with hqn | hqn
                · have hqm : q < ts.length := by rw [← hnl.out]; exact hqn
                  obtain ⟨a1, rfl, -, x1⟩ := irow_at row1 hqm
                  obtain ⟨a2, rfl, -, x2⟩ := irow_at row2 hqm
                  generalize ts[q] = z at *
                  have b0 : (0 : Int) ≤ (q : Int) := by omega
                  have b2 : (q : Int) < (nt2 : Int) := by omega
                  go_wp2_with fail
                  go_quiet (fail)
                  go_wp2_with fail
                  exact ⟨⟨q + 1, by omega, by go_num, _, rfl⟩, by simp [intOf]; omega⟩
                · have hd : Below u2.heap.size u2 (u2.drewN d) := ⟨rfl, rfl, rfl, Nat.le_refl _, fun _ _ => rfl⟩
                  have hbe3 := hbe2.out.trans (hd.mono hbe2.out.size)
                  clear hd row1 row2
                  go_wp2_with fail
                  exact ⟨⟨1, by omega, rfl, hbe3⟩, by simp [intOf]⟩
            · have q0 := (hbel.cell (p := ⟨wb.heap.size, 1, none⟩) hgw).trans r1
              simp at q0
              have hbu := hbb.out.trans (hbel.mono hbb.out.size)
              go_wp2_with fail
              refine (HP.out _ hbu).mono ?_
              rintro e u1 ⟨v1, rfl, ho1, hb1⟩
              have hbu1 := hbu.trans (hb1.mono hbu.size)
              have hbe1 := hbel.trans (hb1.mono hbel.size)
              clear q0 hbu hb1
              go_wp2_with fail
              refine (HQ.out _ hbu1).mono ?_
              rintro e u2 ⟨v2, rfl, ho2, hb2⟩
              have hbe2 := Lib.hid (hbe1.trans (hb2.mono hbe1.size))
              have ho1' := lown_below ho1 hb2
              obtain ⟨T1, nt1, ct1, rfl, hn1, row1, hc1, hx1⟩ := lown_sl ho1'
              obtain ⟨T2, nt2, ct2, rfl, hn2, row2, hc2, hx2⟩ := lown_sl ho2
              have hnn : nt2 = nt1 := by rw [hn1, hn2]
              subst hnn
              generalize rec m = rr at *
              obtain ⟨ts, er⟩ := rr
              simp only at hn1 row1 row2
              have hnl := Lib.hid hn1
              have htl : nt2 ≤ maxLen := Nat.le_trans hc1 hx1
              have htm : nt2 ≤ 9223372036854775807 := by unfold maxLen at htl; omega
              clear ho1 ho1' ho2 hb2 hbu1 hbe1 hn1 hn2 r0 r1
              go_wp2_with fail
              go_loopw [18] (fun i wr' => ∃ q : Nat, q ≤ nt2 ∧ i = .int .i64 (q : Int) ∧ ∃ d, wr' = u2.drewN d) (fun i _ => nt2 - (intOf i).toNat)
              case atStart => exact ⟨0, Nat.zero_le _, rfl, 0, rfl⟩
              case round =>
                obtain ⟨q, hq, rfl, d, rfl⟩ := hrel
                rcases Nat.lt_or_ge q nt2 with hqn | hqn
                · have hqm : q < ts.length := by rw [← hnl.out]; exact hqn
                  obtain ⟨a1, rfl, -, x1⟩ := irow_at row1 hqm
                  obtain ⟨a2, rfl, -, x2⟩ := irow_at row2 hqm
                  generalize ts[q] = z at *
                  have b0 : (0 : Int) ≤ (q : Int) := by omega
                  have b2 : (q : Int) < (nt2 : Int) := by omega
                  go_wp2_with fail
                  go_quiet (fail)
                  go_wp2_with fail
                  exact ⟨⟨q + 1, by omega, by go_num, _, rfl⟩, by simp [intOf]; omega⟩
                · have hd : Below u2.heap.size u2 (u2.drewN d) := ⟨rfl, rfl, rfl, Nat.le_refl _, fun _ _ => rfl⟩
                  have hbe3 := hbe2.out.trans (hd.mono hbe2.out.size)
                  clear hd row1 row2
                  go_wp2_with fail
                  exact ⟨⟨2, by omega, rfl, hbe3⟩, by simp [intOf]⟩
            · clear r0 r1
              have hbu := hbb.out.trans (hbel.mono hbb.out.size)
              have hbz := B0.out.trans (hbu.mono B0.out.size)
              go_wp2_with fail
              refine (haw.out _).mono ?_
              rintro e u1 ⟨rfl, hb1⟩
              go_wp2_with fail
              go_ret
              exact ⟨rfl, hbz.trans (hb1.mono hbz.size)⟩
    · have hL1 := Lib.hid (fun u => by have := lightmade_any A n c u (by unfold maxLen at *; omega); rw [decide_eq_false h600] at this; exact this)
      clear hr hn hw
      go_enter Try.func3, Try.ntmps3
      go_wp2_with (go_at_call 10; refine (hL1.out _).mono ?_; rintro e w' ⟨rfl, rfl⟩)
      refine (haw.out _).mono ?_
      rintro e u1 ⟨rfl, hb1⟩
      go_wp2_with fail
      go_ret
      exact ⟨rfl, hb1⟩
  · have g1 : (100 : Int) < (n0 : Int) := by omega
    clear hr hn hw h0
    go_enter Try.func3, Try.ntmps3
    go_wp2_with fail
    refine (haw.out _).mono ?_
    rintro e u1 ⟨rfl, hb1⟩
    go_wp2_with fail
    go_ret
    exact ⟨rfl, hb1⟩

theorem cells_u8 : Try.prog.cellsOf 5 = 1 := by kernel_rfl
theorem cells_int : Try.prog.cellsOf 3 = 1 := by kernel_rfl
theorem own : ownKnob Try.prog.godebug = none := by kernel_rfl
theorem laidOut : laidOutB Try.prog = true := by kernel_rfl
theorem contract (H : Type) (enc : TypeId × Value → H) (W : World) (base : Nat) (args : Array Value) (ds gs : List (DataW H)) (before : List MemPlace)
    (hval : ∀ (j : Nat) t v, Try.f3.params[j]? = some t → args[j]? = some v → Value.okWide Try.prog W .any base t v)
    (hW : DataW.Whole enc Try.prog Try.f3.params.toList Rows.clockReconcilesSpec.vars false W args.toList ds gs before) :
    Calls Try.prog 3 args W fun e W' => ∃ v, e = .returned v ∧ Rows.clockReconcilesSpec.post enc Try.prog Try.f3 false true false false W args v W' := by
  have hW' := hW
  obtain ⟨p, q, hA0, hV, rfl, hfz, hnd⟩ := hW
  have hA : DataW.TrodAll enc Try.prog W 0 (fun _ => true) true Try.f3.params.toList args.toList ds p := hA0
  rw [Try.params3] at hA hval
  obtain ⟨v0, vs0, d0, ds0, p0, q0, hargs, rfl, rfl, h0, r0⟩ := trodAll_cons hA
  obtain ⟨v1, vs1, d1, ds1, p1, q1, rfl, rfl, rfl, h1, r1⟩ := trodAll_cons r0
  obtain ⟨rfl, rfl, rfl⟩ := trodAll_nil r1
  obtain rfl : args = #[v0, v1] := by cases args; simp_all
  obtain ⟨A0, n0, c0, l0, rfl, hr0, hf0⟩ := open_events Try.underlying22 Try.underlying33 (by kernel_rfl) ⟨rfl, rfl, rfl, rfl, rfl, rfl, rfl, rfl⟩ ⟨by kernel_rfl, by kernel_rfl, by kernel_rfl, by kernel_rfl, by kernel_rfl, by kernel_rfl, by kernel_rfl, by kernel_rfl⟩ Try.underlying29 Try.underlying30 Try.underlying29 Try.underlying5 Try.underlying5 Try.underlying5 Try.underlying4 Try.underlying31 (by kernel_rfl) Try.underlying5 (hval 0 22 v0 rfl rfl) h0
  obtain ⟨A1, n1, c1, l1, rfl, hn1, hr1, hw1, hc1, hm1, hk1⟩ := open_int_list Try.underlying23 Try.underlying3 cells_int (hval 1 23 v1 rfl rfl) h1
  clear hA0
  refine (walk A0 n0 c0 l0 hf0 A1 n1 c1 l1 hn1 hw1 hc1 hm1 hk1 W hr0 hr1).mono fun e W' ⟨he, hb⟩ => ?_
  subst he
  exact ⟨_, rfl, law_post laidOut (types_fit (by kernel_rfl)) (by kernel_rfl) Try.underlying4 rfl (fun xs hx => by
    match xs, hx with
    | [_, _], _ => rfl) hW' hb⟩

theorem lifted (os : Os) (started : os.Started) (H : Type) (enc : TypeId × Value → H) :
    ReturnsInHanded {} Try.checked os 3 .any (Rows.clockReconcilesSpec.pre6 enc Try.prog Try.f3 Rows.clockReconcilesRow.domain false) (Rows.clockReconcilesSpec.post enc Try.prog Try.f3 false true false false) := by
  refine returnsInHanded_of_change (C := Try.checked) own started (by kernel_rfl) Try.func3
    (ChangeSpec.witness6 (enc := enc) (C := Try.checked) false ⟨#[], #[.slice none 0 0, .slice none 0 0], []⟩ 8 (by kernel_rfl) (by kernel_rfl) (by kernel_rfl) (by kernel_rfl)) ?_
  intro W base args ds gs before hval hW _ _
  exact contract H enc W base args ds gs before hval hW

theorem proved : Rows.ClockReconcilesSaid :=
  OpenClaim.holds_of_wide 3 Try.f3 rfl rfl rfl rfl rfl rfl rfl ⟨rfl, rfl, rfl, rfl, rfl⟩ rfl rfl rfl rfl rfl (by kernel_rfl) Try.func3 (by kernel_rfl)
    (of_decide_eq_true (by kernel_rfl)) (by unfold Func.isWrapper; first | (rw [if_pos (by decide +kernel)]; kernel_rfl) | (rw [if_neg (by decide +kernel)]; exact ⟨rfl, rfl⟩))
    (fun os started H enc _ => lifted os started H enc)
end Go.Proofs.Ytncpbgmbneobiaa.clockReconciles
