/- The statement ClockPairs: an event of a change that stands alone among others is refused, and without changes the times are those of the events, for every list of numbers. -/
import Derived.Test.YtafhbdbmoeihaaaV9u
import Derived.Test.YtafhbdbmoeihaaaDe
import Derived.Test.YtafhbdbmoeihaaaLaw8
import Derived.Deep.RegionHeld3
namespace Go.Proofs.Ytafhbdbmoeihaaa.clockPairs
open Go.RowKit Go.ChangeShapes Go.WideShapes Go.ChangeAt Go.Proofs.Ytafhbdbmoeihaaa.Mem Go.Proofs.Ytafhbdbmoeihaaa.Law Go.Proofs.Ytafhbdbmoeihaaa.F2p Go.Proofs.Ytafhbdbmoeihaaa.V7 Go.Proofs.Ytafhbdbmoeihaaa.V9 Go.Proofs.Ytafhbdbmoeihaaa.Made Go.Proofs.Ytafhbdbmoeihaaa.De
set_option maxRecDepth 100000
set_option maxHeartbeats 8000000

/-- A new block is laid and written: a row that was there is as it was. -/
theorem eown_new {base : Nat} {w w' : World} {v : Value} {l : List Ev} {o : Obj} (h : EOwn base w v l) (hg : (w.alloc o).grownBy w' (some w.heap.size)) : EOwn base w' v l :=
  World.ownsRow.kept (eown_below h ((Below.refl _ _).alloc (Nat.le_refl _) o)) hg (.inr (by
    intro e
    have := (World.ownsRow.lt h _ e).2
    omega))
/-- An event with the sensor type 1. -/
def one1 (x : Ev) : Ev := ⟨x.id, x.time, x.gen, 1, x.sn, x.ty, x.de, x.d0, x.d1, x.d2⟩
theorem mk_one1 (x : Ev) : mk (one1 x) = 0 := by
  unfold mk one1
  rw [if_neg (by simp)]
theorem one1_fit {x : Ev} (h : x.Fit) : (one1 x).Fit := ⟨h.id, h.time, h.gen, by show 1 < 256; omega, h.sn, h.ty, h.d0, h.d1, h.d2⟩
/-- What holds before each throw. -/
structure Rel (W : World) (A : Option Addr) (n c : Nat) (l : List Int) (k : Int) (m : List Ev) (v : Value) (w : World) : Prop where
  rng : -1 ≤ k ∧ k ≤ 11
  len : (m.length : Int) + k ≤ 11
  pos : k = -1 → 0 < m.length
  fit : ∀ e ∈ m, e.Fit
  no : ∀ e ∈ m, mk e = 0
  own : EOwn (W.heap.size + 1) w v m
  dz : Dz w W.heap.size A n c l
  bel : Below W.heap.size W w
theorem evs_take {w : World} {p : Addr} {l : List Ev} (h : EvsAt w p l) (k : Nat) : EvsAt w p (l.take k) := fun j v hv => by
  refine h j v ?_
  have e : evs l = evs (l.take k) ++ evs (l.drop k) := by rw [← evs_app, List.take_append_drop]
  rw [e, List.getElem?_append_left (List.getElem?_eq_some_iff.1 hv).1]
  exact hv
theorem evs_drop {w : World} {p : Addr} {l : List Ev} (h : EvsAt w p l) (k : Nat) (hk : k ≤ l.length) : EvsAt w (p.add (k * 10)) (l.drop k) := fun j v hv => by
  rw [add_add]
  refine h (k * 10 + j) v ?_
  have e : evs l = evs (l.take k) ++ evs (l.drop k) := by rw [← evs_app, List.take_append_drop]
  have hl : (evs (l.take k)).length = k * 10 := by rw [evs_len, List.length_take]; omega
  rw [e, List.getElem?_append_right (by omega), hl, show k * 10 + j - k * 10 = j by omega]
  exact hv
theorem evs_kept {w w' : World} {p : Addr} {l : List Ev} (h : EvsAt w p l) (hg : w.grownBy w' none) (hp : p.block < w.heap.size) : EvsAt w' p l := fun j v hv =>
  (World.cell?_of_block (hg.block _ (by rw [add_block]; exact hp) (fun e => by cases e))).trans (h j v hv)
/-- The append of events, as one step of a region that draws. -/
theorem step_append_e (w : World) {ops : Array Oper} {o : Oper} {a : Act} {K : Act → World → Prop} {Q : Exit → Act → World → Prop} {E : Prop} (hgd : o.guard = none) (s x : Operand)
    (ho : o.op = .call { callee := .builtin .append, args := #[s, x], argTypes := #[37, 37] })
    (base : Nat) (v : Value) (l : List Ev) (hs : a.eval s = v) (hown : EOwn base w v l) (m : List Ev) (p : Addr) (n c : Nat) (hx : a.eval x = .slice (some p) n c) (hn : n = m.length) (hm : EvsAt w p m)
    (hl : l.length + m.length ≤ 1000) (hbase : base ≤ w.heap.size)
    (h : ∀ v' w', EOwn base w' v' (l ++ m) → w.grownBy w' v.ownBlock → K (a.put o.dst v') w') : if Region.wanted o (yielded ops a.tmps) = true then Oper.wp Try.prog o a w K Q else E := by
  have hw : Region.wanted o (yielded ops a.tmps) = true := by simp [Region.wanted, hgd]
  rw [if_pos hw]
  obtain ⟨v', w', hrun, h2, h3⟩ := run_append_e w base o.type v l hown m p n c hn hm hl hbase
  unfold Oper.wp execOp
  simp only [ho, resolve, invoke, builtin, Sem.run_bind, Sem.run_pure, Result.andThen_ok, List.map_toArray, List.map_cons, List.map_nil, hs, hx, hrun]
  exact h v' w' h2 h3
theorem walk (A : Option Addr) (n c : Nat) (l : List Int) (hn : n = l.length) (hw : ∀ x ∈ l, -9223372036854775808 ≤ x ∧ x ≤ 9223372036854775807) (hc : n ≤ c) (hm : c ≤ maxLen) (_hA : A = none → c = 0)
    (pos : Int) (hpos : -9223372036854775808 ≤ pos ∧ pos ≤ 9223372036854775807) (second : Bool) (W : World) (hr : IRow W.heap.size W A l) :
    Calls Try.prog 8 #[.slice A n c, .int .i64 pos, .bool second] W fun e W' => e = .returned (.bool true) ∧ Below W.heap.size W W' := by
  have haw := Lib.hid (fun u => awake_any u)
  by_cases h600 : n ≤ 600
  · have hL1 := Lib.hid (fun u => by have := lightmade_any A n c u (by unfold maxLen at *; omega); rw [decide_eq_true h600] at this; exact this)
    have hd1 := Lib.hid (Dz.start A n c l W hr hn hw (by omega))
    have hb0 : Below W.heap.size W (W.alloc (.cells #[.slice A n c, .int .i64 0] 68)) := (Below.refl _ _).alloc (Nat.le_refl _) _
    have hz0 : (W.alloc (.cells #[.slice A n c, .int .i64 0] 68)).heap.size = W.heap.size + 1 := by simp
    replace hb0 := Lib.hid hb0
    clear hr hn hw
    go_enter Try.func8, Try.ntmps8
    go_wp2_with (go_at_call 20; refine (hL1.out _).mono ?_; rintro e w' ⟨rfl, rfl⟩)
    refine (roll_any A n c _).mono ?_
    rintro e w1 ⟨rfl, rfl⟩
    have D1 := hd1.out
    generalize W.alloc (.cells #[.slice A n c, .int .i64 0] 68) = w1 at *
    clear hL1
    go_wp2_with fail
    refine (D1.next 12 (by omega) (by omega)).mono ?_
    rintro e w2 ⟨k0, hk0, rfl, D2, g2⟩
    have HST : Hid (Rel W A n c l (k0 : Int) [] (.slice none 0 0) w2) := Lib.hid
      ⟨by omega, by simp; omega, by omega, by simp, by simp, EOwn.nil, D2, hb0.out.grown g2 (by omega) (fun q hq => by injection hq; omega)⟩
    clear D1 D2 g2 hd1 hb0
    go_wp2_with fail
    go_loopw [8, 9] (fun v i wr => ∃ (k : Int) (m : List Ev), i = .int .i64 k ∧ Rel W A n c l k m v wr) (fun _ i _ => (intOf i + 1).toNat)
    case atStart => exact ⟨(k0 : Int), [], rfl, HST.out⟩
    case round =>
      obtain ⟨k, m, rfl, R⟩ := hrel
      have hk := R.rng
      have HR := Lib.hid R
      clear R
      rcases Int.lt_or_le k 0 with hneg | hge
      · have hkm : k = -1 := by omega
        have hlen := HR.out.len
        have hpos1 := HR.out.pos hkm
        have hfit := Lib.hid HR.out.fit
        have hno := Lib.hid HR.out.no
        obtain ⟨A4, n4, c4, rfl, hE⟩ := HR.out.own.sl
        have hn4 : n4 = m.length := hE.len
        have hrec := Lib.hid (rec_p hE hfit.out (by omega))
        rw [show rec m = (m.map fun e => (e.time : Int), 0) by unfold rec; rw [if_pos (paired_none m hno.out), tms_none m hno.out]] at hrec
        have hBl := HR.out.bel
        have hrowE := hE.row
        have hcap4 := hE.cap
        have hlw : W.heap.size < wr.heap.size := HR.out.dz.lt
        replace hn4 := Lib.hid hn4
        clear hE HR
        go_wp2_with fail
        refine hrec.out.mono ?_
        rintro e w3 ⟨vt, rfl, hot, hb3⟩
        have hlw3' : W.heap.size < w3.heap.size := Nat.lt_of_lt_of_le hlw hb3.size
        have B3 := Lib.hid (hBl.trans (hb3.mono hBl.size))
        have rowm := (Rd.below hrowE hb3).more hb3.size
        obtain ⟨At, nt, capt, rfl, hnt, rowt, hct, hmt⟩ := lown_sl hot
        have hntI : nt = n4 := by rw [hnt, List.length_map, hn4.out]
        subst hntI
        clear hot hb3 hBl hrec hnt hrowE
        have hnt9 : nt ≤ 12 := by have := hn4.out; omega
        have hlw3 : W.heap.size < w3.heap.size := hlw3'
        go_wp2_with fail
        go_loopw [13] (fun i wr' => ∃ q : Nat, q ≤ nt ∧ i = .int .i64 (q : Int) ∧ ∃ d, wr' = w3.drewN d) (fun i _ => nt - (intOf i).toNat)
        case atStart => exact ⟨0, Nat.zero_le _, rfl, 0, rfl⟩
        case round =>
          obtain ⟨q, hq, rfl, d, rfl⟩ := hrel
          rcases Nat.lt_or_ge q nt with hqn | hqn
          · have hqm : q < m.length := by rw [← hn4.out]; exact hqn
            obtain ⟨at1, rfl, -, x1⟩ := irow_at rowt (show q < (m.map fun e => (e.time : Int)).length by rw [List.length_map]; exact hqm)
            obtain ⟨b1, rfl, -, hev⟩ := erow_at rowm hqm
            rw [List.getElem_map] at x1
            have x2 := hev.c1
            have htm := (hfit.out _ (List.getElem_mem hqm)).time
            obtain ⟨T, hT⟩ : ∃ T, T = m[q].time := ⟨_, rfl⟩
            rw [← hT] at x1 x2 htm
            clear hT hev
            have b0 : (0 : Int) ≤ (q : Int) := by omega
            have b2 : (q : Int) < (nt : Int) := by omega
            go_wp2_with fail
            go_quiet (fail)
            go_wp2_with fail
            exact ⟨⟨q + 1, by omega, by go_num, _, rfl⟩, by simp [intOf]; omega⟩
          · have hd : Below w3.heap.size w3 (w3.drewN d) := ⟨rfl, rfl, rfl, Nat.le_refl _, fun _ _ => rfl⟩
            have B4 := Lib.hid (B3.out.trans (hd.mono B3.out.size))
            have rowm4 := (Rd.below rowm hd).more hd.size
            have hlw4 : W.heap.size < (w3.drewN d).heap.size := hlw3
            have had := Lib.hid (fun u => (show Calls Try.prog 17 #[.agg #[.int .i64 0, .int .i64 0, .bool false], .int .u32 77] u fun x w' => ∃ v, x = .returned (.tuple #[.agg #[.int .i64 0, .int .i64 77, .bool true], v, .int .i64 0]) ∧ EOwn u.heap.size w' v [chg 0 0, chg 128 77] ∧ Below u.heap.size u w' from by
              have := adjust_p Ck.none none_ckfit 77 (by omega) u
              rw [show adj Ck.none 77 = (⟨0, 77, true⟩, [chg 0 0, chg 128 77], 0) by decide] at this
              exact this))
            clear B3 hd rowt rowm hlw3
            generalize w3.drewN d = w4 at *
            go_wp2_with fail
            refine (had.out _).mono ?_
            rintro e w5 ⟨v5, rfl, hown5, hb5⟩
            obtain ⟨A5, n5, c5, rfl, hE5⟩ := hown5.sl
            obtain rfl : n5 = 2 := hE5.len
            obtain ⟨p5, rfl, hp5, hev5⟩ := hE5.at_ (by simp)
            have hc5 := hE5.cap
            have B5 := Lib.hid (B4.out.trans (hb5.mono B4.out.size))
            have rowm5 := (Rd.below rowm4 hb5).more hb5.size
            have hlw5 : W.heap.size < w5.heap.size := by have := hb5.size; omega
            have E0 : EvAt w5 p5 (chg 0 0) := fun j v hv => hev5 j v (by simp only [evs]; rw [List.getElem?_append_left (by have := (List.getElem?_eq_some_iff.1 hv).1; exact this)]; exact hv)
            have E1 : EvAt w5 (p5.add 10) (chg 128 77) := fun j v hv => by rw [add_add]; exact hev5 (10 + j) v (by simp only [evs]; rw [List.getElem?_append_right (by rw [cells_len]; omega), cells_len, show 10 + j - 10 = j by omega, List.append_nil]; exact hv)
            clear had hown5 hb5 hE5 hev5 rowm4 B4 hlw4
            have ha6 : Below w5.heap.size w5 (w5.alloc (.cells #[.int .i64 0, .int .i64 77, .bool true] 23)) := (Below.refl _ _).alloc (Nat.le_refl _) _
            have E0 := E0.below ha6 hp5
            have E1 := E1.below ha6 (by rw [add_block]; exact hp5)
            have B6 := Lib.hid (B5.out.trans (ha6.mono B5.out.size))
            have rowm6 := (Rd.below rowm5 ha6).more ha6.size
            have hp6 : p5.block < (w5.alloc (.cells #[.int .i64 0, .int .i64 77, .bool true] 23)).heap.size := Nat.lt_of_lt_of_le hp5 ha6.size
            have hlw6 : W.heap.size < (w5.alloc (.cells #[.int .i64 0, .int .i64 77, .bool true] 23)).heap.size := Nat.lt_of_lt_of_le hlw5 ha6.size
            clear ha6 B5 rowm5 hlw5 hp5
            go_upto_region 22 with fail
            generalize w5.alloc (.cells #[.int .i64 0, .int .i64 77, .bool true] 23) = w6 at *
            have HON : Hid (∃ one : Ev, one.Fit ∧ (mk one = 1 ∨ mk one = 2) ∧ one = if second then chg 128 77 else chg 0 0) := Lib.hid ⟨_, by cases second <;> exact chg_fit (by omega) (by omega), by cases second; exact .inl rfl; exact .inr rfl, rfl⟩
            have hnm := hn4.out
            have hmod := Lib.hid (fun u => mod_at pos ((nt : Int) + 1) (nt + 1) u (by omega) hpos.1 hpos.2 (by omega) (by omega))
            have hwn : wrap64 ((nt : Int) + 1) = (nt : Int) + 1 := by unfold wrap64; omega
            clear hnm
            replace rowm6 := Lib.hid rowm6
            cases second
            · go_wp2_with (first
                | (refine wpList_load_ev rfl (.tmp 86) rfl p5 (chg 0 0) rfl E0 ?_)
                | (refine wpList_store_box rfl (.tmp 17) (.tmp 87) rfl w6.heap.size (chg 0 0) Ev.none rfl rfl (Box.new w6 Ev.none) ?_; intro w7 X7 G7; refine Hid.out ?_))
              refine Lib.hid ?_
              have ha7 : Below w6.heap.size w6 w7 := ((Below.refl _ _).alloc (Nat.le_refl _) (.cells Ev.none.cells 49)).grown G7 (by simp) (fun q hq => by injection hq; omega)
              have hone : (chg 0 0).Fit ∧ (mk (chg 0 0) = 1 ∨ mk (chg 0 0) = 2) := ⟨chg_fit (by omega) (by omega), .inl rfl⟩
              have HB7 := Lib.hid (B6.out.trans (ha7.mono B6.out.size))
              have row7 := (Rd.below rowm6.out ha7).more ha7.size
              clear B6 rowm6 ha7 E0 E1 G7 HON hwn
              generalize chg 0 0 = one at *
              go_wp2_with fail
              refine (hmod.out _).mono ?_
              rintro e w9 ⟨k, hk, rfl, rfl⟩
              obtain ⟨a4, rfl, ha4, hevm⟩ : ∃ a, A4 = some a ∧ a.block < w7.heap.size ∧ EvsAt w7 a m := by
                obtain ⟨a, e, hb, hcl⟩ := row7 (by rw [evs_len]; omega)
                exact ⟨a, e, hb, fun j v hv => by
                  have hj := (List.getElem?_eq_some_iff.1 hv).1
                  rw [hcl j hj, ← hv, List.getElem?_eq_getElem hj]⟩
              have EV : Hid (∀ V, Below w7.heap.size w7 V → EvsAt V a4 m) := Lib.hid fun V hV j v hv => (hV.cell (by rw [add_block]; exact ha4)).trans (hevm j v hv)
              have BX : Hid (∀ V, Below w7.heap.size w7 V → Box V w6.heap.size one) := Lib.hid fun V hV => X7.below hV X7.lt
              have hml := hn4.out
              have k1 : (0 : Int) ≤ (k : Int) := by omega
              have k2 : (k : Int) ≤ (nt : Int) := by omega
              have k3 : (k : Int) ≤ (c4 : Int) := by omega
              have k4 : (nt : Int) ≤ (c4 : Int) := by omega
              have hkm : k ≤ m.length := by omega
              have hml9 : m.length ≤ 12 := by omega
              replace hml := Lib.hid hml
              have HV : Below w7.heap.size w7 w7.drew := (Below.refl _ _).drew
              clear row7 hevm X7
              obtain ⟨oid, otime, ogen, ost, osn, oty, ode, od0, od1, od2⟩ := one
              have KEEP : Hid (∀ V, Below w7.heap.size w7 V → V.cell? ⟨w6.heap.size, 0, none⟩ = some (.int .u16 (oid : Int)) ∧ V.cell? ⟨w6.heap.size, 1, none⟩ = some (.int .u32 (otime : Int)) ∧ V.cell? ⟨w6.heap.size, 2, none⟩ = some (.int .u16 (ogen : Int)) ∧ V.cell? ⟨w6.heap.size, 3, none⟩ = some (.int .u8 (ost : Int)) ∧ V.cell? ⟨w6.heap.size, 4, none⟩ = some (.int .u8 (osn : Int)) ∧ V.cell? ⟨w6.heap.size, 5, none⟩ = some (.int .u8 (oty : Int)) ∧ V.cell? ⟨w6.heap.size, 6, none⟩ = some (.bool ode) ∧ V.cell? ⟨w6.heap.size, 7, none⟩ = some (.int .u8 (od0 : Int)) ∧ V.cell? ⟨w6.heap.size, 8, none⟩ = some (.int .u8 (od1 : Int)) ∧ V.cell? ⟨w6.heap.size, 9, none⟩ = some (.int .u8 (od2 : Int))) := Lib.hid fun V hV =>
                have hB := BX.out V hV
                ⟨hB.c0, hB.c1, hB.c2, hB.c3, hB.c4, hB.c5, hB.c6, hB.c7, hB.c8, hB.c9⟩
              go_wp2_with fail
              by_cases hck : k = c4
              · have hnk : nt = k := by omega
                subst hck
                subst hnk
                go_region_held3 (fun V => V.cell? ⟨w6.heap.size, 0, none⟩ = some (.int .u16 (oid : Int)) ∧ V.cell? ⟨w6.heap.size, 1, none⟩ = some (.int .u32 (otime : Int)) ∧ V.cell? ⟨w6.heap.size, 2, none⟩ = some (.int .u16 (ogen : Int)) ∧ V.cell? ⟨w6.heap.size, 3, none⟩ = some (.int .u8 (ost : Int)) ∧ V.cell? ⟨w6.heap.size, 4, none⟩ = some (.int .u8 (osn : Int)) ∧ V.cell? ⟨w6.heap.size, 5, none⟩ = some (.int .u8 (oty : Int)) ∧ V.cell? ⟨w6.heap.size, 6, none⟩ = some (.bool ode) ∧ V.cell? ⟨w6.heap.size, 7, none⟩ = some (.int .u8 (od0 : Int)) ∧ V.cell? ⟨w6.heap.size, 8, none⟩ = some (.int .u8 (od1 : Int)) ∧ V.cell? ⟨w6.heap.size, 9, none⟩ = some (.int .u8 (od2 : Int))) (first | exact KEEP.out _ HV | exact KEEP.out _ (HV.alloc HV.size _))
                  (first
                    | (refine step_append_e _ rfl (.const (.slice none 0 0)) (.tmp 99) rfl w7.heap.size (.slice none 0 0) [] rfl EOwn.nil (m.take nt) a4 nt nt rfl (by rw [List.length_take]; omega) (evs_take (EV.out _ HV) nt) (by simp; omega) HV.size ?_; intro x1 w9 O9 G9; have HV := below_own EOwn.nil HV G9 (Nat.le_refl _) HV.size)
                    | (refine step_append_e _ rfl (.const (.slice none 0 0)) (.tmp 99) rfl w7.heap.size (.slice none 0 0) [] rfl EOwn.nil (m.take nt) a4 nt nt rfl (by rw [List.length_take]; omega) (evs_take (EV.out _ (HV.alloc HV.size _)) nt) (by simp; omega) (HV.alloc HV.size _).size ?_; intro x1 w9 O9 G9; have SB := evs_kept (box_at (Box.new w7.drew ⟨oid, otime, ogen, ost, osn, oty, ode, od0, od1, od2⟩)).one G9 (by simp); have HV := below_own EOwn.nil (HV.alloc HV.size _) G9 (Nat.le_refl _) (HV.alloc HV.size _).size)
                    | (refine step_append_e _ rfl (.tmp 100) (.tmp 102) rfl w7.heap.size x1 ([] ++ m.take nt) rfl (eown_below O9 ((Below.refl _ _).alloc (Nat.le_refl _) _)) [⟨oid, otime, ogen, ost, osn, oty, ode, od0, od1, od2⟩] ⟨w9.heap.size, 0, none⟩ 1 1 rfl rfl (box_at (Box.new w9 ⟨oid, otime, ogen, ost, osn, oty, ode, od0, od1, od2⟩)).one (by simp; omega) (HV.alloc HV.size _).size ?_; intro x2 w10 O10 G10; have HV := below_own (eown_below O9 ((Below.refl _ _).alloc (Nat.le_refl _) _)) (HV.alloc HV.size _) G10 (Nat.le_refl _) (HV.alloc HV.size _).size)
                    | (refine step_append_e _ rfl (.tmp 100) (.tmp 102) rfl w7.heap.size x1 ([] ++ m.take nt) rfl O9 [⟨oid, otime, ogen, ost, osn, oty, ode, od0, od1, od2⟩] ⟨w7.heap.size, 0, none⟩ 1 1 rfl rfl SB (by simp; omega) HV.size ?_; intro x2 w10 O10 G10; have HV := below_own O9 HV G10 (Nat.le_refl _) HV.size)
                    | (refine step_append_e _ rfl (.tmp 103) (.tmp 106) rfl w7.heap.size x2 ([] ++ m.take nt ++ [⟨oid, otime, ogen, ost, osn, oty, ode, od0, od1, od2⟩]) rfl O10 (m.drop nt) a4 0 0 rfl (by rw [List.length_drop]; have := hml.out; omega) (by rw [List.drop_eq_nil_of_le (by have := hml.out; omega)]; exact fun j v hv => by simp [evs] at hv) (by simp; omega) HV.size ?_; intro x3 w11 O11 G11; have HV := below_own O10 HV G11 (Nat.le_refl _) HV.size)
                    | (refine step_append_e _ rfl (.tmp 103) (.tmp 106) rfl w7.heap.size x2 ([] ++ m.take nt ++ [⟨oid, otime, ogen, ost, osn, oty, ode, od0, od1, od2⟩]) rfl O10 (m.drop nt) a4 (nt - nt) 0 rfl (by rw [List.length_drop]; have := hml.out; omega) (by rw [List.drop_eq_nil_of_le (by have := hml.out; omega)]; exact fun j v hv => by simp [evs] at hv) (by simp; omega) HV.size ?_; intro x3 w11 O11 G11; have HV := below_own O10 HV G11 (Nat.le_refl _) HV.size)
                    | (refine step_append_e _ rfl (.tmp 103) (.tmp 106) rfl w7.heap.size x2 ([] ++ m.take nt ++ [⟨oid, otime, ogen, ost, osn, oty, ode, od0, od1, od2⟩]) rfl O10 (m.drop nt) a4 (nt - nt) (nt - nt) rfl (by rw [List.length_drop]; have := hml.out; omega) (by rw [List.drop_eq_nil_of_le (by have := hml.out; omega)]; exact fun j v hv => by simp [evs] at hv) (by simp; omega) HV.size ?_; intro x3 w11 O11 G11; have HV := below_own O10 HV G11 (Nat.le_refl _) HV.size))
                all_goals
                  have hbad : paired false ([] ++ m.take nt ++ [⟨oid, otime, ogen, ost, osn, oty, ode, od0, od1, od2⟩] ++ m.drop nt) = false := by
                    rw [List.nil_append, List.append_assoc]
                    exact paired_one _ _ _ (fun e he => hno.out e (List.mem_of_mem_take he)) (fun e he => hno.out e (List.mem_of_mem_drop he)) hone.2
                  obtain ⟨A11, n11, c11, rfl, hE11⟩ := O11.sl
                  have hrec2 := Lib.hid (rec_p hE11 (fun e he => by
                    simp only [List.nil_append, List.mem_append, List.mem_singleton] at he
                    rcases he with (he | rfl) | he
                    · exact hfit.out e (List.mem_of_mem_take he)
                    · exact hone.1
                    · exact hfit.out e (List.mem_of_mem_drop he)) (by rw [hE11.len]; simp; omega))
                  rw [show rec ([] ++ m.take nt ++ [⟨oid, otime, ogen, ost, osn, oty, ode, od0, od1, od2⟩] ++ m.drop nt) = ([], 6) by unfold rec; rw [if_neg (by rw [hbad]; simp)]] at hrec2
                  have HBE := Lib.hid (HB7.out.trans (HV.mono HB7.out.size))
                  clear O11 hE11 HV KEEP BX EV hbad
                  go_wp2_with fail
                  refine hrec2.out.mono ?_
                  rintro e w12 ⟨v12, rfl, ho12, hb12⟩
                  obtain ⟨Au, nu, cu, rfl, hnu, -, -, -⟩ := lown_sl ho12
                  obtain rfl : nu = 0 := hnu
                  have HBF := Lib.hid (HBE.out.trans (hb12.mono HBE.out.size))
                  clear hb12 ho12 hrec2
                  go_wp2_with fail
                  refine (haw.out _).mono ?_
                  rintro e w13 ⟨rfl, hb13⟩
                  go_wp2_with fail
                  go_ret
                  exact ⟨rfl, HBF.out.trans (hb13.mono HBF.out.size)⟩
              · have hck2 : ¬ c4 = k := fun e => hck e.symm
                go_region_held3 (fun V => V.cell? ⟨w6.heap.size, 0, none⟩ = some (.int .u16 (oid : Int)) ∧ V.cell? ⟨w6.heap.size, 1, none⟩ = some (.int .u32 (otime : Int)) ∧ V.cell? ⟨w6.heap.size, 2, none⟩ = some (.int .u16 (ogen : Int)) ∧ V.cell? ⟨w6.heap.size, 3, none⟩ = some (.int .u8 (ost : Int)) ∧ V.cell? ⟨w6.heap.size, 4, none⟩ = some (.int .u8 (osn : Int)) ∧ V.cell? ⟨w6.heap.size, 5, none⟩ = some (.int .u8 (oty : Int)) ∧ V.cell? ⟨w6.heap.size, 6, none⟩ = some (.bool ode) ∧ V.cell? ⟨w6.heap.size, 7, none⟩ = some (.int .u8 (od0 : Int)) ∧ V.cell? ⟨w6.heap.size, 8, none⟩ = some (.int .u8 (od1 : Int)) ∧ V.cell? ⟨w6.heap.size, 9, none⟩ = some (.int .u8 (od2 : Int))) (first | exact KEEP.out _ HV | exact KEEP.out _ (HV.alloc HV.size _))
                  (first
                    | (refine step_append_e _ rfl (.const (.slice none 0 0)) (.tmp 99) rfl w7.heap.size (.slice none 0 0) [] rfl EOwn.nil (m.take k) a4 k c4 rfl (by rw [List.length_take]; omega) (evs_take (EV.out _ HV) k) (by simp; omega) HV.size ?_; intro x1 w9 O9 G9; have HV := below_own EOwn.nil HV G9 (Nat.le_refl _) HV.size)
                    | (refine step_append_e _ rfl (.const (.slice none 0 0)) (.tmp 99) rfl w7.heap.size (.slice none 0 0) [] rfl EOwn.nil (m.take k) a4 k c4 rfl (by rw [List.length_take]; omega) (evs_take (EV.out _ (HV.alloc HV.size _)) k) (by simp; omega) (HV.alloc HV.size _).size ?_; intro x1 w9 O9 G9; have SB := evs_kept (box_at (Box.new w7.drew ⟨oid, otime, ogen, ost, osn, oty, ode, od0, od1, od2⟩)).one G9 (by simp); have HV := below_own EOwn.nil (HV.alloc HV.size _) G9 (Nat.le_refl _) (HV.alloc HV.size _).size)
                    | (refine step_append_e _ rfl (.tmp 100) (.tmp 102) rfl w7.heap.size x1 ([] ++ m.take k) rfl (eown_below O9 ((Below.refl _ _).alloc (Nat.le_refl _) _)) [⟨oid, otime, ogen, ost, osn, oty, ode, od0, od1, od2⟩] ⟨w9.heap.size, 0, none⟩ 1 1 rfl rfl (box_at (Box.new w9 ⟨oid, otime, ogen, ost, osn, oty, ode, od0, od1, od2⟩)).one (by simp; omega) (HV.alloc HV.size _).size ?_; intro x2 w10 O10 G10; have HV := below_own (eown_below O9 ((Below.refl _ _).alloc (Nat.le_refl _) _)) (HV.alloc HV.size _) G10 (Nat.le_refl _) (HV.alloc HV.size _).size)
                    | (refine step_append_e _ rfl (.tmp 100) (.tmp 102) rfl w7.heap.size x1 ([] ++ m.take k) rfl O9 [⟨oid, otime, ogen, ost, osn, oty, ode, od0, od1, od2⟩] ⟨w7.heap.size, 0, none⟩ 1 1 rfl rfl SB (by simp; omega) HV.size ?_; intro x2 w10 O10 G10; have HV := below_own O9 HV G10 (Nat.le_refl _) HV.size)
                    | (refine step_append_e _ rfl (.tmp 103) (.tmp 106) rfl w7.heap.size x2 ([] ++ m.take k ++ [⟨oid, otime, ogen, ost, osn, oty, ode, od0, od1, od2⟩]) rfl O10 (m.drop k) (a4.add (k * 10)) (nt - k) (c4 - k) rfl (by rw [List.length_drop, hml.out]) (evs_drop (EV.out _ HV) k hkm) (by simp; omega) HV.size ?_; intro x3 w11 O11 G11; have HV := below_own O10 HV G11 (Nat.le_refl _) HV.size))
                all_goals
                  have hbad : paired false ([] ++ m.take k ++ [⟨oid, otime, ogen, ost, osn, oty, ode, od0, od1, od2⟩] ++ m.drop k) = false := by
                    rw [List.nil_append, List.append_assoc]
                    exact paired_one _ _ _ (fun e he => hno.out e (List.mem_of_mem_take he)) (fun e he => hno.out e (List.mem_of_mem_drop he)) hone.2
                  obtain ⟨A11, n11, c11, rfl, hE11⟩ := O11.sl
                  have hrec2 := Lib.hid (rec_p hE11 (fun e he => by
                    simp only [List.nil_append, List.mem_append, List.mem_singleton] at he
                    rcases he with (he | rfl) | he
                    · exact hfit.out e (List.mem_of_mem_take he)
                    · exact hone.1
                    · exact hfit.out e (List.mem_of_mem_drop he)) (by rw [hE11.len]; simp; omega))
                  rw [show rec ([] ++ m.take k ++ [⟨oid, otime, ogen, ost, osn, oty, ode, od0, od1, od2⟩] ++ m.drop k) = ([], 6) by unfold rec; rw [if_neg (by rw [hbad]; simp)]] at hrec2
                  have HBE := Lib.hid (HB7.out.trans (HV.mono HB7.out.size))
                  clear O11 hE11 HV KEEP BX EV hbad
                  go_wp2_with fail
                  refine hrec2.out.mono ?_
                  rintro e w12 ⟨v12, rfl, ho12, hb12⟩
                  obtain ⟨Au, nu, cu, rfl, hnu, -, -, -⟩ := lown_sl ho12
                  obtain rfl : nu = 0 := hnu
                  have HBF := Lib.hid (HBE.out.trans (hb12.mono HBE.out.size))
                  clear hb12 ho12 hrec2
                  go_wp2_with fail
                  refine (haw.out _).mono ?_
                  rintro e w13 ⟨rfl, hb13⟩
                  go_wp2_with fail
                  go_ret
                  exact ⟨rfl, HBF.out.trans (hb13.mono HBF.out.size)⟩
            · go_wp2_with (first
                | (refine wpList_load_ev rfl (.tmp 86) rfl p5 (chg 0 0) rfl E0 ?_)
                | (refine wpList_store_box rfl (.tmp 17) (.tmp 87) rfl w6.heap.size (chg 0 0) Ev.none rfl rfl (Box.new w6 Ev.none) ?_; intro w7 X7 G7; refine Hid.out ?_))
              refine Lib.hid ?_
              have ha7 : Below w6.heap.size w6 w7 := ((Below.refl _ _).alloc (Nat.le_refl _) (.cells Ev.none.cells 49)).grown G7 (by simp) (fun q hq => by injection hq; omega)
              have E1 := E1.below ha7 (by rw [add_block]; exact hp6)
              go_wp2_with (first
                | (refine wpList_load_ev rfl (.tmp 90) rfl (p5.add 10) (chg 128 77) rfl E1 ?_)
                | (refine wpList_store_box rfl (.tmp 17) (.tmp 91) rfl w6.heap.size (chg 128 77) (chg 0 0) rfl rfl X7 ?_; intro w8 X8 G8; refine Hid.out ?_))
              refine Lib.hid ?_
              have ha8 : Below w6.heap.size w6 w8 := ha7.grown G8 ha7.size (fun q hq => by injection hq; omega)
              have hone : (chg 128 77).Fit ∧ (mk (chg 128 77) = 1 ∨ mk (chg 128 77) = 2) := ⟨chg_fit (by omega) (by omega), .inr rfl⟩
              have HB7 := Lib.hid (B6.out.trans (ha8.mono B6.out.size))
              have row7 := (Rd.below rowm6.out ha8).more ha8.size
              clear B6 rowm6 ha7 ha8 E0 E1 G7 G8 HON hwn X7
              generalize chg 128 77 = one at *
              go_wp2_with fail
              refine (hmod.out _).mono ?_
              rintro e w9 ⟨k, hk, rfl, rfl⟩
              obtain ⟨a4, rfl, ha4, hevm⟩ : ∃ a, A4 = some a ∧ a.block < w8.heap.size ∧ EvsAt w8 a m := by
                obtain ⟨a, e, hb, hcl⟩ := row7 (by rw [evs_len]; omega)
                exact ⟨a, e, hb, fun j v hv => by
                  have hj := (List.getElem?_eq_some_iff.1 hv).1
                  rw [hcl j hj, ← hv, List.getElem?_eq_getElem hj]⟩
              have EV : Hid (∀ V, Below w8.heap.size w8 V → EvsAt V a4 m) := Lib.hid fun V hV j v hv => (hV.cell (by rw [add_block]; exact ha4)).trans (hevm j v hv)
              have BX : Hid (∀ V, Below w8.heap.size w8 V → Box V w6.heap.size one) := Lib.hid fun V hV => X8.below hV X8.lt
              have hml := hn4.out
              have k1 : (0 : Int) ≤ (k : Int) := by omega
              have k2 : (k : Int) ≤ (nt : Int) := by omega
              have k3 : (k : Int) ≤ (c4 : Int) := by omega
              have k4 : (nt : Int) ≤ (c4 : Int) := by omega
              have hkm : k ≤ m.length := by omega
              have hml9 : m.length ≤ 12 := by omega
              replace hml := Lib.hid hml
              have HV : Below w8.heap.size w8 w8.drew := (Below.refl _ _).drew
              clear row7 hevm X8
              obtain ⟨oid, otime, ogen, ost, osn, oty, ode, od0, od1, od2⟩ := one
              have KEEP : Hid (∀ V, Below w8.heap.size w8 V → V.cell? ⟨w6.heap.size, 0, none⟩ = some (.int .u16 (oid : Int)) ∧ V.cell? ⟨w6.heap.size, 1, none⟩ = some (.int .u32 (otime : Int)) ∧ V.cell? ⟨w6.heap.size, 2, none⟩ = some (.int .u16 (ogen : Int)) ∧ V.cell? ⟨w6.heap.size, 3, none⟩ = some (.int .u8 (ost : Int)) ∧ V.cell? ⟨w6.heap.size, 4, none⟩ = some (.int .u8 (osn : Int)) ∧ V.cell? ⟨w6.heap.size, 5, none⟩ = some (.int .u8 (oty : Int)) ∧ V.cell? ⟨w6.heap.size, 6, none⟩ = some (.bool ode) ∧ V.cell? ⟨w6.heap.size, 7, none⟩ = some (.int .u8 (od0 : Int)) ∧ V.cell? ⟨w6.heap.size, 8, none⟩ = some (.int .u8 (od1 : Int)) ∧ V.cell? ⟨w6.heap.size, 9, none⟩ = some (.int .u8 (od2 : Int))) := Lib.hid fun V hV =>
                have hB := BX.out V hV
                ⟨hB.c0, hB.c1, hB.c2, hB.c3, hB.c4, hB.c5, hB.c6, hB.c7, hB.c8, hB.c9⟩
              go_wp2_with fail
              by_cases hck : k = c4
              · have hnk : nt = k := by omega
                subst hck
                subst hnk
                go_region_held3 (fun V => V.cell? ⟨w6.heap.size, 0, none⟩ = some (.int .u16 (oid : Int)) ∧ V.cell? ⟨w6.heap.size, 1, none⟩ = some (.int .u32 (otime : Int)) ∧ V.cell? ⟨w6.heap.size, 2, none⟩ = some (.int .u16 (ogen : Int)) ∧ V.cell? ⟨w6.heap.size, 3, none⟩ = some (.int .u8 (ost : Int)) ∧ V.cell? ⟨w6.heap.size, 4, none⟩ = some (.int .u8 (osn : Int)) ∧ V.cell? ⟨w6.heap.size, 5, none⟩ = some (.int .u8 (oty : Int)) ∧ V.cell? ⟨w6.heap.size, 6, none⟩ = some (.bool ode) ∧ V.cell? ⟨w6.heap.size, 7, none⟩ = some (.int .u8 (od0 : Int)) ∧ V.cell? ⟨w6.heap.size, 8, none⟩ = some (.int .u8 (od1 : Int)) ∧ V.cell? ⟨w6.heap.size, 9, none⟩ = some (.int .u8 (od2 : Int))) (first | exact KEEP.out _ HV | exact KEEP.out _ (HV.alloc HV.size _))
                  (first
                    | (refine step_append_e _ rfl (.const (.slice none 0 0)) (.tmp 99) rfl w8.heap.size (.slice none 0 0) [] rfl EOwn.nil (m.take nt) a4 nt nt rfl (by rw [List.length_take]; omega) (evs_take (EV.out _ HV) nt) (by simp; omega) HV.size ?_; intro x1 w9 O9 G9; have HV := below_own EOwn.nil HV G9 (Nat.le_refl _) HV.size)
                    | (refine step_append_e _ rfl (.const (.slice none 0 0)) (.tmp 99) rfl w8.heap.size (.slice none 0 0) [] rfl EOwn.nil (m.take nt) a4 nt nt rfl (by rw [List.length_take]; omega) (evs_take (EV.out _ (HV.alloc HV.size _)) nt) (by simp; omega) (HV.alloc HV.size _).size ?_; intro x1 w9 O9 G9; have SB := evs_kept (box_at (Box.new w8.drew ⟨oid, otime, ogen, ost, osn, oty, ode, od0, od1, od2⟩)).one G9 (by simp); have HV := below_own EOwn.nil (HV.alloc HV.size _) G9 (Nat.le_refl _) (HV.alloc HV.size _).size)
                    | (refine step_append_e _ rfl (.tmp 100) (.tmp 102) rfl w8.heap.size x1 ([] ++ m.take nt) rfl (eown_below O9 ((Below.refl _ _).alloc (Nat.le_refl _) _)) [⟨oid, otime, ogen, ost, osn, oty, ode, od0, od1, od2⟩] ⟨w9.heap.size, 0, none⟩ 1 1 rfl rfl (box_at (Box.new w9 ⟨oid, otime, ogen, ost, osn, oty, ode, od0, od1, od2⟩)).one (by simp; omega) (HV.alloc HV.size _).size ?_; intro x2 w10 O10 G10; have HV := below_own (eown_below O9 ((Below.refl _ _).alloc (Nat.le_refl _) _)) (HV.alloc HV.size _) G10 (Nat.le_refl _) (HV.alloc HV.size _).size)
                    | (refine step_append_e _ rfl (.tmp 100) (.tmp 102) rfl w8.heap.size x1 ([] ++ m.take nt) rfl O9 [⟨oid, otime, ogen, ost, osn, oty, ode, od0, od1, od2⟩] ⟨w8.heap.size, 0, none⟩ 1 1 rfl rfl SB (by simp; omega) HV.size ?_; intro x2 w10 O10 G10; have HV := below_own O9 HV G10 (Nat.le_refl _) HV.size)
                    | (refine step_append_e _ rfl (.tmp 103) (.tmp 106) rfl w8.heap.size x2 ([] ++ m.take nt ++ [⟨oid, otime, ogen, ost, osn, oty, ode, od0, od1, od2⟩]) rfl O10 (m.drop nt) a4 0 0 rfl (by rw [List.length_drop]; have := hml.out; omega) (by rw [List.drop_eq_nil_of_le (by have := hml.out; omega)]; exact fun j v hv => by simp [evs] at hv) (by simp; omega) HV.size ?_; intro x3 w11 O11 G11; have HV := below_own O10 HV G11 (Nat.le_refl _) HV.size)
                    | (refine step_append_e _ rfl (.tmp 103) (.tmp 106) rfl w8.heap.size x2 ([] ++ m.take nt ++ [⟨oid, otime, ogen, ost, osn, oty, ode, od0, od1, od2⟩]) rfl O10 (m.drop nt) a4 (nt - nt) 0 rfl (by rw [List.length_drop]; have := hml.out; omega) (by rw [List.drop_eq_nil_of_le (by have := hml.out; omega)]; exact fun j v hv => by simp [evs] at hv) (by simp; omega) HV.size ?_; intro x3 w11 O11 G11; have HV := below_own O10 HV G11 (Nat.le_refl _) HV.size)
                    | (refine step_append_e _ rfl (.tmp 103) (.tmp 106) rfl w8.heap.size x2 ([] ++ m.take nt ++ [⟨oid, otime, ogen, ost, osn, oty, ode, od0, od1, od2⟩]) rfl O10 (m.drop nt) a4 (nt - nt) (nt - nt) rfl (by rw [List.length_drop]; have := hml.out; omega) (by rw [List.drop_eq_nil_of_le (by have := hml.out; omega)]; exact fun j v hv => by simp [evs] at hv) (by simp; omega) HV.size ?_; intro x3 w11 O11 G11; have HV := below_own O10 HV G11 (Nat.le_refl _) HV.size))
                all_goals
                  have hbad : paired false ([] ++ m.take nt ++ [⟨oid, otime, ogen, ost, osn, oty, ode, od0, od1, od2⟩] ++ m.drop nt) = false := by
                    rw [List.nil_append, List.append_assoc]
                    exact paired_one _ _ _ (fun e he => hno.out e (List.mem_of_mem_take he)) (fun e he => hno.out e (List.mem_of_mem_drop he)) hone.2
                  obtain ⟨A11, n11, c11, rfl, hE11⟩ := O11.sl
                  have hrec2 := Lib.hid (rec_p hE11 (fun e he => by
                    simp only [List.nil_append, List.mem_append, List.mem_singleton] at he
                    rcases he with (he | rfl) | he
                    · exact hfit.out e (List.mem_of_mem_take he)
                    · exact hone.1
                    · exact hfit.out e (List.mem_of_mem_drop he)) (by rw [hE11.len]; simp; omega))
                  rw [show rec ([] ++ m.take nt ++ [⟨oid, otime, ogen, ost, osn, oty, ode, od0, od1, od2⟩] ++ m.drop nt) = ([], 6) by unfold rec; rw [if_neg (by rw [hbad]; simp)]] at hrec2
                  have HBE := Lib.hid (HB7.out.trans (HV.mono HB7.out.size))
                  clear O11 hE11 HV KEEP BX EV hbad
                  go_wp2_with fail
                  refine hrec2.out.mono ?_
                  rintro e w12 ⟨v12, rfl, ho12, hb12⟩
                  obtain ⟨Au, nu, cu, rfl, hnu, -, -, -⟩ := lown_sl ho12
                  obtain rfl : nu = 0 := hnu
                  have HBF := Lib.hid (HBE.out.trans (hb12.mono HBE.out.size))
                  clear hb12 ho12 hrec2
                  go_wp2_with fail
                  refine (haw.out _).mono ?_
                  rintro e w13 ⟨rfl, hb13⟩
                  go_wp2_with fail
                  go_ret
                  exact ⟨rfl, HBF.out.trans (hb13.mono HBF.out.size)⟩
              · have hck2 : ¬ c4 = k := fun e => hck e.symm
                go_region_held3 (fun V => V.cell? ⟨w6.heap.size, 0, none⟩ = some (.int .u16 (oid : Int)) ∧ V.cell? ⟨w6.heap.size, 1, none⟩ = some (.int .u32 (otime : Int)) ∧ V.cell? ⟨w6.heap.size, 2, none⟩ = some (.int .u16 (ogen : Int)) ∧ V.cell? ⟨w6.heap.size, 3, none⟩ = some (.int .u8 (ost : Int)) ∧ V.cell? ⟨w6.heap.size, 4, none⟩ = some (.int .u8 (osn : Int)) ∧ V.cell? ⟨w6.heap.size, 5, none⟩ = some (.int .u8 (oty : Int)) ∧ V.cell? ⟨w6.heap.size, 6, none⟩ = some (.bool ode) ∧ V.cell? ⟨w6.heap.size, 7, none⟩ = some (.int .u8 (od0 : Int)) ∧ V.cell? ⟨w6.heap.size, 8, none⟩ = some (.int .u8 (od1 : Int)) ∧ V.cell? ⟨w6.heap.size, 9, none⟩ = some (.int .u8 (od2 : Int))) (first | exact KEEP.out _ HV | exact KEEP.out _ (HV.alloc HV.size _))
                  (first
                    | (refine step_append_e _ rfl (.const (.slice none 0 0)) (.tmp 99) rfl w8.heap.size (.slice none 0 0) [] rfl EOwn.nil (m.take k) a4 k c4 rfl (by rw [List.length_take]; omega) (evs_take (EV.out _ HV) k) (by simp; omega) HV.size ?_; intro x1 w9 O9 G9; have HV := below_own EOwn.nil HV G9 (Nat.le_refl _) HV.size)
                    | (refine step_append_e _ rfl (.const (.slice none 0 0)) (.tmp 99) rfl w8.heap.size (.slice none 0 0) [] rfl EOwn.nil (m.take k) a4 k c4 rfl (by rw [List.length_take]; omega) (evs_take (EV.out _ (HV.alloc HV.size _)) k) (by simp; omega) (HV.alloc HV.size _).size ?_; intro x1 w9 O9 G9; have SB := evs_kept (box_at (Box.new w8.drew ⟨oid, otime, ogen, ost, osn, oty, ode, od0, od1, od2⟩)).one G9 (by simp); have HV := below_own EOwn.nil (HV.alloc HV.size _) G9 (Nat.le_refl _) (HV.alloc HV.size _).size)
                    | (refine step_append_e _ rfl (.tmp 100) (.tmp 102) rfl w8.heap.size x1 ([] ++ m.take k) rfl (eown_below O9 ((Below.refl _ _).alloc (Nat.le_refl _) _)) [⟨oid, otime, ogen, ost, osn, oty, ode, od0, od1, od2⟩] ⟨w9.heap.size, 0, none⟩ 1 1 rfl rfl (box_at (Box.new w9 ⟨oid, otime, ogen, ost, osn, oty, ode, od0, od1, od2⟩)).one (by simp; omega) (HV.alloc HV.size _).size ?_; intro x2 w10 O10 G10; have HV := below_own (eown_below O9 ((Below.refl _ _).alloc (Nat.le_refl _) _)) (HV.alloc HV.size _) G10 (Nat.le_refl _) (HV.alloc HV.size _).size)
                    | (refine step_append_e _ rfl (.tmp 100) (.tmp 102) rfl w8.heap.size x1 ([] ++ m.take k) rfl O9 [⟨oid, otime, ogen, ost, osn, oty, ode, od0, od1, od2⟩] ⟨w8.heap.size, 0, none⟩ 1 1 rfl rfl SB (by simp; omega) HV.size ?_; intro x2 w10 O10 G10; have HV := below_own O9 HV G10 (Nat.le_refl _) HV.size)
                    | (refine step_append_e _ rfl (.tmp 103) (.tmp 106) rfl w8.heap.size x2 ([] ++ m.take k ++ [⟨oid, otime, ogen, ost, osn, oty, ode, od0, od1, od2⟩]) rfl O10 (m.drop k) (a4.add (k * 10)) (nt - k) (c4 - k) rfl (by rw [List.length_drop, hml.out]) (evs_drop (EV.out _ HV) k hkm) (by simp; omega) HV.size ?_; intro x3 w11 O11 G11; have HV := below_own O10 HV G11 (Nat.le_refl _) HV.size))
                all_goals
                  have hbad : paired false ([] ++ m.take k ++ [⟨oid, otime, ogen, ost, osn, oty, ode, od0, od1, od2⟩] ++ m.drop k) = false := by
                    rw [List.nil_append, List.append_assoc]
                    exact paired_one _ _ _ (fun e he => hno.out e (List.mem_of_mem_take he)) (fun e he => hno.out e (List.mem_of_mem_drop he)) hone.2
                  obtain ⟨A11, n11, c11, rfl, hE11⟩ := O11.sl
                  have hrec2 := Lib.hid (rec_p hE11 (fun e he => by
                    simp only [List.nil_append, List.mem_append, List.mem_singleton] at he
                    rcases he with (he | rfl) | he
                    · exact hfit.out e (List.mem_of_mem_take he)
                    · exact hone.1
                    · exact hfit.out e (List.mem_of_mem_drop he)) (by rw [hE11.len]; simp; omega))
                  rw [show rec ([] ++ m.take k ++ [⟨oid, otime, ogen, ost, osn, oty, ode, od0, od1, od2⟩] ++ m.drop k) = ([], 6) by unfold rec; rw [if_neg (by rw [hbad]; simp)]] at hrec2
                  have HBE := Lib.hid (HB7.out.trans (HV.mono HB7.out.size))
                  clear O11 hE11 HV KEEP BX EV hbad
                  go_wp2_with fail
                  refine hrec2.out.mono ?_
                  rintro e w12 ⟨v12, rfl, ho12, hb12⟩
                  obtain ⟨Au, nu, cu, rfl, hnu, -, -, -⟩ := lown_sl ho12
                  obtain rfl : nu = 0 := hnu
                  have HBF := Lib.hid (HBE.out.trans (hb12.mono HBE.out.size))
                  clear hb12 ho12 hrec2
                  go_wp2_with fail
                  refine (haw.out _).mono ?_
                  rintro e w13 ⟨rfl, hb13⟩
                  go_wp2_with fail
                  go_ret
                  exact ⟨rfl, HBF.out.trans (hb13.mono HBF.out.size)⟩
      · have D := HR.out.dz
        have hwk : wrap64 (k - 1) = k - 1 := by unfold wrap64; omega
        have hlw : W.heap.size < wr.heap.size := D.lt
        go_wp2_with fail
        refine (event_any D).mono ?_
        rintro e u1 ⟨x, rfl, hx, D1, g1⟩
        have O1 := eown_off HR.out.own g1 (Nat.lt_succ_self _)
        have B1 := HR.out.bel.grown g1 (by omega) (fun q hq => by injection hq; omega)
        have hlu : W.heap.size < u1.heap.size := D1.lt
        clear D g1
        replace O1 := Lib.hid O1
        replace B1 := Lib.hid B1
        replace D1 := Lib.hid D1
        go_wp2_with (refine wpList_store_box rfl (.tmp 10) (.tmp 35) rfl u1.heap.size x Ev.none rfl rfl (Box.new u1 Ev.none) ?_; intro u2 hB2 hg2; refine Hid.out ?_)
        refine Lib.hid ?_
        have hz2 := hg2.size
        rw [World.size_alloc] at hz2
        have O2 := eown_new O1.out hg2
        have hz3 : u1.heap.size + 1 ≤ u2.heap.size := by simpa using hz2
        have B2 := (B1.out.alloc B1.out.size (.cells Ev.none.cells 49)).grown hg2 (by simp; omega) (fun q hq => by injection hq; omega)
        have D2 := Dz.grown (Dz.below D1.out ((Below.refl _ _).alloc (Nat.le_refl _) (.cells Ev.none.cells 49)) hlu) hg2 (fun e => by injection e; omega) (fun q hq => by injection hq; omega)
        have c3 := hB2.c3; have f3 := hB2.fz 3
        have hnot : u8.ownBlock ≠ some u1.heap.size := fun e => by have := (World.ownsRow.lt O1.out _ e).2; omega
        clear hg2 O1 B1 D1 hz2
        go_upto_region 10 with fail
        have hB3 := hB2.set 3 (.int .u8 1) (one1 x) rfl
        have g3 := set_grown u2 u1.heap.size 3 (.int .u8 1)
        have O3 : EOwn (W.heap.size + 1) (u2.setCell ⟨u1.heap.size, 3, none⟩ (.int .u8 1)) u8 m := World.ownsRow.kept O2 g3 (.inr hnot)
        have B3 := B2.grown g3 (by omega) (fun q hq => by injection hq; omega)
        have D3 := Dz.grown D2 g3 (fun e => by injection e; omega) (fun q hq => by injection hq; omega)
        have hz4 : u1.heap.size + 1 ≤ (u2.setCell ⟨u1.heap.size, 3, none⟩ (.int .u8 1)).heap.size := by simpa using hz3
        clear hB2 g3 O2 B2 D2 c3 f3 hz3
        generalize u2.setCell ⟨u1.heap.size, 3, none⟩ (.int .u8 1) = u3 at *
        have hfx := one1_fit hx.fit
        have hmx := mk_one1 x
        generalize one1 x = y at *
        replace O3 := Lib.hid O3
        replace B3 := Lib.hid B3
        replace D3 := Lib.hid D3
        go_wp2_with (refine wpList_load_box rfl (.tmp 10) rfl u1.heap.size y rfl hB3 ?_; refine Hid.out ?_)
        dsimp only [Ev.v, Ev.cells]
        refine Lib.hid ?_
        have S4 : EvsAt (u3.alloc (.cells y.cells 49)) ⟨u3.heap.size, 0, none⟩ [y] := (box_at (Box.new u3 y)).one
        have O4 := eown_below O3.out ((Below.refl _ _).alloc (Nat.le_refl _) (.cells y.cells 49))
        have B4 := B3.out.alloc B3.out.size (.cells y.cells 49)
        have D4 := Dz.below D3.out ((Below.refl _ _).alloc (Nat.le_refl _) (.cells y.cells 49)) (by omega)
        have z4 : W.heap.size + 1 ≤ (u3.alloc (.cells y.cells 49)).heap.size := by simp; omega
        have hlen := HR.out.len
        simp only [Ev.cells] at S4 O4 B4 D4 z4
        replace B4 := Lib.hid B4
        replace D4 := Lib.hid D4
        clear O3 B3 D3 hB3
        go_wp2_with (refine wpList_append_e _ rfl (.tmp 37) (.tmp 39) rfl (W.heap.size + 1) u8 m rfl O4 [y] ⟨u3.heap.size, 0, none⟩ 1 1 rfl rfl S4 (by simp; omega) z4 ?_; intro x4 Y5 O5 G5; refine Hid.out ?_)
        refine Lib.hid ?_
        have B5 := Lib.hid (below_own O4 B4.out G5 (Nat.le_succ _) (by omega))
        have D5 := Lib.hid (Dz.grown D4.out G5 (fun e => by have := (World.ownsRow.lt O4 _ e).1; omega) (fun q hq => by have := (World.ownsRow.lt O4 _ hq).1; omega))
        have hfit := HR.out.fit
        have hno := HR.out.no
        replace O5 := Lib.hid O5
        clear O4 S4 B4 D4 G5 z4
        go_wp2_with fail
        refine ⟨⟨k - 1, _, rfl, ⟨by omega, by simp; omega, by intro _; simp, fun e he => ?_, fun e he => ?_, O5.out, D5.out, B5.out⟩⟩, ?_⟩
        · rcases List.mem_append.1 he with he | he
          · exact hfit e he
          · obtain rfl := List.mem_singleton.1 he; exact hfx
        · rcases List.mem_append.1 he with he | he
          · exact hno e he
          · obtain rfl := List.mem_singleton.1 he; exact hmx
        · simp only [intOf]; omega
  · have hL1 := Lib.hid (fun u => by have := lightmade_any A n c u (by unfold maxLen at *; omega); rw [decide_eq_false h600] at this; exact this)
    clear hr hn hw
    go_enter Try.func8, Try.ntmps8
    go_wp2_with (go_at_call 20; refine (hL1.out _).mono ?_; rintro e w' ⟨rfl, rfl⟩)
    refine (haw.out _).mono ?_
    rintro e u1 ⟨rfl, hb1⟩
    go_wp2_with fail
    go_ret
    exact ⟨rfl, hb1⟩

theorem cells_u8 : Try.prog.cellsOf 5 = 1 := by kernel_rfl
theorem cells_int : Try.prog.cellsOf 3 = 1 := by kernel_rfl
theorem own : ownKnob Try.prog.godebug = none := by kernel_rfl
theorem laidOut : laidOutB Try.prog = true := by kernel_rfl
theorem contract (H : Type) (enc : TypeId × Value → H) (W : World) (base : Nat) (args : Array Value) (ds gs : List (DataW H)) (before : List MemPlace)
    (hval : ∀ (j : Nat) t v, Try.f8.params[j]? = some t → args[j]? = some v → Value.okWide Try.prog W .any base t v)
    (hW : DataW.Whole enc Try.prog Try.f8.params.toList Rows.clockPairsSpec.vars false W args.toList ds gs before) :
    Calls Try.prog 8 args W fun e W' => ∃ v, e = .returned v ∧ Rows.clockPairsSpec.post enc Try.prog Try.f8 false true false false W args v W' := by
  have hW' := hW
  obtain ⟨p, q, hA0, hV, rfl, hfz, hnd⟩ := hW
  have hA : DataW.TrodAll enc Try.prog W 0 (fun _ => true) true Try.f8.params.toList args.toList ds p := hA0
  rw [Try.params8] at hA hval
  obtain ⟨v0, vs0, d0, ds0, p0, q0, hargs, rfl, rfl, h0, r0⟩ := trodAll_cons hA
  obtain ⟨v1, vs1, d1, ds1, p1, q1, rfl, rfl, rfl, h1, r1⟩ := trodAll_cons r0
  obtain ⟨v2, vs2, d2, ds2, p2, q2, rfl, rfl, rfl, h2, r2⟩ := trodAll_cons r1
  obtain ⟨rfl, rfl, rfl⟩ := trodAll_nil r2
  obtain rfl : args = #[v0, v1, v2] := by cases args; simp_all
  obtain ⟨A0, n0, c0, l0, rfl, hn0, hr0, hw0, hc0, hm0, hk0⟩ := open_int_list Try.underlying42 Try.underlying3 cells_int (hval 0 42 v0 rfl rfl) h0
  obtain ⟨a1, rfl, -, -, w1⟩ := open_int Try.underlying3 (hval 1 3 v1 rfl rfl) h1
  obtain ⟨b2, rfl, -, -⟩ := open_bool Try.underlying4 (hval 2 4 v2 rfl rfl) h2
  clear hA0
  refine (walk A0 n0 c0 l0 hn0 hw0 hc0 hm0 hk0 a1 (bounds_i64 w1) b2 W hr0).mono fun e W' ⟨he, hb⟩ => ?_
  subst he
  exact ⟨_, rfl, law_post laidOut (types_fit (by kernel_rfl)) (by kernel_rfl) Try.underlying4 rfl (fun xs hx => by
    match xs, hx with
    | [_, _, _], _ => rfl) hW' hb⟩

theorem lifted (os : Os) (started : os.Started) (H : Type) (enc : TypeId × Value → H) :
    ReturnsInHanded {} Try.checked os 8 .any (Rows.clockPairsSpec.pre6 enc Try.prog Try.f8 Rows.clockPairsRow.domain false) (Rows.clockPairsSpec.post enc Try.prog Try.f8 false true false false) := by
  refine returnsInHanded_of_change (C := Try.checked) own started (by kernel_rfl) Try.func8
    (ChangeSpec.witness6 (enc := enc) (C := Try.checked) false ⟨#[], #[.slice none 0 0, .int .i64 0, .bool false], []⟩ 8 (by kernel_rfl) (by kernel_rfl) (by kernel_rfl) (by kernel_rfl)) ?_
  intro W base args ds gs before hval hW _ _
  exact contract H enc W base args ds gs before hval hW

theorem proved : Rows.ClockPairsSaid :=
  OpenClaim.holds_of_wide 8 Try.f8 rfl rfl rfl rfl rfl rfl rfl ⟨rfl, rfl, rfl, rfl, rfl⟩ rfl rfl rfl rfl rfl (by kernel_rfl) Try.func8 (by kernel_rfl)
    (of_decide_eq_true (by kernel_rfl)) (by unfold Func.isWrapper; first | (rw [if_pos (by decide +kernel)]; kernel_rfl) | (rw [if_neg (by decide +kernel)]; exact ⟨rfl, rfl⟩))
    (fun os started H enc _ => lifted os started H enc)
end Go.Proofs.Ytafhbdbmoeihaaa.clockPairs
