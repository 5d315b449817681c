/- DiscreteApplies holds for every input: what any changes make of a state is what the document says. No condition. -/
import Derived.Test.YtafoaonkjcfbaaaZd
import Derived.Test.YtafoaonkjcfbaaaZf
import Derived.Test.YtafoaonkjcfbaaaLaw13
import Derived.Test.YtafoaonkjcfbaaaLaw2
namespace Go.Proofs.Ytafoaonkjcfbaaa.discreteApplies
open Go.RowKit Go.ChangeShapes Go.WideShapes Go.ChangeAt Go.Proofs.Ytafoaonkjcfbaaa.Mem Go.Proofs.Ytafoaonkjcfbaaa.F2p Go.Proofs.Ytafoaonkjcfbaaa.Law Go.Proofs.Ytafoaonkjcfbaaa.Made Go.Proofs.Ytafoaonkjcfbaaa.Zb
set_option maxRecDepth 100000
set_option maxHeartbeats 2000000

/-- A change in a block of its own. -/
def C2 (w : World) (r : Nat) (i : Int) (on : Bool) : Prop := w.heap[r]? = some (.cells #[.int .i64 i, .bool on] 88 (0, 0))
theorem C2.lt {w : World} {r : Nat} {i : Int} {on : Bool} (h : C2 w r i on) : r < w.heap.size := by
  rcases Nat.lt_or_ge r w.heap.size with h1 | h1
  · exact h1
  · unfold C2 at h; rw [Array.getElem?_eq_none h1] at h; cases h
theorem C2.kept {w w' : World} {r : Nat} {i : Int} {on : Bool} (h : C2 w r i on) {b : Option Nat} (hg : w.grownBy w' b) (hne : some r ≠ b) : C2 w' r i on := (hg.block r h.lt hne).trans h
theorem C2.c0 {w : World} {r : Nat} {i : Int} {on : Bool} (h : C2 w r i on) : w.cell? ⟨r, 0, none⟩ = some (.int .i64 i) := cell_of_row w r 0 _ _ _ h
theorem C2.c1 {w : World} {r : Nat} {i : Int} {on : Bool} (h : C2 w r i on) : w.cell? ⟨r, 1, none⟩ = some (.bool on) := cell_of_row w r 1 _ _ _ h
theorem C2.fz {w : World} {r : Nat} {i : Int} {on : Bool} (h : C2 w r i on) (k : Nat) : w.frozen? ⟨r, k, none⟩ = false := frozen_of_row w r k _ _ h
theorem C2.set0 {w : World} {r : Nat} {i : Int} {on : Bool} (h : C2 w r i on) (j : Int) : C2 (w.setCell ⟨r, 0, none⟩ (.int .i64 j)) r j on := heap_setCell_same w r 0 _ _ _ h
theorem C2.set1 {w : World} {r : Nat} {i : Int} {on : Bool} (h : C2 w r i on) (b : Bool) : C2 (w.setCell ⟨r, 1, none⟩ (.bool b)) r i b := heap_setCell_same w r 1 _ _ _ h
theorem lt_of_some {w : World} {b : Nat} {o : Obj} (h : w.heap[b]? = some o) : b < w.heap.size := by
  rcases Nat.lt_or_ge b w.heap.size with h1 | h1
  · exact h1
  · rw [Array.getElem?_eq_none h1] at h; cases h
theorem kown_other {base : Nat} {w w' : World} {v : Value} {l : List Ch} (h : KOwn base w v l) (hk : ∀ k, base ≤ k → k < w.heap.size → v.ownBlock = some k → w'.heap[k]? = w.heap[k]?) : KOwn base w' v l := by
  refine ⟨h.1, ?_⟩
  rcases h.2 with h1 | ⟨g, cap, cur, h1, h2, h3, h4⟩
  · exact .inl h1
  · refine .inr ⟨g, cap, cur, h1, h2, (hk g h2 ?_ (by rw [h1]; rfl)).trans h3, h4⟩
    rcases Nat.lt_or_ge g w.heap.size with h5 | h5
    · exact h5
    · rw [Array.getElem?_eq_none h5] at h3; cases h3
theorem kown_kept {base : Nat} {w w' : World} {v : Value} {l : List Ch} (h : KOwn base w v l) {g : Nat} (hg : w.grownBy w' (some g)) (hlo : g < base) : KOwn base w' v l :=
  kown_other h fun k hk hlt _ => hg.block k hlt (fun e => by injection e; omega)
theorem walk (st : Int) (hst : 0 ≤ st ∧ st ≤ 65535) (B : Option Addr) (bn bc : Nat) (m : List Ch) (_hm0 : ∀ q ∈ m, -9223372036854775808 ≤ q.i ∧ q.i ≤ 9223372036854775807) (A : Option Addr) (n c : Nat) (l : List Int) (hn : n = l.length) (hw : ∀ x ∈ l, -9223372036854775808 ≤ x ∧ x ≤ 9223372036854775807) (hc : n ≤ c) (hm : c ≤ maxLen) (_hA : A = none → c = 0)
    (w : World) (hsl : KSl w B bn bc m) (hr : IRow w.heap.size w A l) :
    Calls Try.prog 9 #[.int .u16 st, .slice B bn bc, .slice A n c] w fun e w' => e = .returned (.bool true) ∧ Below w.heap.size w w' := by
  have hnm : n ≤ maxLen := by omega
  obtain ⟨st, rfl⟩ := Int.eq_ofNat_of_zero_le hst.1
  have hst8 : st < 65536 := by omega
  have hbm : bn ≤ maxLen := Nat.le_trans hsl.cap hsl.max
  have hbm2 := hbm
  unfold maxLen at hbm2
  have HN := Lib.hid hn
  have HW := Lib.hid hw
  have HSL := Lib.hid hsl
  clear hn hw hc hm _hA hst _hm0 hsl
  have haw := Lib.hid (fun u => Ya.awake13 u)
  go_enter Try.func9, Try.ntmps9
  by_cases h100 : bn ≤ 100
  case neg =>
    have d1 : decide (100 < (bn : Int)) = true := decide_eq_true (by omega)
    go_wp2_with fail
    refine (haw.out _).mono ?_
    rintro e w3 ⟨rfl, hb3⟩
    go_wp2_with fail
    go_ret
    exact ⟨rfl, hb3⟩
  have d1 : decide (100 < (bn : Int)) = false := decide_eq_false (by omega)
  by_cases h6 : n ≤ 600
  case neg =>
    have d6 : decide (n ≤ 600) = false := decide_eq_false h6
    go_wp2_with fail
    refine (Made.lightmade_any A n c _ hnm).mono ?_
    rintro e w' ⟨rfl, rfl⟩
    rw [d6]
    go_wp2_with fail
    refine (haw.out _).mono ?_
    rintro e w3 ⟨rfl, hb3⟩
    go_wp2_with fail
    go_ret
    exact ⟨rfl, hb3⟩
  have d6 : decide (n ≤ 600) = true := decide_eq_true h6
  go_wp2_with fail
  refine (Made.lightmade_any A n c _ hnm).mono ?_
  rintro e w' ⟨rfl, rfl⟩
  rw [d6]
  go_wp2_with fail
  refine (Made.roll_any A n c w).mono ?_
  rintro e w1 ⟨rfl, rfl⟩
  have hdz := Dz.start A n c l w hr HN.out HW.out (by omega)
  have hb1 : Below w.heap.size w (w.alloc (.cells #[.slice A n c, .int .i64 0] 105)) := (Below.refl _ _).alloc (Nat.le_refl _) _
  have hs1 : w.heap.size < (w.alloc (.cells #[.slice A n c, .int .i64 0] 105)).heap.size := by rw [World.size_alloc]; omega
  generalize w.alloc (.cells #[.slice A n c, .int .i64 0] 105) = w1 at *
  go_wp2_with fail
  refine (hdz.next 20 (by omega) (by omega)).mono ?_
  rintro e w2 ⟨q0, hq0, rfl, hdz2, hg2⟩
  have hb2 : Below w.heap.size w w2 := hb1.grown hg2 hb1.size (fun k hk => by injection hk; omega)
  have hs2 : w.heap.size < w2.heap.size := hdz2.lt
  clear hg2 hb1 hdz d1 d6
  go_wp2_with fail
  go_loopw [8, 9, 10] (fun v nw k wr => ∃ (q x : Nat) (ml : List Ch), q ≤ 19 ∧ k = .int .i64 (q : Int) ∧ nw = .int .u16 (x : Int) ∧ x < 65536 ∧ ml.length + q ≤ 19 ∧ KOwn w2.heap.size wr v ml ∧ Dz wr w.heap.size A n c l ∧ Below w.heap.size w wr ∧ w2.heap.size ≤ wr.heap.size) (fun _ _ k _ => (intOf k).toNat)
  case atStart => exact ⟨q0, st, [], by omega, rfl, rfl, hst8, by simp; omega, KOwn.nil, hdz2, hb2, Nat.le_refl _⟩
  case round =>
    clear hdz2 hb2
    obtain ⟨q, x, ml, hq, rfl, rfl, hx, hml, hown, hdz, hbel, hge⟩ := hrel
    by_cases hq0 : 0 < q
    · obtain ⟨q, rfl⟩ : ∃ p, q = p + 1 := ⟨q - 1, by omega⟩
      have k1 : decide (0 < ((q + 1 : Nat) : Int)) = true := decide_eq_true (by omega)
      go_wp2_with fail
      refine (hdz.next 15 (by omega) (by omega)).mono ?_
      rintro e w4 ⟨r, hr15, rfl, hdz4, hg4⟩
      have hb4 := hbel.grown hg4 hbel.size (fun k hk => by injection hk; omega)
      have hown4 := kown_kept hown hg4 hs2
      have hge4 : w2.heap.size ≤ w4.heap.size := Nat.le_trans hge hg4.size
      clear hg4 hbel hown hdz hge
      have h3 : (x : Int) / 2 ^ r = ((x / 2 ^ r : Nat) : Int) := by rw [Int.natCast_ediv, Int.natCast_pow]; rfl
      have hq1 : x / 2 ^ r < 65536 := Nat.lt_of_le_of_lt (Nat.div_le_self _ _) hx
      have hp := pow16 r (by omega)
      have hxl : x ^^^ 2 ^ r < 65536 := Nat.xor_lt_two_pow (n := 16) hx hp
      have e3 := Ya.xor_u16 x (2 ^ r) hx hp
      have hpm : IntKind.u16.wrap ((2 : Int) ^ r) = ((2 ^ r : Nat) : Int) := by
        rw [show (2 : Int) ^ r = ((2 ^ r : Nat) : Int) by rw [Int.natCast_pow]; rfl]
        generalize 2 ^ r = q at *
        exact IntWalk.u16_in _ ⟨by omega, by omega⟩
      rw [← hpm] at e3
      clear hp hpm
      have HXL := Lib.hid hxl
      clear hxl
      generalize x ^^^ 2 ^ r = X at *
      generalize x / 2 ^ r = Y at *
      go_wp2_with fail
      have hlt4 : ∀ k, u8.ownBlock = some k → k < w4.heap.size := fun k hk => by
        obtain ⟨_, _, _, h⟩ := KOwn.blk hown4 hk
        exact lt_of_some h
      have hc5 : C2 (w4.alloc (.cells #[.int .i64 (r : Int), .bool ((Y : Int) % 2 == 0)] 88)) w4.heap.size (r : Int) ((Y : Int) % 2 == 0) := heap_alloc_new w4 _
      have hba := (Below.refl w4.heap.size w4).alloc (Nat.le_refl _) (.cells #[.int .i64 (r : Int), .bool ((Y : Int) % 2 == 0)] 88)
      have hdz5 := hdz4.below hba hdz4.lt
      have hown5 : KOwn w2.heap.size _ u8 ml := World.ownsRow.alloc hown4 (.cells #[.int .i64 (r : Int), .bool ((Y : Int) % 2 == 0)] 88)
      have hb5 := hb4.alloc hb4.size (.cells #[.int .i64 (r : Int), .bool ((Y : Int) % 2 == 0)] 88)
      have hge5 : w2.heap.size ≤ (w4.alloc (.cells #[.int .i64 (r : Int), .bool ((Y : Int) % 2 == 0)] 88)).heap.size := Nat.le_trans hge4 hba.size
      generalize w4.alloc (.cells #[.int .i64 (r : Int), .bool ((Y : Int) % 2 == 0)] 88) = w5 at *
      generalize ((Y : Int) % 2 == 0) = on at *
      obtain ⟨F, hF⟩ : ∃ F, F = w4.heap.size := ⟨_, rfl⟩
      have hF2 : w2.heap.size ≤ F := by omega
      rw [← hF] at hlt4 hc5 ⊢
      clear hF hown4 hdz4 hb4 hba hge4 h3 e3 hq1 hx
      refine (hdz5.bool 60 (by omega) (by omega)).mono ?_
      rintro e w6 ⟨b6, rfl, hdz6, hg6⟩
      have hc6 := hc5.kept hg6 (fun e => by injection e; omega)
      have hown6 := kown_kept hown5 hg6 hs2
      have hb6 := hb5.grown hg6 hb5.size (fun k hk => by injection hk; omega)
      have hge6 : w2.heap.size ≤ w6.heap.size := Nat.le_trans hge5 hg6.size
      clear hc5 hdz5 hown5 hb5 hg6 hge5
      cases b6
      · skip
        go_wp2_with fail
        refine (hdz6.bool 60 (by omega) (by omega)).mono ?_
        rintro e w7 ⟨b7, rfl, hdz7, hg7⟩
        have hc7 := hc6.kept hg7 (fun e => by injection e; omega)
        have hown7 := kown_kept hown6 hg7 hs2
        have hb7 := hb6.grown hg7 hb6.size (fun k hk => by injection hk; omega)
        have hge7 : w2.heap.size ≤ w7.heap.size := Nat.le_trans hge6 hg7.size
        clear hc6 hdz6 hown6 hb6 hg7 hge6
        cases b7
        · skip
          have c0 := hc7.c0
          have c1 := hc7.c1
          go_wp2_with (at_builtin; (refine wpList_append_k _ rfl (.tmp 65) (.tmp 67) rfl w2.heap.size _ ml rfl (World.ownsRow.alloc hown7 _) [⟨(r : Int), on⟩] ⟨_, 0, none⟩ 1 1 rfl rfl (KsAt.one (cell_of_row _ _ 0 _ _ _ (heap_alloc_new _ _)) (cell_of_row _ _ 1 _ _ _ (heap_alloc_new _ _))) (by first | (simp; done) | (simp; omega)) (by first | (simp; done) | (simp; omega)) ?_); intro v8 w8 hown8 hg8 hv8)
          have hba := (Below.refl w2.heap.size w7).alloc hge7 (.cells #[.int .i64 ((r : Int)), .bool (on)] 88)
          have hba2 := hba.grown hg8 (by have := hba.size; omega) (fun k hk => (KOwn.blk hown7 hk).1)
          exact ⟨⟨q, X, ml ++ [⟨(r : Int), on⟩], by omega, by go_num, rfl, HXL.out, by simp; omega, hown8, hdz7.below hba2 hs2, hb7.trans (hba2.mono (by omega)), Nat.le_trans hge7 hba2.size⟩, by first | (simp [intOf]; done) | (simp [intOf]; omega)⟩
        · go_wp2_with fail
          refine (hdz7.next 2 (by omega) (by omega)).mono ?_
          rintro e w9 ⟨dd, hdd, rfl, hdz9, hg9⟩
          have hc9 := hc7.kept hg9 (fun e => by injection e; omega)
          have hown9 := kown_kept hown7 hg9 hs2
          have hb9 := hb7.grown hg9 hb7.size (fun k hk => by injection hk; omega)
          have hge9 : w2.heap.size ≤ w9.heap.size := Nat.le_trans hge7 hg9.size
          clear hc7 hdz7 hown7 hb7 hg9 hge7
          have cc0 := hc9.c0
          have ff0 := hc9.fz 0
          have hc9t := hc9.set0 (15 - 16 * (dd : Int))
          have hset := (Below.refl F w9).setCell (p := ⟨F, 0, none⟩) (Nat.le_refl _) (.int .i64 (15 - 16 * (dd : Int)))
          have hdz9t := hdz9.below hset (by omega)
          have hown9t : KOwn w2.heap.size _ u8 ml := kown_other hown9 (fun k _ _ hk => hset.block k (hlt4 k hk))
          have hb9t := hb9.setCell (p := ⟨F, 0, none⟩) (by show w.heap.size ≤ F; omega) (.int .i64 (15 - 16 * (dd : Int)))
          have hge9t : w2.heap.size ≤ (w9.setCell ⟨F, 0, none⟩ (.int .i64 (15 - 16 * (dd : Int)))).heap.size := Nat.le_trans hge9 hset.size
          generalize hw : w9.setCell ⟨F, 0, none⟩ (.int .i64 (15 - 16 * (dd : Int))) = w9t at *
          have HWS := Lib.hid hw
          clear hc9 hown9 hdz9 hb9 hge9 hset hw
          go_upto_region 16 with fail
          rw [HWS.out]
          clear cc0 ff0 HWS
          have c0 := hc9t.c0
          have c1 := hc9t.c1
          go_wp2_with (at_builtin; (refine wpList_append_k _ rfl (.tmp 65) (.tmp 67) rfl w2.heap.size _ ml rfl (World.ownsRow.alloc hown9t _) [⟨15 - 16 * (dd : Int), on⟩] ⟨_, 0, none⟩ 1 1 rfl rfl (KsAt.one (cell_of_row _ _ 0 _ _ _ (heap_alloc_new _ _)) (cell_of_row _ _ 1 _ _ _ (heap_alloc_new _ _))) (by first | (simp; done) | (simp; omega)) (by first | (simp; done) | (simp; omega)) ?_); intro v8 w8 hown8 hg8 hv8)
          have hba := (Below.refl w2.heap.size w9t).alloc hge9t (.cells #[.int .i64 (15 - 16 * (dd : Int)), .bool (on)] 88)
          have hba2 := hba.grown hg8 (by have := hba.size; omega) (fun k hk => (KOwn.blk hown9t hk).1)
          exact ⟨⟨q, X, ml ++ [⟨15 - 16 * (dd : Int), on⟩], by omega, by go_num, rfl, HXL.out, by simp; omega, hown8, hdz9t.below hba2 hs2, hb9t.trans (hba2.mono (by omega)), Nat.le_trans hge9t hba2.size⟩, by first | (simp [intOf]; done) | (simp [intOf]; omega)⟩
      · have cc1 := hc6.c1
        have ff1 := hc6.fz 1
        have hc6s := hc6.set1 (!on)
        have hset := (Below.refl F w6).setCell (p := ⟨F, 1, none⟩) (Nat.le_refl _) (.bool (!on))
        have hdz6s := hdz6.below hset (by omega)
        have hown6s : KOwn w2.heap.size _ u8 ml := kown_other hown6 (fun k _ _ hk => hset.block k (hlt4 k hk))
        have hb6s := hb6.setCell (p := ⟨F, 1, none⟩) (by show w.heap.size ≤ F; omega) (.bool (!on))
        have hge6s : w2.heap.size ≤ (w6.setCell ⟨F, 1, none⟩ (.bool (!on))).heap.size := Nat.le_trans hge6 hset.size
        generalize hw : w6.setCell ⟨F, 1, none⟩ (.bool (!on)) = w6s at *
        have HWS := Lib.hid hw
        clear hc6 hown6 hdz6 hb6 hge6 hset hw
        go_upto_region 14 with fail
        rw [HWS.out]
        clear cc1 ff1 HWS
        generalize (!on) = on2 at *
        go_wp2_with fail
        refine (hdz6s.bool 60 (by omega) (by omega)).mono ?_
        rintro e w7s ⟨b7, rfl, hdz7s, hg7s⟩
        have hc7s := hc6s.kept hg7s (fun e => by injection e; omega)
        have hown7s := kown_kept hown6s hg7s hs2
        have hb7s := hb6s.grown hg7s hb6s.size (fun k hk => by injection hk; omega)
        have hge7s : w2.heap.size ≤ w7s.heap.size := Nat.le_trans hge6s hg7s.size
        clear hc6s hdz6s hown6s hb6s hg7s hge6s
        cases b7
        · skip
          have c0 := hc7s.c0
          have c1 := hc7s.c1
          go_wp2_with (at_builtin; (refine wpList_append_k _ rfl (.tmp 65) (.tmp 67) rfl w2.heap.size _ ml rfl (World.ownsRow.alloc hown7s _) [⟨(r : Int), on2⟩] ⟨_, 0, none⟩ 1 1 rfl rfl (KsAt.one (cell_of_row _ _ 0 _ _ _ (heap_alloc_new _ _)) (cell_of_row _ _ 1 _ _ _ (heap_alloc_new _ _))) (by first | (simp; done) | (simp; omega)) (by first | (simp; done) | (simp; omega)) ?_); intro v8 w8 hown8 hg8 hv8)
          have hba := (Below.refl w2.heap.size w7s).alloc hge7s (.cells #[.int .i64 ((r : Int)), .bool (on2)] 88)
          have hba2 := hba.grown hg8 (by have := hba.size; omega) (fun k hk => (KOwn.blk hown7s hk).1)
          exact ⟨⟨q, X, ml ++ [⟨(r : Int), on2⟩], by omega, by go_num, rfl, HXL.out, by simp; omega, hown8, hdz7s.below hba2 hs2, hb7s.trans (hba2.mono (by omega)), Nat.le_trans hge7s hba2.size⟩, by first | (simp [intOf]; done) | (simp [intOf]; omega)⟩
        · go_wp2_with fail
          refine (hdz7s.next 2 (by omega) (by omega)).mono ?_
          rintro e w9s ⟨dd, hdd, rfl, hdz9s, hg9s⟩
          have hc9s := hc7s.kept hg9s (fun e => by injection e; omega)
          have hown9s := kown_kept hown7s hg9s hs2
          have hb9s := hb7s.grown hg9s hb7s.size (fun k hk => by injection hk; omega)
          have hge9s : w2.heap.size ≤ w9s.heap.size := Nat.le_trans hge7s hg9s.size
          clear hc7s hdz7s hown7s hb7s hg9s hge7s
          have cc0 := hc9s.c0
          have ff0 := hc9s.fz 0
          have hc9st := hc9s.set0 (15 - 16 * (dd : Int))
          have hset := (Below.refl F w9s).setCell (p := ⟨F, 0, none⟩) (Nat.le_refl _) (.int .i64 (15 - 16 * (dd : Int)))
          have hdz9st := hdz9s.below hset (by omega)
          have hown9st : KOwn w2.heap.size _ u8 ml := kown_other hown9s (fun k _ _ hk => hset.block k (hlt4 k hk))
          have hb9st := hb9s.setCell (p := ⟨F, 0, none⟩) (by show w.heap.size ≤ F; omega) (.int .i64 (15 - 16 * (dd : Int)))
          have hge9st : w2.heap.size ≤ (w9s.setCell ⟨F, 0, none⟩ (.int .i64 (15 - 16 * (dd : Int)))).heap.size := Nat.le_trans hge9s hset.size
          generalize hw : w9s.setCell ⟨F, 0, none⟩ (.int .i64 (15 - 16 * (dd : Int))) = w9st at *
          have HWS := Lib.hid hw
          clear hc9s hown9s hdz9s hb9s hge9s hset hw
          go_upto_region 16 with fail
          rw [HWS.out]
          clear cc0 ff0 HWS
          have c0 := hc9st.c0
          have c1 := hc9st.c1
          go_wp2_with (at_builtin; (refine wpList_append_k _ rfl (.tmp 65) (.tmp 67) rfl w2.heap.size _ ml rfl (World.ownsRow.alloc hown9st _) [⟨15 - 16 * (dd : Int), on2⟩] ⟨_, 0, none⟩ 1 1 rfl rfl (KsAt.one (cell_of_row _ _ 0 _ _ _ (heap_alloc_new _ _)) (cell_of_row _ _ 1 _ _ _ (heap_alloc_new _ _))) (by first | (simp; done) | (simp; omega)) (by first | (simp; done) | (simp; omega)) ?_); intro v8 w8 hown8 hg8 hv8)
          have hba := (Below.refl w2.heap.size w9st).alloc hge9st (.cells #[.int .i64 (15 - 16 * (dd : Int)), .bool (on2)] 88)
          have hba2 := hba.grown hg8 (by have := hba.size; omega) (fun k hk => (KOwn.blk hown9st hk).1)
          exact ⟨⟨q, X, ml ++ [⟨15 - 16 * (dd : Int), on2⟩], by omega, by go_num, rfl, HXL.out, by simp; omega, hown8, hdz9st.below hba2 hs2, hb9st.trans (hba2.mono (by omega)), Nat.le_trans hge9st hba2.size⟩, by first | (simp [intOf]; done) | (simp [intOf]; omega)⟩
    · obtain rfl : q = 0 := by omega
      rw [show ((0 : Nat) : Int) = 0 from rfl]
      obtain ⟨MA, mn, mc, rfl, hms⟩ := hown.sl
      go_wp2_with fail
      have hrow3 : (wr.alloc (.cells #[.slice B bn bc, .slice MA mn mc] 82)).heap[wr.heap.size]? = some (.cells #[.slice B bn bc, .slice MA mn mc] 82 (0, 0)) := heap_alloc_new wr _
      have hb8 := (Below.refl wr.heap.size wr).alloc (Nat.le_refl _) (.cells #[.slice B bn bc, .slice MA mn mc] 82)
      have hs8 := (HSL.out.step hbel).step hb8
      have hm8 := hms.step hb8
      have hbel8 := hbel.alloc hbel.size (.cells #[.slice B bn bc, .slice MA mn mc] 82)
      obtain ⟨g3, hg3⟩ : ∃ g, g = wr.heap.size := ⟨_, rfl⟩
      rw [← hg3] at hrow3 ⊢
      generalize wr.alloc (.cells #[.slice B bn bc, .slice MA mn mc] 82) = w8 at *
      clear hg3 hb8 hms hbel hown hdz
      have HR3 := Lib.hid hrow3
      have HS8 := Lib.hid hs8
      have HM8 := Lib.hid hm8
      clear hrow3 hs8 hm8
      go_loopw [73] (fun i wq => ∃ j : Nat, j ≤ 2 ∧ i = .int .i64 (j : Int) ∧ Below w8.heap.size w8 wq) (fun i _ => 2 - (intOf i).toNat)
      case atStart => exact ⟨0, by omega, rfl, Below.refl _ _⟩
      case round =>
        obtain ⟨j, hj, rfl, hbq⟩ := hrel
        by_cases hj2 : j < 2
        · have hrw := (hbq.block g3 (lt_of_some HR3.out)).trans HR3.out
          obtain ⟨YA, yn, yc, ym, hY, cY⟩ : ∃ YA yn yc ym, KSl wr YA yn yc ym ∧ wr.cell? ⟨g3, j, none⟩ = some (.slice YA yn yc) := by
            rcases (show j = 0 ∨ j = 1 by omega) with rfl | rfl
            · exact ⟨B, bn, bc, m, HS8.out.step hbq, cell_of_row wr g3 0 _ _ _ hrw⟩
            · exact ⟨MA, mn, mc, ml, HM8.out.step hbq, cell_of_row wr g3 1 _ _ _ hrw⟩
          have b1 : (0 : Int) ≤ (j : Int) := by omega
          have b2 : (j : Int) < 2 := by omega
          clear hrw
          have HP := Lib.hid fun (u : World) (hu : KSl u YA yn yc ym) => apply_d st hst8 YA yn yc ym u hu
          have HR := Lib.hid fun (u : World) (hu : KSl u YA yn yc ym) => apply_r st hst8 YA yn yc ym u hu
          generalize (apl st ym).1 = P1 at *
          generalize (apl st ym).2 = P2 at *
          have e1 : (((P1 : Nat) : Int) != ((P1 : Nat) : Int)) = false := by simp
          have e2 : (((P2 : Nat) : Int) != ((P2 : Nat) : Int)) = false := by simp
          go_wp2_with fail
          refine (HP.out _ hY).mono ?_
          rintro e u1 ⟨rfl, hu1⟩
          have hY1 := hY.step hu1
          have hbq1 := hbq.trans (hu1.mono hbq.size)
          clear hY hu1 hbq cY b1 b2
          go_wp2_with fail
          refine (HR.out _ hY1).mono ?_
          rintro e u2 ⟨rfl, hu2⟩
          have hbq2 := hbq1.trans (hu2.mono hbq1.size)
          clear hY1 hu2 hbq1
          go_wp2_with fail
          exact ⟨⟨j + 1, by omega, by go_num, hbq2⟩, by simp [intOf]; omega⟩
        · obtain rfl : j = 2 := by omega
          go_wp2_with fail
          refine (haw.out _).mono ?_
          rintro e w9 ⟨rfl, hb9⟩
          go_wp2_with fail
          go_ret
          exact ⟨rfl, (hbel8.trans (hbq.mono hbel8.size)).trans (hb9.mono (Nat.le_trans hbel8.size hbq.size))⟩

theorem cells_u8 : Try.prog.cellsOf 5 = 1 := by kernel_rfl
theorem cells_int : Try.prog.cellsOf 3 = 1 := by kernel_rfl
theorem own : ownKnob Try.prog.godebug = none := by kernel_rfl
theorem laidOut : laidOutB Try.prog = true := by kernel_rfl
theorem contract (H : Type) (enc : TypeId × Value → H) (W : World) (base : Nat) (args : Array Value) (ds gs : List (DataW H)) (before : List MemPlace)
    (hval : ∀ (j : Nat) t v, Try.f9.params[j]? = some t → args[j]? = some v → Value.okWide Try.prog W .any base t v)
    (hW : DataW.Whole enc Try.prog Try.f9.params.toList Rows.discreteAppliesSpec.vars false W args.toList ds gs before) :
    Calls Try.prog 9 args W fun e W' => ∃ v, e = .returned v ∧ Rows.discreteAppliesSpec.post enc Try.prog Try.f9 false true false false W args v W' := by
  have hW' := hW
  obtain ⟨p, q, hA0, hV, rfl, hfz, hnd⟩ := hW
  have hA : DataW.TrodAll enc Try.prog W 0 (fun _ => true) true Try.f9.params.toList args.toList ds p := hA0
  rw [Try.params9] at hA hval
  obtain ⟨v0, vs0, d0, ds0, p0, q0, hargs, rfl, rfl, h0, r0⟩ := trodAll_cons hA
  obtain ⟨v1, vs1, d1, ds1, p1, q1, rfl, rfl, rfl, h1, r1⟩ := trodAll_cons r0
  obtain ⟨v2, vs2, d2, ds2, p2, q2, rfl, rfl, rfl, h2, r2⟩ := trodAll_cons r1
  obtain ⟨rfl, rfl, rfl⟩ := trodAll_nil r2
  obtain rfl : args = #[v0, v1, v2] := by cases args; simp_all
  obtain ⟨a0, rfl, -, -, w0⟩ := open_int Try.underlying38 (hval 0 38 v0 rfl rfl) h0
  obtain ⟨A1, n1, c1, l1, rfl, hr1, hf1⟩ := open_changes Try.underlying82 Try.underlying88 (by kernel_rfl) ⟨rfl, rfl⟩ ⟨(by kernel_rfl), (by kernel_rfl)⟩ Try.underlying3 Try.underlying4 (hval 1 82 v1 rfl rfl) h1
  obtain ⟨A2, n2, c2, l2, rfl, hn2, hr2, hw2, hc2, hm2, hk2⟩ := open_int_list Try.underlying22 Try.underlying3 cells_int (hval 2 22 v2 rfl rfl) h2
  clear hA0
  refine (walk a0 (bounds_u16 w0) A1 n1 c1 l1 hf1 A2 n2 c2 l2 hn2 hw2 hc2 hm2 hk2 W hr1 hr2).mono fun e W' ⟨he, hb⟩ => ?_
  subst he
  exact ⟨_, rfl, law_post laidOut (types_fit (by kernel_rfl)) (by kernel_rfl) Try.underlying4 rfl (fun xs hx => by
    match xs, hx with
    | [_, _, _], _ => rfl) hW' hb⟩

theorem lifted (os : Os) (started : os.Started) (H : Type) (enc : TypeId × Value → H) :
    ReturnsInHanded {} Try.checked os 9 .any (Rows.discreteAppliesSpec.pre6 enc Try.prog Try.f9 Rows.discreteAppliesRow.domain false) (Rows.discreteAppliesSpec.post enc Try.prog Try.f9 false true false false) := by
  refine returnsInHanded_of_change (C := Try.checked) own started (by kernel_rfl) Try.func9
    (ChangeSpec.witness6 (enc := enc) (C := Try.checked) false ⟨#[], #[.int .u16 0, .slice none 0 0, .slice none 0 0], []⟩ 8 (by kernel_rfl) (by kernel_rfl) (by kernel_rfl) (by kernel_rfl)) ?_
  intro W base args ds gs before hval hW _ _
  exact contract H enc W base args ds gs before hval hW

theorem proved : Rows.DiscreteAppliesSaid :=
  OpenClaim.holds_of_wide 9 Try.f9 rfl rfl rfl rfl rfl rfl rfl ⟨rfl, rfl, rfl, rfl, rfl⟩ rfl rfl rfl rfl rfl (by kernel_rfl) Try.func9 (by kernel_rfl)
    (of_decide_eq_true (by kernel_rfl)) (by unfold Func.isWrapper; first | (rw [if_pos (by decide +kernel)]; kernel_rfl) | (rw [if_neg (by decide +kernel)]; exact ⟨rfl, rfl⟩))
    (fun os started H enc _ => lifted os started H enc)
end Go.Proofs.Ytafoaonkjcfbaaa.discreteApplies
