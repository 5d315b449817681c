/- The statement EventMade: the events of thresholds and states are those of the chapter's reference, for every sensor, index, reading and limit, and what any event is about, and how bad it is, is what the reference says. The tables that the row lists start as the program's text lays them. -/
import Derived.Test.YtgbnigbjnbcfeaaDoorLaidV
import Derived.Test.YtgbnigbjnbcfeaaDoorV7f
import Derived.Test.YtgbnigbjnbcfeaaDoorV7g
import Derived.Deep.RegionHeld3
namespace Go.Proofs.YtgbnigbjnbcfeaaDoor.eventMade
open Go.RowKit Go.ChangeShapes Go.WideShapes Go.ChangeAt Go.Proofs.YtgbnigbjnbcfeaaDoor.Mem Go.Proofs.YtgbnigbjnbcfeaaDoor.Law Go.Proofs.YtgbnigbjnbcfeaaDoor.F2p Go.Proofs.YtgbnigbjnbcfeaaDoor.V7 Go.Proofs.YtgbnigbjnbcfeaaDoor.Laid Go.Proofs.YtgbnigbjnbcfeaaDoor.Made
set_option maxRecDepth 100000
set_option maxHeartbeats 4000000

/-- Both sides answer the same event and the same error. -/
def Both (P : World → Prop) (f g : FuncId) (args : Array Value) : Prop :=
  ∃ (A : Ev) (ea : Int), A.Fit ∧ (∀ u, P u → Calls Tryd.prog f args u fun x w' => x = .returned (.tuple #[A.v, .int .i64 ea]) ∧ Below u.heap.size u w') ∧
    (∀ u, Calls Tryd.prog g args u fun x w' => x = .returned (.tuple #[A.v, .int .i64 ea]) ∧ Below u.heap.size u w')
theorem th_both (st sn : Nat) (hst : st < 256) (hsn : sn < 256) (x : Int) (asd : Bool) (rd lm : Nat) (hrd : rd < 256) (hlm : lm < 256) :
    Both Tabs 29 30 #[.int .u8 (st : Int), .int .u8 (sn : Int), .int .i64 x, .bool asd, .int .u8 (rd : Int), .int .u8 (lm : Int)] := by
  rcases (show (x < 0 ∨ 5 < x) ∨ (0 ≤ x ∧ x < 6) by omega) with h | ⟨h0, h6⟩
  · exact ⟨Ev.none, 2, none_fit, fun u _ => threshold_no st sn x asd rd lm u h, fun u => threshold_rno st sn x asd rd lm u h⟩
  · obtain ⟨i, rfl⟩ := nat_of h0
    have ho : off i ≤ 11 := by unfold off; split <;> omega
    exact ⟨⟨0, 0, 32, st, sn, 1, !asd, 80 + off i, rd, lm⟩, 0, ⟨by show 0 < 65536; omega, by show 0 < 4294967296; omega, by show 32 < 65536; omega, hst, hsn, by show 1 < 256; omega, by show 80 + off i < 256; omega, hrd, hlm⟩,
      fun u hu => threshold_p st sn i asd rd lm u (by omega) hu.off, fun u => threshold_r st sn i asd rd lm u (by omega)⟩
theorem st_both (st sn : Nat) (hst : st < 256) (hsn : sn < 256) (x : Int) (asd : Bool) :
    Both Tabs 31 32 #[.int .u8 (st : Int), .int .u8 (sn : Int), .int .i64 x, .bool asd] := by
  rcases (show (x < 0 ∨ 14 < x) ∨ (0 ≤ x ∧ x ≤ 14) by omega) with h | ⟨h0, h6⟩
  · exact ⟨Ev.none, 2, none_fit, fun u _ => state_no st sn x asd u h, fun u => state_rno st sn x asd u h⟩
  · obtain ⟨i, rfl⟩ := nat_of h0
    exact ⟨⟨0, 0, 32, st, sn, 111, !asd, i, 255, 255⟩, 0, ⟨by show 0 < 65536; omega, by show 0 < 4294967296; omega, by show 32 < 65536; omega, hst, hsn, by show 111 < 256; omega, by show i < 256; omega, by show 255 < 256; omega, by show 255 < 256; omega⟩,
      fun u _ => state_p st sn i asd u (by omega), fun u => state_r st sn i asd u (by omega)⟩
theorem walk (e : Ev) (hf : e.Fit) (st : Int) (hst : 0 ≤ st ∧ st ≤ 255) (sn : Int) (hsn : 0 ≤ sn ∧ sn ≤ 255) (ix : Int) (hix : -9223372036854775808 ≤ ix ∧ ix ≤ 9223372036854775807) (asd : Bool) (rd : Int) (hrd : 0 ≤ rd ∧ rd ≤ 255) (lm : Int) (hlm : 0 ≤ lm ∧ lm ≤ 255) (W : World) (htab : Tabs W) :
    Calls Tryd.prog 6 #[e.v, .int .u8 st, .int .u8 sn, .int .i64 ix, .bool asd, .int .u8 rd, .int .u8 lm] W fun e W' => e = .returned (.bool true) ∧ Below W.heap.size W W' := by
  obtain ⟨st, rfl⟩ := nat_of hst.1
  obtain ⟨sn, rfl⟩ := nat_of hsn.1
  obtain ⟨rd, rfl⟩ := nat_of hrd.1
  obtain ⟨lm, rfl⟩ := nat_of hlm.1
  have haw := Lib.hid (fun u hu => awake_any u hu)
  have hm := Lib.hid (fun u => mod_at ix 16 16 u rfl hix.1 hix.2 (by omega) (by omega))
  have hth := Lib.hid (fun x => th_both st sn (by omega) (by omega) x asd rd lm (by omega) (by omega))
  have hsb := Lib.hid (fun x => st_both st sn (by omega) (by omega) x asd)
  have hip := Lib.hid (fun u hu => index_p e hf u hu)
  have hir := Lib.hid (fun u => index_r e hf u)
  have hsp := Lib.hid (fun u hu => severity_p e hf u hu)
  have hsr := Lib.hid (fun u => severity_r e hf u)
  obtain ⟨r, hr⟩ : ∃ r, r = idx e := ⟨_, rfl⟩
  obtain ⟨sv, hsv⟩ : ∃ sv, sv = sev e := ⟨_, rfl⟩
  rw [← hr] at hip hir
  rw [← hsv] at hsp hsr
  clear hr hsv hf
  obtain ⟨rn, rb, rk⟩ := r
  have hB0 := Box.new W e
  have hs0 : Below W.heap.size W (W.alloc (.cells e.cells 26)) := (Below.refl _ _).alloc (Nat.le_refl _) _
  have hT0 := htab.below hs0
  have hz0 : (W.alloc (.cells e.cells 26)).heap.size = W.heap.size + 1 := by simp
  clear htab
  replace hs0 := Lib.hid hs0
  replace hT0 := Lib.hid hT0
  replace hB0 := Lib.hid hB0
  obtain ⟨id, time, gen, st', sn', ty, de, d0, d1, d2⟩ := e
  dsimp only [Ev.v, Ev.cells, idxV] at *
  go_enter Tryd.func6, Tryd.ntmps6
  go_wp2_with fail
  refine (hm.out _).mono ?_
  rintro e w0 ⟨k, hk, rfl, rfl⟩
  go_wp2_with fail
  have hB1 := hB0.out
  have hz2 : ((W.alloc (.cells #[.int .u16 (id : Int), .int .u32 (time : Int), .int .u16 (gen : Int), .int .u8 (st' : Int), .int .u8 (sn' : Int), .int .u8 (ty : Int), .bool de, .int .u8 (d0 : Int), .int .u8 (d1 : Int), .int .u8 (d2 : Int)] 26)).alloc (.cells #[.int .i64 ix, .int .i64 (k : Int)] 3)).heap.size = W.heap.size + 2 := by simp
  generalize W.alloc (.cells #[.int .u16 (id : Int), .int .u32 (time : Int), .int .u16 (gen : Int), .int .u8 (st' : Int), .int .u8 (sn' : Int), .int .u8 (ty : Int), .bool de, .int .u8 (d0 : Int), .int .u8 (d1 : Int), .int .u8 (d2 : Int)] 26) = w1 at *
  have c0 : (w1.alloc (.cells #[.int .i64 ix, .int .i64 (k : Int)] 3)).cell? ⟨w1.heap.size, 0, none⟩ = some (.int .i64 ix) := by rw [World.cell?_alloc_new]; rfl
  have c1 : (w1.alloc (.cells #[.int .i64 ix, .int .i64 (k : Int)] 3)).cell? ⟨w1.heap.size, 1, none⟩ = some (.int .i64 (k : Int)) := by rw [World.cell?_alloc_new]; rfl
  have hB2 := Lib.hid (hB1.alloc (.cells #[.int .i64 ix, .int .i64 (k : Int)] 3))
  have hs2 := Lib.hid (hs0.out.alloc hs0.out.size (.cells #[.int .i64 ix, .int .i64 (k : Int)] 3))
  have hT2 := Lib.hid (hT0.out.below ((Below.refl _ _).alloc (Nat.le_refl _) (.cells #[.int .i64 ix, .int .i64 (k : Int)] 3)))
  clear hB1 hB0 hs0 hT0
  generalize w1.alloc (.cells #[.int .i64 ix, .int .i64 (k : Int)] 3) = w2 at *
  have hg2 : w1.heap.size < w2.heap.size := by omega
  go_loopw [36] (fun i wr => ∃ j : Nat, j ≤ 2 ∧ i = .int .i64 (j : Int) ∧ Below w2.heap.size w2 wr) (fun i _ => 2 - (intOf i).toNat)
  case atStart => exact ⟨0, Nat.zero_le _, rfl, Below.refl _ _⟩
  case round =>
    obtain ⟨j, hj, rfl, hbel⟩ := hrel
    match j, hj with
    | 0, _ =>
      obtain ⟨A, ea, fA, hA1, hA2⟩ := hth.out ix
      obtain ⟨C, ec, fC, hC1, hC2⟩ := hsb.out ix
      have hcell := (hbel.cell (p := ⟨w1.heap.size, 0, none⟩) hg2).trans c0
      rw [hz0] at hcell
      have hzr := hbel.size
      go_wp2_with fail
      refine (hA1 _ (hT2.out.below hbel)).mono ?_
      rintro e u1 ⟨rfl, hb1⟩
      have hb1 := hbel.trans (hb1.mono hbel.size)
      go_wp2_with (refine wpList_store_box rfl (.tmp 17) (.tmp 48) rfl u1.heap.size A Ev.none rfl rfl (Box.new u1 Ev.none) ?_; intro u2 hB2 hg2')
      have hb2 := (hb1.alloc hb1.size (.cells Ev.none.cells 26)).grown hg2' (by have := hb1.size; simp; omega) (fun k hk => by injection hk; have := hb1.size; omega)
      clear hg2' hb1
      refine (hA2 _).mono ?_
      rintro e u3 ⟨rfl, hb3⟩
      have hB3 := hB2.below hb3 hB2.lt
      have hb3 := hb2.trans (hb3.mono hb2.size)
      clear hB2 hb2
      go_wp2_with (refine wpList_store_box rfl (.tmp 19) (.tmp 58) rfl u3.heap.size A Ev.none rfl rfl (Box.new u3 Ev.none) ?_; intro u4 hD4 hg4)
      have hB4 := (hB3.alloc (.cells Ev.none.cells 26)).grown hg4 (fun e => by injection e; have := hB3.lt; omega)
      have hb4 := (hb3.alloc hb3.size (.cells Ev.none.cells 26)).grown hg4 (by have := hb3.size; simp; omega) (fun k hk => by injection hk; have := hb3.size; omega)
      clear hg4 hb3 hB3
      refine (hC1 _ (hT2.out.below hb4)).mono ?_
      rintro e u5 ⟨rfl, hb5⟩
      have hB5 := hB4.below hb5 hB4.lt
      have hD5 := hD4.below hb5 hD4.lt
      have hb5 := hb4.trans (hb5.mono hb4.size)
      clear hB4 hD4 hb4
      go_wp2_with (refine wpList_store_box rfl (.tmp 21) (.tmp 66) rfl u5.heap.size C Ev.none rfl rfl (Box.new u5 Ev.none) ?_; intro u6 hE6 hg6)
      have hB6 := (hB5.alloc (.cells Ev.none.cells 26)).grown hg6 (fun e => by injection e; have := hB5.lt; omega)
      have hD6 := (hD5.alloc (.cells Ev.none.cells 26)).grown hg6 (fun e => by injection e; have := hD5.lt; omega)
      have hb6 := (hb5.alloc hb5.size (.cells Ev.none.cells 26)).grown hg6 (by have := hb5.size; simp; omega) (fun k hk => by injection hk; have := hb5.size; omega)
      clear hg6 hb5 hB5 hD5
      refine (hC2 _).mono ?_
      rintro e u7 ⟨rfl, hb7⟩
      have hB7 := hB6.below hb7 hB6.lt
      have hD7 := hD6.below hb7 hD6.lt
      have hE7 := hE6.below hb7 hE6.lt
      have hb7 := hb6.trans (hb7.mono hb6.size)
      clear hB6 hD6 hE6 hb6
      go_wp2_with (refine wpList_store_box rfl (.tmp 23) (.tmp 74) rfl u7.heap.size C Ev.none rfl rfl (Box.new u7 Ev.none) ?_; intro u8 hF8 hg8; refine Hid.out ?_)
      refine Lib.hid ?_
      have hB8 := (hB7.alloc (.cells Ev.none.cells 26)).grown hg8 (fun e => by injection e; have := hB7.lt; omega)
      have hD8 := (hD7.alloc (.cells Ev.none.cells 26)).grown hg8 (fun e => by injection e; have := hD7.lt; omega)
      have hE8 := (hE7.alloc (.cells Ev.none.cells 26)).grown hg8 (fun e => by injection e; have := hE7.lt; omega)
      have hb8 := (hb7.alloc hb7.size (.cells Ev.none.cells 26)).grown hg8 (by have := hb7.size; simp; omega) (fun k hk => by injection hk; have := hb7.size; omega)
      clear hg8 hb7 hB7 hD7 hE7
      replace hB8 := Lib.hid hB8
      replace hD8 := Lib.hid hD8
      replace hE8 := Lib.hid hE8
      replace hF8 := Lib.hid hF8
      replace hb8 := Lib.hid hb8
      go_wp2_with (first
        | (refine wpList_load_box_w (by go_simp) (.tmp 17) rfl u1.heap.size A rfl hB8.out ?_)
        | (refine wpList_load_box_w (by go_simp) (.tmp 19) rfl u3.heap.size A rfl hD8.out ?_)
        | (refine wpList_load_box_w (by go_simp) (.tmp 21) rfl u5.heap.size C rfl hE8.out ?_)
        | (refine wpList_load_box_w (by go_simp) (.tmp 23) rfl u7.heap.size C rfl hF8.out ?_)
        | (refine wpList_neq_w (by go_simp) (.tmp 76) (.tmp 77) rfl A A fA fA rfl rfl ?_)
        | (refine wpList_neq_w (by go_simp) (.tmp 85) (.tmp 86) rfl C C fC fC rfl rfl ?_))
      refine ⟨⟨1, by omega, rfl, hb8.out⟩, by simp [intOf]⟩
    | 1, _ =>
      obtain ⟨A, ea, fA, hA1, hA2⟩ := hth.out (k : Int)
      obtain ⟨C, ec, fC, hC1, hC2⟩ := hsb.out (k : Int)
      have hcell := (hbel.cell (p := ⟨w1.heap.size, 1, none⟩) hg2).trans c1
      rw [hz0] at hcell
      have hzr := hbel.size
      go_wp2_with fail
      refine (hA1 _ (hT2.out.below hbel)).mono ?_
      rintro e u1 ⟨rfl, hb1⟩
      have hb1 := hbel.trans (hb1.mono hbel.size)
      go_wp2_with (refine wpList_store_box rfl (.tmp 17) (.tmp 48) rfl u1.heap.size A Ev.none rfl rfl (Box.new u1 Ev.none) ?_; intro u2 hB2 hg2')
      have hb2 := (hb1.alloc hb1.size (.cells Ev.none.cells 26)).grown hg2' (by have := hb1.size; simp; omega) (fun k hk => by injection hk; have := hb1.size; omega)
      clear hg2' hb1
      refine (hA2 _).mono ?_
      rintro e u3 ⟨rfl, hb3⟩
      have hB3 := hB2.below hb3 hB2.lt
      have hb3 := hb2.trans (hb3.mono hb2.size)
      clear hB2 hb2
      go_wp2_with (refine wpList_store_box rfl (.tmp 19) (.tmp 58) rfl u3.heap.size A Ev.none rfl rfl (Box.new u3 Ev.none) ?_; intro u4 hD4 hg4)
      have hB4 := (hB3.alloc (.cells Ev.none.cells 26)).grown hg4 (fun e => by injection e; have := hB3.lt; omega)
      have hb4 := (hb3.alloc hb3.size (.cells Ev.none.cells 26)).grown hg4 (by have := hb3.size; simp; omega) (fun k hk => by injection hk; have := hb3.size; omega)
      clear hg4 hb3 hB3
      refine (hC1 _ (hT2.out.below hb4)).mono ?_
      rintro e u5 ⟨rfl, hb5⟩
      have hB5 := hB4.below hb5 hB4.lt
      have hD5 := hD4.below hb5 hD4.lt
      have hb5 := hb4.trans (hb5.mono hb4.size)
      clear hB4 hD4 hb4
      go_wp2_with (refine wpList_store_box rfl (.tmp 21) (.tmp 66) rfl u5.heap.size C Ev.none rfl rfl (Box.new u5 Ev.none) ?_; intro u6 hE6 hg6)
      have hB6 := (hB5.alloc (.cells Ev.none.cells 26)).grown hg6 (fun e => by injection e; have := hB5.lt; omega)
      have hD6 := (hD5.alloc (.cells Ev.none.cells 26)).grown hg6 (fun e => by injection e; have := hD5.lt; omega)
      have hb6 := (hb5.alloc hb5.size (.cells Ev.none.cells 26)).grown hg6 (by have := hb5.size; simp; omega) (fun k hk => by injection hk; have := hb5.size; omega)
      clear hg6 hb5 hB5 hD5
      refine (hC2 _).mono ?_
      rintro e u7 ⟨rfl, hb7⟩
      have hB7 := hB6.below hb7 hB6.lt
      have hD7 := hD6.below hb7 hD6.lt
      have hE7 := hE6.below hb7 hE6.lt
      have hb7 := hb6.trans (hb7.mono hb6.size)
      clear hB6 hD6 hE6 hb6
      go_wp2_with (refine wpList_store_box rfl (.tmp 23) (.tmp 74) rfl u7.heap.size C Ev.none rfl rfl (Box.new u7 Ev.none) ?_; intro u8 hF8 hg8; refine Hid.out ?_)
      refine Lib.hid ?_
      have hB8 := (hB7.alloc (.cells Ev.none.cells 26)).grown hg8 (fun e => by injection e; have := hB7.lt; omega)
      have hD8 := (hD7.alloc (.cells Ev.none.cells 26)).grown hg8 (fun e => by injection e; have := hD7.lt; omega)
      have hE8 := (hE7.alloc (.cells Ev.none.cells 26)).grown hg8 (fun e => by injection e; have := hE7.lt; omega)
      have hb8 := (hb7.alloc hb7.size (.cells Ev.none.cells 26)).grown hg8 (by have := hb7.size; simp; omega) (fun k hk => by injection hk; have := hb7.size; omega)
      clear hg8 hb7 hB7 hD7 hE7
      replace hB8 := Lib.hid hB8
      replace hD8 := Lib.hid hD8
      replace hE8 := Lib.hid hE8
      replace hF8 := Lib.hid hF8
      replace hb8 := Lib.hid hb8
      go_wp2_with (first
        | (refine wpList_load_box_w (by go_simp) (.tmp 17) rfl u1.heap.size A rfl hB8.out ?_)
        | (refine wpList_load_box_w (by go_simp) (.tmp 19) rfl u3.heap.size A rfl hD8.out ?_)
        | (refine wpList_load_box_w (by go_simp) (.tmp 21) rfl u5.heap.size C rfl hE8.out ?_)
        | (refine wpList_load_box_w (by go_simp) (.tmp 23) rfl u7.heap.size C rfl hF8.out ?_)
        | (refine wpList_neq_w (by go_simp) (.tmp 76) (.tmp 77) rfl A A fA fA rfl rfl ?_)
        | (refine wpList_neq_w (by go_simp) (.tmp 85) (.tmp 86) rfl C C fC fC rfl rfl ?_))
      refine ⟨⟨2, by omega, rfl, hb8.out⟩, by simp [intOf]⟩
    | 2, _ =>
      have hlt : W.heap.size < w2.heap.size := by omega
      have HB := Lib.hid (hB2.out.below hbel hlt)
      have HS := Lib.hid (hs2.out.trans (hbel.mono hs2.out.size))
      have HT := Lib.hid (hT2.out.below hbel)
      have hlt2 : W.heap.size < wr.heap.size := by have := hbel.size; omega
      clear hB2 hs2 hT2 hbel c0 c1
      go_wp2_with (first
        | (refine wpList_load_box_w (by go_simp) (.tmp 7) rfl W.heap.size _ rfl HB.out ?_))
      refine (hip.out _ HT.out.off).mono ?_
      rintro e v1 ⟨rfl, hb1⟩
      have HB1 := Lib.hid (HB.out.below hb1 hlt2)
      have HS1 := Lib.hid (HS.out.trans (hb1.mono HS.out.size))
      have HT1 := Lib.hid (HT.out.below hb1)
      have hlt3 : W.heap.size < v1.heap.size := by have := hb1.size; omega
      go_wp2_with (first
        | (refine wpList_load_box_w (by go_simp) (.tmp 7) rfl W.heap.size _ rfl HB1.out ?_))
      refine (hir.out _).mono ?_
      rintro e v2 ⟨rfl, hb2⟩
      have HB2 := HB1.out.below hb2 hlt3
      have HS2 := Lib.hid (HS1.out.trans (hb2.mono HS1.out.size))
      have HT2 := Lib.hid (HT1.out.below hb2)
      have hlt : W.heap.size < v2.heap.size := by have := hb2.size; omega
      have HB := Lib.hid HB2
      clear hb1 hb2 HB2
      have KEEP : Hid (∀ V, Below v2.heap.size v2 V → V.cell? ⟨W.heap.size, 0, none⟩ = some (.int .u16 (id : Int)) ∧ V.cell? ⟨W.heap.size, 1, none⟩ = some (.int .u32 (time : Int)) ∧ V.cell? ⟨W.heap.size, 2, none⟩ = some (.int .u16 (gen : Int)) ∧ V.cell? ⟨W.heap.size, 3, none⟩ = some (.int .u8 (st' : Int)) ∧ V.cell? ⟨W.heap.size, 4, none⟩ = some (.int .u8 (sn' : Int)) ∧ V.cell? ⟨W.heap.size, 5, none⟩ = some (.int .u8 (ty : Int)) ∧ V.cell? ⟨W.heap.size, 6, none⟩ = some (.bool de) ∧ V.cell? ⟨W.heap.size, 7, none⟩ = some (.int .u8 (d0 : Int)) ∧ V.cell? ⟨W.heap.size, 8, none⟩ = some (.int .u8 (d1 : Int)) ∧ V.cell? ⟨W.heap.size, 9, none⟩ = some (.int .u8 (d2 : Int)) ∧ Below v2.heap.size v2 V) := Lib.hid fun V hV => ⟨(HB.out.below hV hlt).c0, (HB.out.below hV hlt).c1, (HB.out.below hV hlt).c2, (HB.out.below hV hlt).c3, (HB.out.below hV hlt).c4, (HB.out.below hV hlt).c5, (HB.out.below hV hlt).c6, (HB.out.below hV hlt).c7, (HB.out.below hV hlt).c8, (HB.out.below hV hlt).c9, hV⟩
      have HV : Below v2.heap.size v2 v2.drew := (Below.refl _ _).drew
      go_wp2_with fail
      go_region_held3 (fun V => V.cell? ⟨W.heap.size, 0, none⟩ = some (.int .u16 (id : Int)) ∧ V.cell? ⟨W.heap.size, 1, none⟩ = some (.int .u32 (time : Int)) ∧ V.cell? ⟨W.heap.size, 2, none⟩ = some (.int .u16 (gen : Int)) ∧ V.cell? ⟨W.heap.size, 3, none⟩ = some (.int .u8 (st' : Int)) ∧ V.cell? ⟨W.heap.size, 4, none⟩ = some (.int .u8 (sn' : Int)) ∧ V.cell? ⟨W.heap.size, 5, none⟩ = some (.int .u8 (ty : Int)) ∧ V.cell? ⟨W.heap.size, 6, none⟩ = some (.bool de) ∧ V.cell? ⟨W.heap.size, 7, none⟩ = some (.int .u8 (d0 : Int)) ∧ V.cell? ⟨W.heap.size, 8, none⟩ = some (.int .u8 (d1 : Int)) ∧ V.cell? ⟨W.heap.size, 9, none⟩ = some (.int .u8 (d2 : Int)) ∧ Below v2.heap.size v2 V) (first | exact KEEP.out _ HV)
        (first
          | (go_at_call 35; go_loud (refine (hsp.out _ (HT2.out.below HV).off).mono ?_); rintro e w2 ⟨rfl, hb2⟩; have HV := HV.trans (hb2.mono HV.size))
          | (go_at_call 36; go_loud (refine (hsr.out _).mono ?_); rintro e w2 ⟨rfl, hb2⟩; have HV := HV.trans (hb2.mono HV.size))
          | (go_at_call 11; go_loud (refine (haw.out _ (HT2.out.below HV)).mono ?_); rintro e w2 ⟨rfl, hb2⟩; have HV := HV.trans (hb2.mono HV.size)))
      all_goals
        go_wp2_with fail
        go_ret
        exact ⟨rfl, HS2.out.trans (HV.mono HS2.out.size)⟩

theorem cells_u8 : Tryd.prog.cellsOf 5 = 1 := by kernel_rfl
theorem own : ownKnob Tryd.prog.godebug = none := by kernel_rfl
theorem laidOut : laidOutB Tryd.prog = true := by kernel_rfl
theorem contract (H : Type) (enc : TypeId × Value → H) (W : World) (base : Nat) (args : Array Value) (ds gs : List (DataW H)) (before : List MemPlace)
    (hval : ∀ (j : Nat) t v, Tryd.f6.params[j]? = some t → args[j]? = some v → Value.okWide Tryd.prog W .any base t v)
    (hW : DataW.Whole enc Tryd.prog Tryd.f6.params.toList Rows.eventMadeSpec.vars false W args.toList ds gs before) (htab : V7.Tabs W) :
    Calls Tryd.prog 6 args W fun e W' => ∃ v, e = .returned v ∧ Rows.eventMadeSpec.post enc Tryd.prog Tryd.f6 false true false false W args v W' := by
  have hW' := hW
  obtain ⟨p, q, hA0, hV, rfl, hfz, hnd⟩ := hW
  have hA : DataW.TrodAll enc Tryd.prog W 0 (fun _ => true) true Tryd.f6.params.toList args.toList ds p := hA0
  rw [Tryd.params6] at hA hval
  obtain ⟨v0, vs0, d0, ds0, p0, q0, hargs, rfl, rfl, h0, r0⟩ := trodAll_cons hA
  obtain ⟨v1, vs1, d1, ds1, p1, q1, rfl, rfl, rfl, h1, r1⟩ := trodAll_cons r0
  obtain ⟨v2, vs2, d2, ds2, p2, q2, rfl, rfl, rfl, h2, r2⟩ := trodAll_cons r1
  obtain ⟨v3, vs3, d3, ds3, p3, q3, rfl, rfl, rfl, h3, r3⟩ := trodAll_cons r2
  obtain ⟨v4, vs4, d4, ds4, p4, q4, rfl, rfl, rfl, h4, r4⟩ := trodAll_cons r3
  obtain ⟨v5, vs5, d5, ds5, p5, q5, rfl, rfl, rfl, h5, r5⟩ := trodAll_cons r4
  obtain ⟨v6, vs6, d6, ds6, p6, q6, rfl, rfl, rfl, h6, r6⟩ := trodAll_cons r5
  obtain ⟨rfl, rfl, rfl⟩ := trodAll_nil r6
  obtain rfl : args = #[v0, v1, v2, v3, v4, v5, v6] := by cases args; simp_all
  obtain ⟨e0, rfl, hf0⟩ := open_event Tryd.underlying26 (by kernel_rfl) ⟨rfl, rfl, rfl, rfl, rfl, rfl, rfl, rfl⟩ ⟨by kernel_rfl, by kernel_rfl, by kernel_rfl, by kernel_rfl, by kernel_rfl, by kernel_rfl, by kernel_rfl, by kernel_rfl⟩ Tryd.underlying22 Tryd.underlying23 Tryd.underlying22 Tryd.underlying5 Tryd.underlying5 Tryd.underlying5 Tryd.underlying4 Tryd.underlying24 (by kernel_rfl) Tryd.underlying5 (hval 0 26 v0 rfl rfl) h0
  obtain ⟨a1, rfl, -, -, w1⟩ := open_int Tryd.underlying5 (hval 1 5 v1 rfl rfl) h1
  obtain ⟨a2, rfl, -, -, w2⟩ := open_int Tryd.underlying5 (hval 2 5 v2 rfl rfl) h2
  obtain ⟨a3, rfl, -, -, w3⟩ := open_int Tryd.underlying3 (hval 3 3 v3 rfl rfl) h3
  obtain ⟨b4, rfl, -, -⟩ := open_bool Tryd.underlying4 (hval 4 4 v4 rfl rfl) h4
  obtain ⟨a5, rfl, -, -, w5⟩ := open_int Tryd.underlying5 (hval 5 5 v5 rfl rfl) h5
  obtain ⟨a6, rfl, -, -, w6⟩ := open_int Tryd.underlying5 (hval 6 5 v6 rfl rfl) h6
  clear hA0
  refine (walk e0 hf0 a1 (bounds_u8 w1) a2 (bounds_u8 w2) a3 (bounds_i64 w3) b4 a5 (bounds_u8 w5) a6 (bounds_u8 w6) W  htab).mono fun e W' ⟨he, hb⟩ => ?_
  subst he
  exact ⟨_, rfl, law_post laidOut (types_fit (by kernel_rfl)) (by kernel_rfl) Tryd.underlying4 rfl (fun xs hx => by
    match xs, hx with
    | [_, _, _, _, _, _, _], _ => rfl) hW' hb⟩

theorem lifted (os : Os) (started : os.Started) (H : Type) (enc : TypeId × Value → H) :
    ReturnsInHanded {} Tryd.checked os 6 .any (fun w args => (Rows.eventMadeSpec.pre enc Tryd.prog Tryd.f6 Rows.eventMadeRow.domain false w args ∧ laidMetH Tryd.prog Laid.laid4 w) ∧ sizedMet enc Tryd.prog Tryd.f6 (OpenSpec.ofChange Rows.eventMadeSpec) false w args) (Rows.eventMadeSpec.post enc Tryd.prog Tryd.f6 false true false false) := by
  refine returnsInHanded_of_change_and (C := Tryd.checked) (X := fun w _ => laidMetH Tryd.prog Laid.laid4 w) (fun _ _ _ hh h => h.of_heap hh) own started (by kernel_rfl) Tryd.func6
    (ChangeSpec.witness_shaped (enc := enc) (C := Tryd.checked) (os := os) (X := fun w _ => laidMetH Tryd.prog Laid.laid4 w) false (World.doorLaid Tryd.prog 400 os) #[V7.Ev.none.v, .int .u8 0, .int .u8 0, .int .i64 0, .bool false, .int .u8 0, .int .u8 0] 8 rfl (World.shaped_of_RefB (by kernel_rfl) (by kernel_rfl)) (by kernel_rfl) (by kernel_rfl) (by kernel_rfl) (Laid.door_met os _)) ?_
  intro W base args ds gs before hval hW _ _ hL _
  exact contract H enc W base args ds gs before hval hW (Laid.tab_of hL)

theorem bare : Rows.EventMadeSaid :=
  OpenClaim.holds_of_wide 6 Tryd.f6 rfl rfl rfl rfl rfl rfl rfl ⟨rfl, rfl, rfl, rfl, rfl⟩ rfl rfl rfl rfl rfl (by kernel_rfl) Tryd.func6 (by kernel_rfl)
    (of_decide_eq_true (by kernel_rfl)) (by unfold Func.isWrapper; first | (rw [if_pos (by decide +kernel)]; kernel_rfl) | (rw [if_neg (by decide +kernel)]; exact ⟨rfl, rfl⟩))
    (fun os started H enc _ => lifted os started H enc)
theorem proved : Rows.EventMadeCardSaid :=
  Claim7.holds_tied_plain_at .later [] [.data, .data, .data, .data] true (true, Rows.eventMadeCard.stood.harness.2) false
    bare (fun _ h => by cases h) (by kernel_rfl) (fun _ h => by cases h) eventMade_row_tie rfl ⟨rfl, rfl⟩ (by kernel_rfl) rfl
    (fun f fn hf hfn => by
      obtain rfl : f = 6 := Option.some.inj ((show Tryd.prog.funcNamed "baseboard/baseboardlaw07.EventMade" = some 6 by kernel_rfl).symm.trans hf) |>.symm
      obtain rfl : fn = Tryd.f6 := (Option.some.inj (Tryd.func6.symm.trans hfn)).symm
      exact ⟨by kernel_rfl, fun j t ht => by
        rw [Tryd.params6] at ht
        have hm : t ∈ [26, 5, 5, 3, 4, 5, 5] := by simpa using Array.mem_of_getElem? ht
        have hall : ([26, 5, 5, 3, 4, 5, 5].all fun u => !Tryd.prog.wantsStandIn u) = true := by kernel_rfl
        exact (show Tryd.prog.wantsStandIn t = false by simpa using List.all_eq_true.1 hall t hm)⟩)
    (by kernel_rfl)
end Go.Proofs.YtgbnigbjnbcfeaaDoor.eventMade
