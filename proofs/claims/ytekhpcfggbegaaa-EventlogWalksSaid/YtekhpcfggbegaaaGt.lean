/- Walks: all records; a geometry; dice beside a log. -/
import Derived.Test.YtekhpcfggbegaaaGs
import Derived.Test.YtekhpcfggbegaaaDe
namespace Go.Proofs.Ytekhpcfggbegaaa.G9
open Go.RowKit Go.Proofs.Ytekhpcfggbegaaa.Mem Go.Proofs.Ytekhpcfggbegaaa.E5p Go.Proofs.Ytekhpcfggbegaaa.E5m Go.Proofs.Ytekhpcfggbegaaa.E5a Go.Proofs.Ytekhpcfggbegaaa.E5d Go.Proofs.Ytekhpcfggbegaaa.V7 Go.Proofs.Ytekhpcfggbegaaa.V9 Go.Proofs.Ytekhpcfggbegaaa.Made
set_option maxRecDepth 100000
set_option maxHeartbeats 4000000

theorem geometry_p (a b : Int) (ha : -9223372036854775808 ≤ a ∧ a ≤ 9223372036854775807) (hb : -9223372036854775808 ≤ b ∧ b ≤ 9223372036854775807) (w : World) :
    Calls Try.prog 41 #[.int .i64 a, .int .i64 b] w fun e w' => (∃ S z : Nat, 2 ≤ S ∧ S ≤ 4 ∧ 64 ≤ z ∧ z ≤ 103 ∧ e = .returned (.tuple #[.int .i64 (S : Int), .int .i64 (z : Int)])) ∧ w' = w := by
  have H1 := Lib.hid (fun u => mod_any a 3 u ha.1 ha.2 (by omega) (by omega))
  have H2 := Lib.hid (fun u => mod_any b 40 u hb.1 hb.2 (by omega) (by omega))
  clear ha hb
  go_enter Try.func41, Try.ntmps41
  go_wp2_with fail
  refine (H1.out _).mono ?_
  rintro e w1 ⟨⟨k1, hk1, rfl, -⟩, hw1⟩
  rw [← hw1]
  clear hw1 w1
  go_wp2_with fail
  refine (H2.out _).mono ?_
  rintro e w1 ⟨⟨k2, hk2, rfl, -⟩, hw1⟩
  rw [← hw1]
  clear hw1 w1
  go_wp2_with fail
  go_ret2
  refine ⟨⟨2 + k1, 64 + k2, by omega, by omega, by omega, by omega, ?_⟩, rfl⟩
  rw [show ((2 + k1 : Nat) : Int) = 2 + (k1 : Int) by omega, show ((64 + k2 : Nat) : Int) = 64 + (k2 : Int) by omega]
  rfl
section
variable {B : Nat} {W w w' : World} {d : Sh} {s s' : Fl} {m m' g n n' : Nat} {rv rv' : Value} {L L' : Lg}
/-- What a call on the log leaves of the dice. -/
theorem dz_kp {gd nd cd : Nat} {A : Option Addr} {l : List Int} (h : Dz w gd A nd cd l) (hr : IRow B W A l) (low : Below B W w') (hB : B ≤ gd) (k : Kp d g rv rv' w w') (hf : Far d g rv gd) : Dz w' gd A nd cd l := by
  obtain ⟨a, ha, hd⟩ := h.at_
  exact ⟨h.len, h.bnd, h.few, (Rd.below hr low).more hB, a, ha, (k.at_ hf h.lt).1.trans hd⟩
theorem eown_below' {base : Nat} {v : Value} {l : List Ev} (h : EOwn base w v l) (hb : Below w.heap.size w w') : EOwn base w' v l := row_any h (fun i hi => hb.block i (World.ownsRow.lt h _ hi).2)
theorem below_own9 {base B : Nat} {w0 : World} {v : Value} {l : List Ev} (h : EOwn base w v l) (hb : Below B w0 w) (hg : w.grownBy w' v.ownBlock) (hB : B ≤ base) (hz : B ≤ w.heap.size) : Below B w0 w' :=
  hb.grown hg hz (fun _ hq => Nat.le_trans hB (World.ownsRow.lt h _ hq).1)
/-- All records. -/
theorem records_p (h : LA B W w d s m g rv L n) (hn : n ≤ 900) : Calls Try.prog 81 #[.pointer (some ⟨g, 0, none⟩)] w fun e w' => ∃ v, e = .returned v ∧ EOwn w.heap.size w' v (L.recs.map (·.e)) ∧ Below w.heap.size w w' := by
  have hlg := h.lg
  have hmany := h.ok.many
  have c8 := h.c8
  obtain ⟨A, n8, c, rfl, hs⟩ := h.own.sl
  have HS := Lib.hid hs
  have HN := Lib.hid hs.len
  have hcm : n8 ≤ 2 ^ 63 - 1 := Nat.le_trans hs.cap hs.max
  have hn8 : n8 ≤ 900 := by rw [hs.len]; omega
  clear h hs hmany hn
  generalize L.recs = l at *
  go_enter Try.func81, Try.ntmps81
  go_wp2_with fail
  clear c8
  go_loopw [3, 11] (fun v jv wr => ∃ j : Nat, j ≤ n8 ∧ jv = .int .i64 (j : Int) ∧ EOwn w.heap.size wr v ((l.take j).map (·.e)) ∧ Below w.heap.size w wr) (fun _ jv _ => n8 - (intOf jv).toNat)
  case atStart => exact ⟨0, Nat.zero_le _, rfl, by simpa using EOwn.nil, Below.refl _ _⟩
  case round =>
    obtain ⟨j, hj, rfl, hown, hbel⟩ := hrel
    rcases Nat.lt_or_ge j n8 with hlt | hge
    · have n1 : (j : Int) < (n8 : Int) := by omega
      have n2 : (0 : Int) ≤ (j : Int) := by omega
      have hjl : j < l.length := by have := HN.out; omega
      obtain ⟨a, rfl, hab, k0⟩ := rrow_at (HS.out.step hbel).row hjl
      have htk : (l.take (j + 1)).map (·.e) = (l.take j).map (·.e) ++ [l[j].e] := by
        rw [List.take_succ_eq_append_getElem hjl, List.map_append]
        rfl
      have hln : ((l.take j).map (·.e)).length ≤ 900 := by rw [List.length_map, List.length_take]; omega
      have HTK := Lib.hid htk
      have HK := Lib.hid k0
      have HO := Lib.hid hown
      have HB := Lib.hid hbel
      have HLN := Lib.hid hln
      have HLT := Lib.hid hlt
      clear htk k0 hown hbel hln
      generalize l[j] = r at *
      have hal : Below wr.heap.size wr (wr.alloc (.cells r.cells 133)) := (Below.refl _ _).alloc (Nat.le_refl _) _
      have RB : RcAt (wr.alloc (.cells r.cells 133)) ⟨wr.heap.size, 0, none⟩ r := fun _ v hv => by
        rw [add_spot]
        exact (cell_of_row _ _ _ _ _ _ (heap_alloc_new wr _)).trans (by rw [← Array.getElem?_toList]; exact hv)
      have EB := RB.ev
      rw [add_spot] at EB
      go_wp2_with (refine wpList_load_rc rfl (.tmp 13) rfl (a.add (j * 11)) r rfl HK.out ?_; refine Hid.out ?_)
      obtain ⟨rq, rid, rtime, rgen, rst, rsn, rty, rde, rd0, rd1, rd2⟩ := r
      simp only [Rc.v, Rc.cells] at hal RB EB ⊢
      replace hal := Lib.hid hal
      replace EB := Lib.hid EB
      clear RB
      refine Lib.hid ?_
      go_wp2_with (refine wpList_load_ev rfl (.tmp 16) rfl ⟨wr.heap.size, 1, none⟩ ⟨rid, rtime, rgen, rst, rsn, rty, rde, rd0, rd1, rd2⟩ rfl EB.out ?_; refine Hid.out ?_)
      dsimp only [Ev.v, Ev.cells]
      refine Lib.hid ?_
      have hb1 := HB.out.trans (hal.out.mono HB.out.size)
      have O1 := eown_below' HO.out hal.out
      have hz1 : w.heap.size ≤ (wr.alloc (.cells #[.int .i64 (rq : Int), .int .u16 (rid : Int), .int .u32 (rtime : Int), .int .u16 (rgen : Int), .int .u8 (rst : Int), .int .u8 (rsn : Int), .int .u8 (rty : Int), .bool rde, .int .u8 (rd0 : Int), .int .u8 (rd1 : Int), .int .u8 (rd2 : Int)] 133)).heap.size := hb1.size
      clear hal EB HO HB HK
      generalize wr.alloc (.cells #[.int .i64 (rq : Int), .int .u16 (rid : Int), .int .u32 (rtime : Int), .int .u16 (rgen : Int), .int .u8 (rst : Int), .int .u8 (rsn : Int), .int .u8 (rty : Int), .bool rde, .int .u8 (rd0 : Int), .int .u8 (rd1 : Int), .int .u8 (rd2 : Int)] 133) = w2 at *
      have hal2 : Below w2.heap.size w2 (w2.alloc (.cells (Ev.cells ⟨rid, rtime, rgen, rst, rsn, rty, rde, rd0, rd1, rd2⟩) 89)) := (Below.refl _ _).alloc (Nat.le_refl _) _
      have S2 : EvsAt (w2.alloc (.cells (Ev.cells ⟨rid, rtime, rgen, rst, rsn, rty, rde, rd0, rd1, rd2⟩) 89)) ⟨w2.heap.size, 0, none⟩ [⟨rid, rtime, rgen, rst, rsn, rty, rde, rd0, rd1, rd2⟩] := (box_at (Box.new w2 _)).one
      have O2 := eown_below' O1 hal2
      have hb2 := hb1.trans (hal2.mono hb1.size)
      have hz2 := hb2.size
      simp only [Ev.cells] at S2 O2 hb2 hz2
      have HB2 := Lib.hid hb2
      clear hal2 O1 hb1 hb2 hz1
      go_wp2_with (refine wpList_append_e _ rfl (.tmp 15) (.tmp 18) rfl w.heap.size _ _ rfl O2 [⟨rid, rtime, rgen, rst, rsn, rty, rde, rd0, rd1, rd2⟩] ⟨w2.heap.size, 0, none⟩ 1 1 rfl rfl S2 (by have := HLN.out; show _ + 1 ≤ 1000; omega) hz2 ?_; intro v4 w4 O4 G4; refine Hid.out ?_)
      refine Lib.hid ?_
      have B4 := below_own9 O2 HB2.out G4 (Nat.le_refl _) hz2
      have O4' := Lib.hid O4
      have B4' := Lib.hid B4
      clear O2 S2 O4 G4 B4 HB2 hz2
      go_wp2_with fail
      exact ⟨⟨j + 1, HLT.out, by go_num, by rw [HTK.out]; exact O4'.out, B4'.out⟩, meas HLT.out⟩
    · obtain rfl : j = n8 := Nat.le_antisymm hj hge
      have htk : l.take j = l := List.take_of_length_le (by have := HN.out; omega)
      rw [htk] at hown
      have n1 : ¬ (j : Int) < (j : Int) := Int.lt_irrefl _
      have HO := Lib.hid hown
      have HB := Lib.hid hbel
      clear htk hown hbel hge hj
      go_wp2_with fail
      go_ret
      exact ⟨_, rfl, HO.out, HB.out⟩
end
end Go.Proofs.Ytekhpcfggbegaaa.G9
