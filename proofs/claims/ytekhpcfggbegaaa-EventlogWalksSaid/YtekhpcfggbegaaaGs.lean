/- Walks: a log that has ended answers. -/
import Derived.Test.YtekhpcfggbegaaaGr
namespace Go.Proofs.Ytekhpcfggbegaaa.G9
open Go.RowKit Go.Proofs.Ytekhpcfggbegaaa.Mem Go.Proofs.Ytekhpcfggbegaaa.E5p Go.Proofs.Ytekhpcfggbegaaa.E5m Go.Proofs.Ytekhpcfggbegaaa.E5a Go.Proofs.Ytekhpcfggbegaaa.E5d Go.Proofs.Ytekhpcfggbegaaa.V7 Go.Proofs.Ytekhpcfggbegaaa.V9
set_option maxRecDepth 100000
set_option maxHeartbeats 4000000

section
variable {B : Nat} {W w w' : World} {d : Sh} {s s' : Fl} {m m' g n n' : Nat} {rv rv' : Value} {L L' : Lg}
theorem LE.lg (h : LE B W w d s m g) : g < w.heap.size := E5m.lt_of_some h.head
theorem LE.c (h : LE B W w d s m g) (i : Nat) : w.cell? ⟨g, i, none⟩ = headNone[i]? := cell_of_row w g i _ _ _ h.head
theorem LE.step (h : LE B W w d s m g) (hb : Below w.heap.size w w') : LE B W w' d s m g := ⟨h.dev.step hb, (hb.block _ h.lg).trans h.head, h.low⟩
theorem add_end (h : LE B W w d s m g) (e : Ev) : Calls Try.prog 80 #[.pointer (some ⟨g, 0, none⟩), e.v] w fun x w' => x = .returned (.tuple #[.int .u16 0, .int .i64 10]) ∧ LE B W w' d s m g ∧ Below w.heap.size w w' := by
  have hal : Below w.heap.size w (w.alloc (.cells e.cells 89)) := (Below.refl _ _).alloc (Nat.le_refl _) _
  have h1 := h.step hal
  have HE := Lib.hid (ended_p h1)
  have H1 := Lib.hid h1
  have HA := Lib.hid hal
  clear h h1 hal
  obtain ⟨id, time, gen, st, sn, ty, de, d0, d1, d2⟩ := e
  dsimp only [Ev.v, Ev.cells] at *
  go_enter Try.func80, Try.ntmps80
  go_wp2_with fail
  refine HE.out.mono ?_
  rintro e w1 ⟨rfl, hw1⟩
  rw [hw1]
  clear hw1 w1
  go_wp2_with fail
  go_ret2
  exact ⟨rfl, H1.out, HA.out⟩
theorem len_end (h : LE B W w d s m g) : Calls Try.prog 47 #[.pointer (some ⟨g, 0, none⟩)] w fun e w' => e = .returned (.int .i64 0) ∧ w' = w := by
  have hlg := h.lg
  have c8 : w.cell? ⟨g, 8, none⟩ = some (.slice none 0 0) := h.c 8
  clear h
  go_enter Try.func47, Try.ntmps47
  go_wp2_with fail
  go_ret
  exact ⟨rfl, rfl⟩
theorem full_end (h : LE B W w d s m g) : Calls Try.prog 46 #[.pointer (some ⟨g, 0, none⟩)] w fun e w' => e = .returned (.bool false) ∧ w' = w := by
  have hlg := h.lg
  have c9 : w.cell? ⟨g, 9, none⟩ = some (.bool false) := h.c 9
  clear h
  go_enter Try.func46, Try.ntmps46
  go_wp2_with fail
  go_ret
  exact ⟨rfl, rfl⟩
theorem records_end (h : LE B W w d s m g) : Calls Try.prog 81 #[.pointer (some ⟨g, 0, none⟩)] w fun e w' => e = .returned (.slice none 0 0) ∧ w' = w := by
  have hlg := h.lg
  have c8 : w.cell? ⟨g, 8, none⟩ = some (.slice none 0 0) := h.c 8
  clear h
  go_enter Try.func81, Try.ntmps81
  go_wp2_with fail
  refine wp_loop_rounds 1 ?_
  rw [rounds_succ]
  go_wp2_with fail
  go_ret
  exact ⟨rfl, rfl⟩
/-- A reservation. -/
def reserved (L : Lg) : Lg := { L with resv := if L.resv = 65535 then 1 else L.resv + 1, rsvd := true }
theorem out_box3 {p q q2 : Tmp} {a : Act} {r : Nat} {e : Ev} {v v2 : Value} {Q : Ending → World → Prop} {fn : Func} (hr : fn.results = #[.cell p 89, .tmp q, .tmp q2]) (hp : a.tmps.getD p undef = .pointer (some ⟨r, 0, none⟩)) (hq : a.tmps.getD q undef = v) (hq2 : a.tmps.getD q2 undef = v2) (hd : a.defers = []) (hb : Box w r e)
    (h : Q (.returned (.tuple #[e.v, v, v2])) w) : bodyPost Try.prog fn Q .ret a w := by
  refine bodyPost_ret ?_ hd h
  have hp' : a.tmps[p]?.getD undef = .pointer (some ⟨r, 0, none⟩) := by simpa using hp
  have hq' : a.tmps[q]?.getD undef = v := by simpa using hq
  have hq2' : a.tmps[q2]?.getD undef = v2 := by simpa using hq2
  simp [results, hr, hp', hq', hq2', asAddr, hb.load]
theorem get_end (h : LE B W w d s m g) (i : Nat) : Calls Try.prog 48 #[.pointer (some ⟨g, 0, none⟩), .int .u16 (i : Int)] w fun e w' => e = .returned (.tuple #[Ev.none.v, .int .u16 0, .int .i64 8]) ∧ Below w.heap.size w w' := by
  have hlg := h.lg
  have c8 : w.cell? ⟨g, 8, none⟩ = some (.slice none 0 0) := h.c 8
  have HI := Lib.hid (fun q u => index_p 84 q (fun _ => false) none 0 0 [] u (.inr rfl) RSl.none (fun r hr => by cases hr))
  clear h
  go_enter Try.func48, Try.ntmps48
  go_wp2_with fail
  refine (HI.out _ _).mono ?_
  rintro e w1 ⟨rfl, hb1⟩
  have hix : ixOf (fun _ => false) [] = -1 := rfl
  rw [hix]
  have hA1 : Below w.heap.size w (w.alloc (.cells #[.int .u16 (i : Int)] 30)) := (Below.refl _ _).alloc (Nat.le_refl _) _
  have hA2 : Below w.heap.size w ((w.alloc (.cells #[.int .u16 (i : Int)] 30)).alloc (.cells Ev.none.cells 89)) := hA1.alloc (by simp) _
  have hsz : w.heap.size + 1 = (w.alloc (.cells #[.int .u16 (i : Int)] 30)).heap.size := by simp
  have hB0 : Box ((w.alloc (.cells #[.int .u16 (i : Int)] 30)).alloc (.cells Ev.none.cells 89)) (w.heap.size + 1) Ev.none := by
    rw [hsz]
    exact Box.new _ _
  have hb1' : Below ((w.alloc (.cells #[.int .u16 (i : Int)] 30)).alloc (.cells Ev.none.cells 89)).heap.size ((w.alloc (.cells #[.int .u16 (i : Int)] 30)).alloc (.cells Ev.none.cells 89)) w1 := hb1
  have hB1 := hB0.below hb1' hB0.lt
  have hW := hA2.trans (hb1'.mono hA2.size)
  have HB1 := Lib.hid hB1
  have HW := Lib.hid hW
  clear hA1 hA2 hsz hB0 hb1' hb1 hB1 hW hix HI
  go_wp2_with (refine wpList_store_box rfl (.tmp 4) (.tmp 16) rfl (w.heap.size + 1) Ev.none Ev.none rfl rfl HB1.out ?_; intro w2 hB2 hg2; refine Hid.out ?_)
  refine Lib.hid ?_
  have HB2 := Lib.hid hB2
  have HW2 := Lib.hid (HW.out.grown hg2 HW.out.size (fun q hq => by injection hq with hq; rw [← hq]; exact Nat.le_succ _))
  clear hB2 hg2 HB1
  go_wp2_with fail
  exact out_box3 (p := 4) (q := 5) (q2 := 6) Try.results48 rfl rfl rfl rfl HB2.out ⟨rfl, HW2.out⟩
end
end Go.Proofs.Ytekhpcfggbegaaa.G9
