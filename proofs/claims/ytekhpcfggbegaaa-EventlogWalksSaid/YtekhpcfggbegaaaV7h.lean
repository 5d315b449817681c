/- Walks: the program's package event: Encode. -/
import Derived.Test.YtekhpcfggbegaaaV7b
namespace Go.Proofs.Ytekhpcfggbegaaa.V7
open Go.RowKit Go.Proofs.Ytekhpcfggbegaaa.Mem Go.Proofs.Ytekhpcfggbegaaa.F2p
set_option maxRecDepth 100000
set_option maxHeartbeats 4000000

def tb (e : Ev) : Nat := if e.de then e.ty + 128 else e.ty
def encN (e : Ev) : List Nat := [e.id % 256, e.id / 256, 2, e.time % 256, e.time / 256 % 256, e.time / 65536 % 256, e.time / 16777216, e.gen % 256, e.gen / 256, 4, e.st, e.sn, tb e, e.d0, e.d1, e.d2]
/-- The sixteen bytes of an event. -/
def encE (e : Ev) : List UInt8 := (encN e).map UInt8.ofNat
theorem or_128 (x : Nat) (h : x ≤ 127) : bits .or .u8 (x : Int) 128 = (x : Int) + 128 := by
  have key : ∀ x, x ≤ 127 → bits .or .u8 ((x : Nat) : Int) 128 = (x : Int) + 128 := by decide
  exact key x h
theorem bvs_nat (l : List Nat) (h : ∀ x ∈ l, x < 256) : bvs (l.map UInt8.ofNat) = l.map (fun (x : Nat) => Value.int .u8 (x : Int)) := by
  unfold bvs
  rw [List.map_map]
  apply List.map_congr_left
  intro x hx
  exact (bv_nat (h x hx)).symm
theorem encN_lt (e : Ev) (hf : e.Fit) (hv : vld e = true) : ∀ x ∈ encN e, x < 256 := by
  simp only [vld, Bool.and_eq_true, decide_eq_true_eq] at hv
  have h1 := hf.id; have h2 := hf.time; have h3 := hf.gen; have h4 := hf.st; have h5 := hf.sn; have h7 := hf.d0; have h8 := hf.d1; have h9 := hf.d2
  have ht : tb e < 256 := by unfold tb; split <;> omega
  intro x hx
  simp only [encN, List.mem_cons, List.not_mem_nil, or_false] at hx
  rcases hx with rfl | rfl | rfl | rfl | rfl | rfl | rfl | rfl | rfl | rfl | rfl | rfl | rfl | rfl | rfl | rfl <;> omega
theorem own_block {base g : Nat} {w : World} {cs : Array Value} {l : List UInt8} (h : w.heap[g]? = some (.cells cs 5 (0, 0))) (hc : cs.toList = bvs l) (hb : base ≤ g) (hl : l.length ≤ maxLen) :
    Own base w (.slice (some ⟨g, 0, none⟩) l.length l.length) l := by
  have hs : cs.size = l.length := by rw [← Array.length_toList, hc, len_bvs]
  exact ⟨by rw [len_bvs, Nat.mul_one], .inr ⟨g, l.length, cs, rfl, hb, h, Nat.le_refl _, hl, by rw [hs, Nat.mul_one], by rw [hc, Nat.mul_one, ← len_bvs, List.take_length]⟩⟩
theorem own16 {base : Nat} {w : World} {cs : Array Value} {l : List UInt8} (hl : l.length = 16) (hb : base ≤ w.heap.size) (hc : cs.toList = bvs l) : Own base (w.alloc (.cells cs 5)) (.slice (some ⟨w.heap.size, 0, none⟩) 16 16) l := by
  have h := own_block (base := base) (l := l) (heap_alloc_new w (.cells cs 5)) hc hb (by rw [hl]; decide +kernel)
  rw [hl] at h
  exact h
theorem enc_len (e : Ev) : (encE e).length = 16 := rfl
theorem enc_no (e : Ev) (hv : vld e = false) (w : World) : Calls Try.prog 176 #[e.v] w fun x w' => x = .returned (.tuple #[.slice none 0 0, .int .i64 1]) ∧ Below w.heap.size w w' := by
  have hB := Lib.hid (Box.new w e)
  have hs : Below w.heap.size w (w.alloc (.cells e.cells 89)) := (Below.refl _ _).alloc (Nat.le_refl _) _
  have hV := Lib.hid (fun u => by have := valid_p e u; rw [hv] at this; exact this)
  clear hv
  obtain ⟨id, time, gen, st, sn, ty, de, d0, d1, d2⟩ := e
  dsimp only [Ev.v, Ev.cells] at *
  replace hs := Lib.hid hs
  go_enter Try.func176, Try.ntmps176
  go_wp2_with (refine wpList_load_box rfl (.tmp 1) rfl w.heap.size _ rfl hB.out ?_)
  refine (hV.out _).mono ?_
  rintro e w1 ⟨rfl, hb⟩
  go_wp2_with fail
  go_ret2
  exact ⟨rfl, hs.out.trans (hb.mono (by simp))⟩
theorem enc_p (e : Ev) (hf : e.Fit) (hv : vld e = true) (w : World) : Calls Try.prog 176 #[e.v] w fun x w' => ∃ v, x = .returned (.tuple #[v, .int .i64 0]) ∧ Own w.heap.size w' v (encE e) ∧ Below w.heap.size w w' := by
  have hB := Box.new w e
  have hs : Below w.heap.size w (w.alloc (.cells e.cells 89)) := (Below.refl _ _).alloc (Nat.le_refl _) _
  have hV := Lib.hid (fun u => by have := valid_p e u; rw [hv] at this; exact this)
  have hL := Lib.hid (bvs_nat (encN e) (encN_lt e hf hv))
  obtain ⟨F, hF⟩ : ∃ F, F = encE e := ⟨_, rfl⟩
  rw [← hF]
  replace hF := Lib.hid hF
  obtain ⟨id, time, gen, st, sn, ty, de, d0, d1, d2⟩ := e
  obtain ⟨f1, f2, f3, f4, f5, f6, f7, f8, f9⟩ := hf
  simp only [vld, Bool.and_eq_true, decide_eq_true_eq] at hv
  dsimp only [Ev.v, Ev.cells] at *
  obtain ⟨-, hty⟩ := hv
  replace hs := Lib.hid hs
  replace hB := Lib.hid hB
  go_enter Try.func176, Try.ntmps176
  go_wp2_with (refine wpList_load_box rfl (.tmp 1) rfl w.heap.size _ rfl hB.out ?_)
  refine (hV.out _).mono ?_
  rintro e w1 ⟨rfl, hb⟩
  have HB := hB.out.below hb (by simp)
  have HS := hs.out.trans (hb.mono (by simp))
  clear hB hs hV hb
  have c0 := HB.c0; have c1 := HB.c1; have c2 := HB.c2; have c3 := HB.c3; have c4 := HB.c4; have c5 := HB.c5; have c6 := HB.c6; have c7 := HB.c7; have c8 := HB.c8; have c9 := HB.c9
  dsimp only at c0 c1 c2 c3 c4 c5 c6 c7 c8 c9
  clear HB
  replace HS := Lib.hid HS
  have k0 : IntKind.u8.wrap (id : Int) = ((id % 256 : Nat) : Int) := by rw [IntKind.wrap_u8]; omega
  cases de
  · go_wp2_with fail
    go_ret2
    refine ⟨_, rfl, ?_, HS.out.alloc HS.out.size _⟩
    exact own16 (by rw [hF.out]; rfl) HS.out.size (by rw [hF.out, encE, hL.out]; simp [encN, tb])
  · have ho := or_128 ty hty
    go_wp2_with fail
    go_ret2
    refine ⟨_, rfl, ?_, HS.out.alloc HS.out.size _⟩
    exact own16 (by rw [hF.out]; rfl) HS.out.size (by rw [hF.out, encE, hL.out]; simp [encN, tb])
end Go.Proofs.Ytekhpcfggbegaaa.V7
