/- Walks: the program's package event: Format. -/
import Derived.Test.YtgbnigbjnbcfeaaDoorV7c
import Derived.Deep.RegionHeld3
import Derived.Shelf.Strings.OnBuilder
namespace Go.Proofs.YtgbnigbjnbcfeaaDoor.V7
open Go.RowKit Go.Proofs.YtgbnigbjnbcfeaaDoor.Mem Go.Proofs.YtgbnigbjnbcfeaaDoor.F2p
set_option maxRecDepth 100000
set_option maxHeartbeats 4000000

def sgn (de : Bool) : List UInt8 := if de then [45] else [43]
/-- The nine parts of an event's text. -/
def partsE (e : Ev) : List (List UInt8) := [Lib.decDigits e.id, Lib.decDigits e.time, Lib.decDigits e.gen, Lib.decDigits e.st, Lib.decDigits e.sn, Lib.decDigits e.ty, sgn e.de, hex2 e.d0 ++ (hex2 e.d1 ++ hex2 e.d2), word e.ty]
def fmtE (e : Ev) : List UInt8 := Lib.join (partsE e) [32]
theorem dec_len (u : Nat) (h : u < 18446744073709551616) : (Lib.decDigits u).length ≤ 20 := by
  rw [Lib.decDigits_length]
  by_cases h1 : 1 ≤ u
  · have := Lib.numDigits_eq u h1 h; split at this <;> omega
  · rw [Lib.nDigits_small (by omega)]; omega
theorem word_len (t : Nat) : (word t).length ≤ 20 := by
  unfold word
  split
  · decide
  · split <;> decide
theorem cells9 (w : World) (a b c d e f g h i : List UInt8) (j : Nat) (x : ByteArray) (hx : ([⟨a.toArray⟩, ⟨b.toArray⟩, ⟨c.toArray⟩, ⟨d.toArray⟩, ⟨e.toArray⟩, ⟨f.toArray⟩, ⟨g.toArray⟩, ⟨h.toArray⟩, ⟨i.toArray⟩] : List ByteArray)[j]? = some x) :
    (w.alloc (.cells #[.string ⟨a.toArray⟩, .string ⟨b.toArray⟩, .string ⟨c.toArray⟩, .string ⟨d.toArray⟩, .string ⟨e.toArray⟩, .string ⟨f.toArray⟩, .string ⟨g.toArray⟩, .string ⟨h.toArray⟩, .string ⟨i.toArray⟩] 9)).cell? ⟨w.heap.size, 0 + j, none⟩ = some (.string x) := by
  rw [World.cell?_alloc_new, Nat.zero_add]
  match j, hx with
  | 0, hx => obtain rfl := Option.some.inj hx; rfl
  | 1, hx => obtain rfl := Option.some.inj hx; rfl
  | 2, hx => obtain rfl := Option.some.inj hx; rfl
  | 3, hx => obtain rfl := Option.some.inj hx; rfl
  | 4, hx => obtain rfl := Option.some.inj hx; rfl
  | 5, hx => obtain rfl := Option.some.inj hx; rfl
  | 6, hx => obtain rfl := Option.some.inj hx; rfl
  | 7, hx => obtain rfl := Option.some.inj hx; rfl
  | 8, hx => obtain rfl := Option.some.inj hx; rfl
  | n + 9, hx => simp at hx
theorem hlen9 (a b c d e f g h i : List UInt8) (ha : a.length ≤ 20) (hb : b.length ≤ 20) (hc : c.length ≤ 20) (hd : d.length ≤ 20) (he : e.length ≤ 20) (hf : f.length ≤ 20) (hg : g.length ≤ 20) (hh : h.length ≤ 20) (hi : i.length ≤ 20) :
    (Lib.join (([⟨a.toArray⟩, ⟨b.toArray⟩, ⟨c.toArray⟩, ⟨d.toArray⟩, ⟨e.toArray⟩, ⟨f.toArray⟩, ⟨g.toArray⟩, ⟨h.toArray⟩, ⟨i.toArray⟩] : List ByteArray).map (·.data.toList)) (⟨#[32]⟩ : ByteArray).data.toList).length ≤ 140737488355328 := by
  simp [Lib.join]
  omega
theorem format_no (e : Ev) (hv : vld e = false) (w : World) : Calls Tryd.prog 25 #[e.v] w fun x w' => x = .returned (.tuple #[.string ⟨#[]⟩, .int .i64 1]) ∧ Below w.heap.size w w' := by
  have hB := Lib.hid (Box.new w e)
  have hs : Below w.heap.size w (w.alloc (.cells e.cells 26)) := (Below.refl _ _).alloc (Nat.le_refl _) _
  have hV := Lib.hid (fun u => by have := valid_p e u; rw [hv] at this; exact this)
  clear hv
  obtain ⟨id, time, gen, st, sn, ty, de, d0, d1, d2⟩ := e
  dsimp only [Ev.v, Ev.cells] at *
  replace hs := Lib.hid hs
  go_enter Tryd.func25, Tryd.ntmps25
  go_wp2_with (refine wpList_load_box rfl (.tmp 1) rfl w.heap.size _ rfl hB.out ?_)
  refine (hV.out _).mono ?_
  rintro e w1 ⟨rfl, hb⟩
  go_wp2_with fail
  go_ret2
  exact ⟨rfl, hs.out.trans (hb.mono (by simp))⟩
theorem format_p (e : Ev) (hf : e.Fit) (hv : vld e = true) (w : World) (htab : PowTab w) : Calls Tryd.prog 25 #[e.v] w fun x w' => x = .returned (.tuple #[.string ⟨(fmtE e).toArray⟩, .int .i64 0]) ∧ Below w.heap.size w w' := by
  have hB := Box.new w e
  have hs : Below w.heap.size w (w.alloc (.cells e.cells 26)) := (Below.refl _ _).alloc (Nat.le_refl _) _
  have hV := Lib.hid (fun u => by have := valid_p e u; rw [hv] at this; exact this)
  have hP := htab.start.at_ hs
  clear hv htab
  obtain ⟨F, hF⟩ : ∃ F, F = fmtE e := ⟨_, rfl⟩
  rw [← hF]
  replace hF := Lib.hid hF
  obtain ⟨id, time, gen, st, sn, ty, de, d0, d1, d2⟩ := e
  obtain ⟨f1, f2, f3, f4, f5, f6, f7, f8, f9⟩ := hf
  dsimp only [Ev.v, Ev.cells] at *
  replace hs := Lib.hid hs
  replace hB := Lib.hid hB
  replace hP := Lib.hid hP
  go_enter Tryd.func25, Tryd.ntmps25
  go_wp2_with (refine wpList_load_box rfl (.tmp 1) rfl w.heap.size _ rfl hB.out ?_)
  refine (hV.out _).mono ?_
  rintro e w1 ⟨rfl, hb⟩
  have HB := hB.out.below hb (by simp)
  have HP := hP.out.start.at_ hb
  have HS := hs.out.trans (hb.mono (by simp))
  clear hB hP hs hV
  clear hb
  have c6 := HB.c6
  dsimp only at c6
  have hlt := HB.lt
  replace HB := Lib.hid HB
  replace HP := Lib.hid HP.start
  replace HS := Lib.hid HS
  have KEEP : Hid (∀ W, Below w1.heap.size w1 W → W.cell? ⟨w.heap.size, 0, none⟩ = some (.int .u16 (id : Int)) ∧ W.cell? ⟨w.heap.size, 1, none⟩ = some (.int .u32 (time : Int)) ∧ W.cell? ⟨w.heap.size, 2, none⟩ = some (.int .u16 (gen : Int)) ∧ W.cell? ⟨w.heap.size, 3, none⟩ = some (.int .u8 (st : Int)) ∧ W.cell? ⟨w.heap.size, 4, none⟩ = some (.int .u8 (sn : Int)) ∧ W.cell? ⟨w.heap.size, 5, none⟩ = some (.int .u8 (ty : Int)) ∧ W.cell? ⟨w.heap.size, 7, none⟩ = some (.int .u8 (d0 : Int)) ∧ W.cell? ⟨w.heap.size, 8, none⟩ = some (.int .u8 (d1 : Int)) ∧ W.cell? ⟨w.heap.size, 9, none⟩ = some (.int .u8 (d2 : Int)) ∧ Below w1.heap.size w1 W) := Lib.hid fun W hW => ⟨(HB.out.below hW hlt).c0, (HB.out.below hW hlt).c1, (HB.out.below hW hlt).c2, (HB.out.below hW hlt).c3, (HB.out.below hW hlt).c4, (HB.out.below hW hlt).c5, (HB.out.below hW hlt).c7, (HB.out.below hW hlt).c8, (HB.out.below hW hlt).c9, hW⟩
  have HB1 : Below w1.heap.size w1 w1.drew := (Below.refl _ _).drew
  have k0 : IntKind.u64.wrap (id : Int) = (id : Int) := IntWalk.u64_in _ ⟨by omega, by omega⟩
  have k1 : IntKind.u64.wrap (time : Int) = (time : Int) := IntWalk.u64_in _ ⟨by omega, by omega⟩
  have k2 : IntKind.u64.wrap (gen : Int) = (gen : Int) := IntWalk.u64_in _ ⟨by omega, by omega⟩
  have k3 : IntKind.u64.wrap (st : Int) = (st : Int) := IntWalk.u64_in _ ⟨by omega, by omega⟩
  have k4 : IntKind.u64.wrap (sn : Int) = (sn : Int) := IntWalk.u64_in _ ⟨by omega, by omega⟩
  have k5 : IntKind.u64.wrap (ty : Int) = (ty : Int) := IntWalk.u64_in _ ⟨by omega, by omega⟩
  cases de
  · go_wp2_with fail
    go_region_held3 (fun W => W.cell? ⟨w.heap.size, 0, none⟩ = some (.int .u16 (id : Int)) ∧ W.cell? ⟨w.heap.size, 1, none⟩ = some (.int .u32 (time : Int)) ∧ W.cell? ⟨w.heap.size, 2, none⟩ = some (.int .u16 (gen : Int)) ∧ W.cell? ⟨w.heap.size, 3, none⟩ = some (.int .u8 (st : Int)) ∧ W.cell? ⟨w.heap.size, 4, none⟩ = some (.int .u8 (sn : Int)) ∧ W.cell? ⟨w.heap.size, 5, none⟩ = some (.int .u8 (ty : Int)) ∧ W.cell? ⟨w.heap.size, 7, none⟩ = some (.int .u8 (d0 : Int)) ∧ W.cell? ⟨w.heap.size, 8, none⟩ = some (.int .u8 (d1 : Int)) ∧ W.cell? ⟨w.heap.size, 9, none⟩ = some (.int .u8 (d2 : Int)) ∧ Below w1.heap.size w1 W) (first | exact KEEP.out _ HB1 | exact KEEP.out _ (HB1.alloc HB1.size _))
      (first
        | (go_at_call 42; go_loud (refine (dcm_p _ _ (by omega) (HP.out.at_ HB1)).mono ?_); rintro e w2 ⟨rfl, hb2⟩; have HB1 := HB1.trans (hb2.mono HB1.size))
        | (go_at_call 43; go_loud (refine (data_p _ _ _ f7 f8 f9 _).mono ?_); rintro e w2 ⟨rfl, hb2⟩; have HB1 := HB1.trans (hb2.mono HB1.size))
        | (go_at_call 44; go_loud (refine (word_p _ _).mono ?_); rintro e w2 ⟨rfl, rfl⟩))
    have HC := cells9 w2 (Lib.decDigits id) (Lib.decDigits time) (Lib.decDigits gen) (Lib.decDigits st) (Lib.decDigits sn) (Lib.decDigits ty) [43] (hex2 d0 ++ (hex2 d1 ++ hex2 d2)) (word ty)
    have hsz : w2.heap.size < (w2.alloc (.cells #[.string ⟨(Lib.decDigits id).toArray⟩, .string ⟨(Lib.decDigits time).toArray⟩, .string ⟨(Lib.decDigits gen).toArray⟩, .string ⟨(Lib.decDigits st).toArray⟩, .string ⟨(Lib.decDigits sn).toArray⟩, .string ⟨(Lib.decDigits ty).toArray⟩, .string ⟨#[43]⟩, .string ⟨(hex2 d0 ++ (hex2 d1 ++ hex2 d2)).toArray⟩, .string ⟨(word ty).toArray⟩] 9)).heap.size := by simp
    have HJ := HB1.alloc HB1.size (.cells #[.string ⟨(Lib.decDigits id).toArray⟩, .string ⟨(Lib.decDigits time).toArray⟩, .string ⟨(Lib.decDigits gen).toArray⟩, .string ⟨(Lib.decDigits st).toArray⟩, .string ⟨(Lib.decDigits sn).toArray⟩, .string ⟨(Lib.decDigits ty).toArray⟩, .string ⟨#[43]⟩, .string ⟨(hex2 d0 ++ (hex2 d1 ++ hex2 d2)).toArray⟩, .string ⟨(word ty).toArray⟩] 9)
    go_wp2_with fail
    refine (Any.strings_Join She.lays156 She.extra156 w2.heap.size 0 9 _ ⟨#[32]⟩ _ HC hsz (by simp) (by simp) ?_).mono ?_
    · exact hlen9 _ _ _ _ _ _ _ _ _ (dec_len id (by omega)) (dec_len time (by omega)) (dec_len gen (by omega)) (dec_len st (by omega)) (dec_len sn (by omega)) (dec_len ty (by omega)) (by decide) (by simp [hex2]) (word_len ty)
    rintro e w3 ⟨rfl, hb3⟩
    go_wp2_with fail
    go_ret2
    exact ⟨by rw [hF.out]; rfl, HS.out.trans ((HJ.trans (hb3.mono (HJ.size))).mono (by have := HS.out.size; omega))⟩
  · go_wp2_with fail
    go_region_held3 (fun W => W.cell? ⟨w.heap.size, 0, none⟩ = some (.int .u16 (id : Int)) ∧ W.cell? ⟨w.heap.size, 1, none⟩ = some (.int .u32 (time : Int)) ∧ W.cell? ⟨w.heap.size, 2, none⟩ = some (.int .u16 (gen : Int)) ∧ W.cell? ⟨w.heap.size, 3, none⟩ = some (.int .u8 (st : Int)) ∧ W.cell? ⟨w.heap.size, 4, none⟩ = some (.int .u8 (sn : Int)) ∧ W.cell? ⟨w.heap.size, 5, none⟩ = some (.int .u8 (ty : Int)) ∧ W.cell? ⟨w.heap.size, 7, none⟩ = some (.int .u8 (d0 : Int)) ∧ W.cell? ⟨w.heap.size, 8, none⟩ = some (.int .u8 (d1 : Int)) ∧ W.cell? ⟨w.heap.size, 9, none⟩ = some (.int .u8 (d2 : Int)) ∧ Below w1.heap.size w1 W) (first | exact KEEP.out _ HB1 | exact KEEP.out _ (HB1.alloc HB1.size _))
      (first
        | (go_at_call 42; go_loud (refine (dcm_p _ _ (by omega) (HP.out.at_ HB1)).mono ?_); rintro e w2 ⟨rfl, hb2⟩; have HB1 := HB1.trans (hb2.mono HB1.size))
        | (go_at_call 43; go_loud (refine (data_p _ _ _ f7 f8 f9 _).mono ?_); rintro e w2 ⟨rfl, hb2⟩; have HB1 := HB1.trans (hb2.mono HB1.size))
        | (go_at_call 44; go_loud (refine (word_p _ _).mono ?_); rintro e w2 ⟨rfl, rfl⟩))
    have HC := cells9 w2 (Lib.decDigits id) (Lib.decDigits time) (Lib.decDigits gen) (Lib.decDigits st) (Lib.decDigits sn) (Lib.decDigits ty) [45] (hex2 d0 ++ (hex2 d1 ++ hex2 d2)) (word ty)
    have hsz : w2.heap.size < (w2.alloc (.cells #[.string ⟨(Lib.decDigits id).toArray⟩, .string ⟨(Lib.decDigits time).toArray⟩, .string ⟨(Lib.decDigits gen).toArray⟩, .string ⟨(Lib.decDigits st).toArray⟩, .string ⟨(Lib.decDigits sn).toArray⟩, .string ⟨(Lib.decDigits ty).toArray⟩, .string ⟨#[45]⟩, .string ⟨(hex2 d0 ++ (hex2 d1 ++ hex2 d2)).toArray⟩, .string ⟨(word ty).toArray⟩] 9)).heap.size := by simp
    have HJ := HB1.alloc HB1.size (.cells #[.string ⟨(Lib.decDigits id).toArray⟩, .string ⟨(Lib.decDigits time).toArray⟩, .string ⟨(Lib.decDigits gen).toArray⟩, .string ⟨(Lib.decDigits st).toArray⟩, .string ⟨(Lib.decDigits sn).toArray⟩, .string ⟨(Lib.decDigits ty).toArray⟩, .string ⟨#[45]⟩, .string ⟨(hex2 d0 ++ (hex2 d1 ++ hex2 d2)).toArray⟩, .string ⟨(word ty).toArray⟩] 9)
    go_wp2_with fail
    refine (Any.strings_Join She.lays156 She.extra156 w2.heap.size 0 9 _ ⟨#[32]⟩ _ HC hsz (by simp) (by simp) ?_).mono ?_
    · exact hlen9 _ _ _ _ _ _ _ _ _ (dec_len id (by omega)) (dec_len time (by omega)) (dec_len gen (by omega)) (dec_len st (by omega)) (dec_len sn (by omega)) (dec_len ty (by omega)) (by decide) (by simp [hex2]) (word_len ty)
    rintro e w3 ⟨rfl, hb3⟩
    go_wp2_with fail
    go_ret2
    exact ⟨by rw [hF.out]; rfl, HS.out.trans ((HJ.trans (hb3.mono (HJ.size))).mono (by have := HS.out.size; omega))⟩
end Go.Proofs.YtgbnigbjnbcfeaaDoor.V7
