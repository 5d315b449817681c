/- ChecksumLinear holds for every input: the CRC-8 of the exclusive or of two strings is the exclusive or of both, and the CRC-32 does so with three strings. No condition. -/
import Derived.Test.YtnmakbbbbcngbaaDice
import Derived.Test.YtnmakbbbbcngbaaLaw
namespace Go.Proofs.Ytnmakbbbbcngbaa.checksumLinear
open Go.RowKit Go.ChangeShapes Go.WideShapes Go.ChangeAt Go.Proofs.Ytnmakbbbbcngbaa.Mem Go.Proofs.Ytnmakbbbbcngbaa.Pl Go.Proofs.Ytnmakbbbbcngbaa.Wa Go.Proofs.Ytnmakbbbbcngbaa.Wb Go.Proofs.Ytnmakbbbbcngbaa.Wc Go.Proofs.Ytnmakbbbbcngbaa.We Go.Proofs.Ytnmakbbbbcngbaa.Wf Go.Proofs.Ytnmakbbbbcngbaa.Crc Go.Proofs.Ytnmakbbbbcngbaa.Wg Go.Proofs.Ytnmakbbbbcngbaa.Dice Go.Proofs.Ytnmakbbbbcngbaa.Law
set_option maxRecDepth 100000
set_option maxHeartbeats 1000000

theorem fold_zip {f : Nat → Nat} {n : Nat} (R : Reg f n) : ∀ (a b : List UInt8) (c d : Nat), a.length = b.length → c < 2 ^ n → d < 2 ^ n → fold f (c ^^^ d) (List.zipWith (· ^^^ ·) a b) = fold f c a ^^^ fold f d b
  | [], [], c, d, _, _, _ => rfl
  | x :: a, y :: b, c, d, h, hc, hd => by
    have hx := byte_lt R x
    have hy := byte_lt R y
    have e := fold_zip R a b (it f 8 (c ^^^ x.toNat)) (it f 8 (d ^^^ y.toNat)) (by simpa using h) (it_lt R 8 _ (Nat.xor_lt_two_pow hc hx)) (it_lt R 8 _ (Nat.xor_lt_two_pow hd hy))
    show fold f (it f 8 (c ^^^ d ^^^ (x ^^^ y).toNat)) (List.zipWith (· ^^^ ·) a b) = _
    rw [UInt8.toNat_xor, swap4, it_lin R 8 _ _ (Nat.xor_lt_two_pow hc hx) (Nat.xor_lt_two_pow hd hy)]
    exact e
theorem crc8_zip (a b : List UInt8) (h : a.length = b.length) : crc8 (List.zipWith (· ^^^ ·) a b) = crc8 a ^^^ crc8 b := fold_zip reg8 a b 0 0 h (by omega) (by omega)
theorem crc32_zip (a b c : List UInt8) (h : a.length = b.length) (h' : a.length = c.length) :
    crc32 (List.zipWith (· ^^^ ·) (List.zipWith (· ^^^ ·) a b) c) = crc32 a ^^^ crc32 b ^^^ crc32 c := by
  have hl : (List.zipWith (· ^^^ ·) a b).length = c.length := by rw [List.length_zipWith]; omega
  have o1 : (4294967295 : Nat) < 2 ^ 32 := by omega
  have e1 := fold_zip reg32 a b 4294967295 4294967295 h o1 o1
  have e2 := fold_zip reg32 (List.zipWith (· ^^^ ·) a b) c 0 4294967295 hl (by omega) o1
  rw [Nat.xor_self, ← raw32_fold, ← raw32_fold] at e1
  rw [Nat.zero_xor, e1, ← raw32_fold, ← raw32_fold] at e2
  have c1 : ∀ l, crc32 l = 4294967295 ^^^ raw32 l := fun l => (xor_ones _ (raw32_lt l)).symm
  have e3 : 4294967295 ^^^ raw32 a ^^^ (4294967295 ^^^ raw32 b) = raw32 a ^^^ raw32 b := by rw [swap4, Nat.xor_self, Nat.zero_xor]
  rw [c1, c1 a, c1 b, c1 c, e2, e3, ← Nat.xor_assoc (raw32 a ^^^ raw32 b), Nat.xor_comm (raw32 a ^^^ raw32 b) 4294967295, Nat.xor_assoc 4294967295]

theorem make_run (m : Nat) (u : World) (i0 : TypeInfo) (hi : Try.prog.info? 5 = some i0) (hz0 : i0.zero = some (.int .u8 0)) (hz1 : i0.size = 1) (hz2 : i0.bytes = 1) (hm : m ≤ 1000) :
    (Instr.makeSlice 22 (.int .i64 (m : Int)) (.int .i64 (m : Int))).run Try.prog u = .ok (.slice (some ⟨u.heap.size, 0, none⟩) m m) (u.alloc (.cells (madeCells #[.int .u8 0] m) 5)) := by
  have h := run_make (P := Try.prog) u 22 5 i0 (.int .u8 0) Try.underlying22 hi hz0 .i64 .i64 (m : Int) (m : Int) (by omega) (Int.le_refl _) (by rw [hz2]; omega) (by omega)
  simpa [hz1, Value.cells] using h
/-- Three new rows of m bytes, apart from one another and above block g. -/
def Three (g m : Nat) (w1 : World) (s7 s8 s9 : Value) (wx : World) : Prop :=
  ∃ a b c, s7 = .slice (some ⟨a, 0, none⟩) m m ∧ s8 = .slice (some ⟨b, 0, none⟩) m m ∧ s9 = .slice (some ⟨c, 0, none⟩) m m ∧ a ≠ b ∧ a ≠ c ∧ b ≠ c ∧ g < a ∧ g < b ∧ g < c ∧
    Own (g + 1) wx s7 (List.replicate m 0) ∧ Own (g + 1) wx s8 (List.replicate m 0) ∧ Own (g + 1) wx s9 (List.replicate m 0) ∧ Below (g + 1) w1 wx

theorem own_block {base g m : Nat} {u : World} (hh : u.heap[g]? = some (.cells (madeCells #[.int .u8 0] m) 5)) (hb : base ≤ g) (hm : m ≤ 1000) : Own base u (.slice (some ⟨g, 0, none⟩) m m) (List.replicate m 0) := by
  have hl : (List.replicate m (0 : UInt8)).length = m := List.length_replicate
  have e : bvs (List.replicate m 0) = List.replicate m (.int .u8 0) := by simp [bvs, bv]
  unfold Own
  rw [hl, e]
  refine ⟨by simp, .inr ⟨g, m, _, rfl, hb, hh, Nat.le_refl _, by unfold maxLen; omega, by rw [size_madeCells, Nat.mul_one], ?_⟩⟩
  rw [toList_madeCells_one, List.take_of_length_le (by simp)]
theorem three_heap {u : World} {g a : Nat} {X : Obj} (hu : u.heap.size = g + 1) (ha : a = g + 1 ∨ a = g + 2 ∨ a = g + 3) : (((u.alloc X).alloc X).alloc X).drew.heap[a]? = some X := by
  show (((u.heap.push X).push X).push X)[a]? = some X
  simp only [Array.getElem?_push, Array.size_push, hu]
  rcases ha with rfl | rfl | rfl <;> repeat (first | rw [if_pos (by omega)] | rw [if_neg (by omega)])
theorem three_of {u : World} {g m a b c : Nat} (hu : u.heap.size = g + 1) (hm : m ≤ 1000) (ha : a = g + 1 ∨ a = g + 2 ∨ a = g + 3) (hb : b = g + 1 ∨ b = g + 2 ∨ b = g + 3) (hc : c = g + 1 ∨ c = g + 2 ∨ c = g + 3)
    (h1 : a ≠ b) (h2 : a ≠ c) (h3 : b ≠ c) : Three g m u (.slice (some ⟨a, 0, none⟩) m m) (.slice (some ⟨b, 0, none⟩) m m) (.slice (some ⟨c, 0, none⟩) m m)
      (((u.alloc (.cells (madeCells #[.int .u8 0] m) 5)).alloc (.cells (madeCells #[.int .u8 0] m) 5)).alloc (.cells (madeCells #[.int .u8 0] m) 5)).drew :=
  ⟨a, b, c, rfl, rfl, rfl, h1, h2, h3, by omega, by omega, by omega, own_block (three_heap hu ha) (by omega) hm, own_block (three_heap hu hb) (by omega) hm, own_block (three_heap hu hc) (by omega) hm,
    ((((Below.refl _ _).alloc (by omega) _).alloc (by simp; omega) _).alloc (by simp; omega) _).drew⟩
/-- Two more rows. -/
def Two (g m : Nat) (w1 : World) (s7 s8 : Value) (wx : World) : Prop :=
  ∃ a b, s7 = .slice (some ⟨a, 0, none⟩) m m ∧ s8 = .slice (some ⟨b, 0, none⟩) m m ∧ a ≠ b ∧ g ≤ a ∧ g ≤ b ∧
    Own g wx s7 (List.replicate m 0) ∧ Own g wx s8 (List.replicate m 0) ∧ Below g w1 wx
theorem two_heap {u : World} {g a : Nat} {X : Obj} (hu : u.heap.size = g) (ha : a = g ∨ a = g + 1) : ((u.alloc X).alloc X).drew.heap[a]? = some X := by
  show ((u.heap.push X).push X)[a]? = some X
  simp only [Array.getElem?_push, Array.size_push, hu]
  rcases ha with rfl | rfl <;> repeat (first | rw [if_pos (by omega)] | rw [if_neg (by omega)])
theorem two_of {u : World} {m a b : Nat} (hm : m ≤ 1000) (ha : a = u.heap.size ∨ a = u.heap.size + 1) (hb : b = u.heap.size ∨ b = u.heap.size + 1)
    (h1 : a ≠ b) : Two u.heap.size m u (.slice (some ⟨a, 0, none⟩) m m) (.slice (some ⟨b, 0, none⟩) m m)
      ((u.alloc (.cells (madeCells #[.int .u8 0] m) 5)).alloc (.cells (madeCells #[.int .u8 0] m) 5)).drew :=
  ⟨a, b, rfl, rfl, h1, by omega, by omega, own_block (two_heap rfl ha) (by omega) hm, own_block (two_heap rfl hb) (by omega) hm,
    (((Below.refl _ _).alloc (by omega) _).alloc (by simp) _).drew⟩

theorem grown_drew {w w' : World} {r : Option Nat} (h : w.grownBy w' r) : w.grownBy w'.drew r := ⟨h.os, h.tape, h.output, h.size, h.block⟩
theorem bv_eq (x : UInt8) : Value.int .u8 (x.toNat : Int) = bv x := rfl
theorem own_cell_set {base g n c k : Nat} {w : World} {l : List UInt8} {x : UInt8} (h : Own base w (.slice (some ⟨g, 0, none⟩) n c) (l.set k x)) (hn : n = (l.set k x).length) (hk : k < l.length) :
    w.cell? ⟨g, k, none⟩ = some (.int .u8 (x.toNat : Int)) := by
  have := own_cell h hn (i := k) (by rw [List.length_set]; exact hk)
  rwa [List.getElem_set_self] at this
theorem own_lt {base g n c : Nat} {w : World} {l : List UInt8} (h : Own base w (.slice (some ⟨g, 0, none⟩) n c) l) : ∃ g', g' = g ∧ base ≤ g ∧ g < w.heap.size :=
  ⟨g, rfl, World.ownsRow.lt h g rfl⟩
def xz (a b : List UInt8) : List UInt8 := List.zipWith (· ^^^ ·) a b
theorem xz_snoc (a b : List UInt8) (x y : UInt8) (h : a.length = b.length) : xz (a ++ [x]) (b ++ [y]) = xz a b ++ [x ^^^ y] := by
  unfold xz
  rw [List.zipWith_append h]; rfl
theorem take_set (l : List UInt8) (k : Nat) (x : UInt8) (h : k < l.length) : (l.set k x).take (k + 1) = l.take k ++ [x] := by
  rw [List.take_succ_eq_append_getElem (by rw [List.length_set]; exact h), List.getElem_set_self, List.take_set_of_le (Nat.le_refl _)]
/-- Behind k rounds: the five rows, the dice. -/
def Rel (w wr : World) (gd ga gb gc g2 g3 : Nat) (A : Option Addr) (n c m k : Nat) : Prop :=
  ∃ la lb lc l2 l3 a, Own (gd + 1) wr (.slice (some ⟨ga, 0, none⟩) m m) la ∧ m = la.length ∧ Own (gd + 1) wr (.slice (some ⟨gb, 0, none⟩) m m) lb ∧ m = lb.length ∧
    Own (gd + 1) wr (.slice (some ⟨gc, 0, none⟩) m m) lc ∧ m = lc.length ∧ Own (gd + 1) wr (.slice (some ⟨g2, 0, none⟩) m m) l2 ∧ m = l2.length ∧ Own (gd + 1) wr (.slice (some ⟨g3, 0, none⟩) m m) l3 ∧ m = l3.length ∧
    l2.take k = xz (la.take k) (lb.take k) ∧ l3.take k = xz (xz (la.take k) (lb.take k)) (lc.take k) ∧ a ≤ n ∧ Dc wr gd A n c a ∧ Below gd w wr

theorem walk (A : Option Addr) (n c : Nat) (l : List Int) (hn : n = l.length) (hw : ∀ x ∈ l, -9223372036854775808 ≤ x ∧ x ≤ 9223372036854775807) (hc : n ≤ c) (hm : c ≤ maxLen) (_hA : A = none → c = 0)
    (i : Int) (hi : -9223372036854775808 ≤ i ∧ i ≤ 9223372036854775807) (w : World) (hr : IRow w.heap.size w A l) :
    Calls Try.prog 11 #[.slice A n c, .int .i64 i] w fun e w' => e = .returned (.bool true) ∧ Below w.heap.size w w' := by
  have hmx : n ≤ maxLen := by omega
  have HN := Lib.hid hn; have HW := Lib.hid hw
  clear hn hw
  by_cases hl : n ≤ 600
  · have hd : decide (n ≤ 600) = true := by simpa using hl
    go_enter Try.func11, Try.ntmps11
    go_wp2_with fail
    refine (lightmade_any A n c w hmx).mono ?_
    rintro e w' ⟨rfl, rfl⟩
    rw [hd]
    go_wp2_with fail
    refine (roll_any A n c w).mono ?_
    rintro e w1 ⟨rfl, rfl⟩
    go_wp2_with fail
    refine (mod_at i _ 100 _ rfl hi.1 hi.2 (by omega) (by omega)).mono ?_
    rintro e w' ⟨m, hm, rfl, rfl⟩
    have hdc : Dc (w.alloc (.cells #[.slice A n c, .int .i64 0] 53)) w.heap.size A n c 0 := heap_alloc_new w _
    have hb1 : Below w.heap.size w (w.alloc (.cells #[.slice A n c, .int .i64 0] 53)) := (Below.refl _ _).alloc (Nat.le_refl _) _
    have hr1 : IRow w.heap.size (w.alloc (.cells #[.slice A n c, .int .i64 0] 53)) A l := Rd.below hr hb1
    have hs1 : (w.alloc (.cells #[.slice A n c, .int .i64 0] 53)).heap.size = w.heap.size + 1 := by simp
    have hbb : w.heap.size ≤ w.heap.size := Nat.le_refl _
    generalize hgd : w.heap.size = gd at hdc hr1 hs1 hb1 hbb ⊢
    have hrg : IRow gd w A l := by rw [← hgd]; exact hr
    have HGD := Lib.hid hgd; clear hgd
    generalize w.alloc (.cells #[.slice A n c, .int .i64 0] 53) = w1 at *
    obtain ⟨i0, hi0, hz0, hz1, hz2⟩ := info_parts info5
    have hmk := fun u : World => make_run m u i0 hi0 hz0 hz1 hz2 (by omega)
    go_upto_region 5 with (fail)
    go_cut [7, 8, 9] (fun s7 s8 s9 wx => Three gd m w1 s7 s8 s9 wx)
    case first =>
      go_region
      all_goals go_wp2_with fail
      all_goals go_meet
      all_goals exact three_of hs1 (by omega) (by omega) (by omega) (by omega) (by omega) (by omega) (by omega)
    case rest =>
      obtain ⟨w2, rfl⟩ : ∃ w2 : World, w2 = wc := ⟨_, rfl⟩
      obtain ⟨ga, gb, gc, rfl, rfl, rfl, nab, nac, nbc, hga, hgb, hgc, oa, ob, oc, hbw⟩ := hcut
      have ht := fun (u : World) (a b : Nat) => @two_of u m a b (by omega)
      have HT := Lib.hid ht; clear ht
      go_upto_region 6 with (fail)
      go_cut [10, 11] (fun s10 s11 wx => Two w2.heap.size m w2 s10 s11 wx)
      case first =>
        go_region
        all_goals go_wp2_with fail
        all_goals go_meet
        all_goals exact HT.out w2 _ _ (by omega) (by omega) (by omega)
      case rest =>
        obtain ⟨w3, rfl⟩ : ∃ w3 : World, w3 = wc := ⟨_, rfl⟩
        obtain ⟨g2, g3, rfl, rfl, n23, h2, h3, o2, o3, hbx⟩ := hcut
        obtain ⟨_, ea, -, qa⟩ := own_lt oa
        obtain ⟨_, eb, -, qb⟩ := own_lt ob
        obtain ⟨_, ec, -, qc⟩ := own_lt oc
        cases ea; cases eb; cases ec
        replace oa := oa.below hbx (Nat.le_refl _)
        replace ob := ob.below hbx (Nat.le_refl _)
        replace oc := oc.below hbx (Nat.le_refl _)
        have hz2 : gd + 1 ≤ w2.heap.size := by have := hbw.size; omega
        replace o2 := o2.base_ hz2
        replace o3 := o3.base_ hz2
        have hdw : Dc w3 gd A n c 0 := (hdc.below hbw (by omega)).below hbx (by omega)
        have hbel : Below gd w w3 := (hb1.trans (hbw.mono (by omega))).trans (hbx.mono (by omega))
        have m0 : m = (List.replicate m (0 : UInt8)).length := List.length_replicate.symm
        have M0 := Lib.hid m0; clear m0
        have n2a : g2 ≠ ga := by omega
        have n2b : g2 ≠ gb := by omega
        have n2c : g2 ≠ gc := by omega
        have n3a : g3 ≠ ga := by omega
        have n3b : g3 ≠ gb := by omega
        have n3c : g3 ≠ gc := by omega
        have l2g : gd < g2 := by omega
        have l3g : gd < g3 := by omega
        clear hbx hbw hb1 h2 h3 hz2 qa qb qc HT hdc hs1 hmk hr1
        go_wp2_with fail
        go_loopw [12] (fun v wr => ∃ k : Nat, k ≤ m ∧ v = .int .i64 k ∧ Rel w wr gd ga gb gc g2 g3 A n c m k) (fun v _ => m - (intOf v).toNat)
        case atStart => exact ⟨0, by omega, rfl, _, _, _, _, _, 0, oa, M0.out, ob, M0.out, oc, M0.out, o2, M0.out, o3, M0.out, rfl, rfl, by omega, hdw, hbel⟩
        case round =>
          clear oa ob oc o2 o3 hdw hbel M0
          obtain ⟨k, hk, rfl, hrel⟩ := hrel
          by_cases hlt : k < m
          · obtain ⟨la, lb, lc, l2, l3, a, oa, ea, ob, eb, oc, ec, o2, e2, o3, e3, p2, p3, ha, hdw, hbel⟩ := hrel
            have EA := Lib.hid ea; have EB := Lib.hid eb; have EC := Lib.hid ec; have E2 := Lib.hid e2; have E3 := Lib.hid e3; have P2 := Lib.hid p2; have P3 := Lib.hid p3
            clear ea eb ec e2 e3 p2 p3
            have hra : IRow gd wr A l := Rd.below hrg hbel
            have hgw := HGD.out
            have hn100 : n ≤ 1000000 := by omega
            have q0 : ga ≠ gd := by omega
            have q1 : gb ≠ gd := by omega
            have q2 : gc ≠ gd := by omega
            have q3 : g2 ≠ gd := by omega
            have q4 : g3 ≠ gd := by omega
            go_wp2_with fail
            refine (byte_any gd n c a A l wr hdw hra HN.out HW.out ha hn100).mono ?_
            rintro e w4 ⟨xa, a1, rfl, ha1, hd1, t1⟩
            replace oa := own_far oa t1 q0; replace ob := own_far ob t1 q1; replace oc := own_far oc t1 q2; replace o2 := own_far o2 t1 q3; replace o3 := own_far o3 t1 q4
            replace hra := irow_grown hra t1 hdw.lt
            replace hbel := hbel.grown t1 (by have := hbel.size; omega) (fun x hx => by cases hx; exact Nat.le_refl _)
            clear hdw t1
            go_wp2_with fail
            refine (byte_any gd n c a1 A l w4 hd1 hra HN.out HW.out ha1 hn100).mono ?_
            rintro e w5 ⟨xb, a2, rfl, ha2, hd2, t1⟩
            replace oa := own_far oa t1 q0; replace ob := own_far ob t1 q1; replace oc := own_far oc t1 q2; replace o2 := own_far o2 t1 q3; replace o3 := own_far o3 t1 q4
            replace hra := irow_grown hra t1 hd1.lt
            replace hbel := hbel.grown t1 (by have := hbel.size; omega) (fun x hx => by cases hx; exact Nat.le_refl _)
            clear hd1 t1
            go_wp2_with fail
            refine (byte_any gd n c a2 A l w5 hd2 hra HN.out HW.out ha2 hn100).mono ?_
            rintro e w6 ⟨xc, a3, rfl, ha3, hd3, t1⟩
            replace oa := own_far oa t1 q0; replace ob := own_far ob t1 q1; replace oc := own_far oc t1 q2; replace o2 := own_far o2 t1 q3; replace o3 := own_far o3 t1 q4
            replace hbel := hbel.grown t1 (by have := hbel.size; omega) (fun x hx => by cases hx; exact Nat.le_refl _)
            clear hd2 t1 hra ha1 ha2 ha
            have b0 : (0 : Int) ≤ (k : Int) := by omega
            have b1 : (k : Int) < (m : Int) := by omega
            have ka : k < la.length := by rw [← EA.out]; exact hlt
            have kb : k < lb.length := by rw [← EB.out]; exact hlt
            have kc : k < lc.length := by rw [← EC.out]; exact hlt
            have k2 : k < l2.length := by rw [← E2.out]; exact hlt
            have k3 : k < l3.length := by rw [← E3.out]; exact hlt
            have ca := own_cell oa EA.out ka
            have cb := own_cell ob EB.out kb
            have cc := own_cell oc EC.out kc
            have fa := own_frozen oa EA.out k
            have fb := own_frozen ob EB.out k
            have fc := own_frozen oc EC.out k
            obtain ⟨oa1, t1⟩ := own_store oa EA.out k xa
            obtain ⟨ob1, t2⟩ := own_store (own_far ob t1 (Ne.symm nab)) EB.out k xb
            obtain ⟨oc1, t3⟩ := own_store (own_far (own_far oc t1 (Ne.symm nac)) t2 (Ne.symm nbc)) EC.out k xc
            have oa2 := own_far (own_far oa1 t2 nab) t3 nac
            have ob2 := own_far ob1 t3 nbc
            have o22 := own_far (own_far (own_far o2 t1 n2a) t2 n2b) t3 n2c
            have o32 := own_far (own_far (own_far o3 t1 n3a) t2 n3b) t3 n3c
            have hd4 := ((hd3.keep t1 (by simp; omega)).keep t2 (by simp; omega)).keep t3 (by simp; omega)
            have hb4 := ((hbel.grown t1 (by have := hbel.size; omega) (fun x hx => by cases hx; omega)).grown t2 (by have := hbel.size; have := t1.size; omega) (fun x hx => by cases hx; omega)).grown t3 (by have := hbel.size; have := t1.size; have := t2.size; omega) (fun x hx => by cases hx; omega)
            clear t1 t2 t3 oa ob oc o2 o3 hd3 hbel oa1 ob1
            go_wp2_with fail
            rw [bv_eq xa, bv_eq xb, bv_eq xc]
            generalize ((w6.setCell ⟨ga, k, none⟩ (bv xa)).setCell ⟨gb, k, none⟩ (bv xb)).setCell ⟨gc, k, none⟩ (bv xc) = w7 at *
            clear ca cb cc fa fb fc
            have LA := Lib.hid (EA.out.trans List.length_set.symm : m = (la.set k xa).length)
            have LB := Lib.hid (EB.out.trans List.length_set.symm : m = (lb.set k xb).length)
            have LC := Lib.hid (EC.out.trans List.length_set.symm : m = (lc.set k xc).length)
            have ca := own_cell_set oa2 LA.out ka
            have cb := own_cell_set ob2 LB.out kb
            have cc := own_cell_set oc1 LC.out kc
            have c2 := own_cell o22 E2.out k2
            have f2 := own_frozen o22 E2.out k
            have x1 := u8_xor_nat xa.toNat xb.toNat xa.toNat_lt xb.toNat_lt
            obtain ⟨o23, t1⟩ := own_store o22 E2.out k (xa ^^^ xb)
            have ea : Value.int .u8 ((xa.toNat ^^^ xb.toNat : Nat) : Int) = bv (xa ^^^ xb) := by unfold bv; rw [UInt8.toNat_xor]
            have EB1 := Lib.hid ea; clear ea
            go_region
            go_wp2_with fail
            rw [EB1.out]
            have t1d := grown_drew t1
            have oa8 : Own (gd + 1) (w7.setCell ⟨g2, k, none⟩ (bv (xa ^^^ xb))).drew _ _ := own_far oa2 t1d (Ne.symm n2a)
            have ob8 : Own (gd + 1) (w7.setCell ⟨g2, k, none⟩ (bv (xa ^^^ xb))).drew _ _ := own_far ob2 t1d (Ne.symm n2b)
            have oc8 : Own (gd + 1) (w7.setCell ⟨g2, k, none⟩ (bv (xa ^^^ xb))).drew _ _ := own_far oc1 t1d (Ne.symm n2c)
            have o28 : Own (gd + 1) (w7.setCell ⟨g2, k, none⟩ (bv (xa ^^^ xb))).drew _ _ := o23
            have o38 : Own (gd + 1) (w7.setCell ⟨g2, k, none⟩ (bv (xa ^^^ xb))).drew _ _ := own_far o32 t1d (Ne.symm n23)
            have hd8 : Dc (w7.setCell ⟨g2, k, none⟩ (bv (xa ^^^ xb))).drew gd A n c a3 := hd4.keep t1d (by simp; omega)
            have hb8 : Below gd w (w7.setCell ⟨g2, k, none⟩ (bv (xa ^^^ xb))).drew := (hb4.grown t1 (by have := hb4.size; omega) (fun x hx => by cases hx; omega)).drew
            generalize (w7.setCell ⟨g2, k, none⟩ (bv (xa ^^^ xb))).drew = w8 at *
            clear ca cb cc c2 f2 oa2 ob2 oc1 o22 o23 o32 hd4 hb4 t1 t1d x1 EB1
            have ca := own_cell_set oa8 LA.out ka
            have cb := own_cell_set ob8 LB.out kb
            have cc := own_cell_set oc8 LC.out kc
            have c3 := own_cell o38 E3.out k3
            have f3 := own_frozen o38 E3.out k
            have x1 := u8_xor_nat xa.toNat xb.toNat xa.toNat_lt xb.toNat_lt
            have x2 := u8_xor_nat (xa.toNat ^^^ xb.toNat) xc.toNat (Nat.xor_lt_two_pow (n := 8) xa.toNat_lt xb.toNat_lt) xc.toNat_lt
            obtain ⟨o39, t1⟩ := own_store o38 E3.out k (xa ^^^ xb ^^^ xc)
            have ea : Value.int .u8 ((xa.toNat ^^^ xb.toNat ^^^ xc.toNat : Nat) : Int) = bv (xa ^^^ xb ^^^ xc) := by unfold bv; rw [UInt8.toNat_xor, UInt8.toNat_xor]
            have EB1 := Lib.hid ea; clear ea
            go_region
            go_wp2_with fail
            rw [EB1.out]
            have t1d := grown_drew t1
            have oa9 : Own (gd + 1) (w8.setCell ⟨g3, k, none⟩ (bv (xa ^^^ xb ^^^ xc))).drew _ _ := own_far oa8 t1d (Ne.symm n3a)
            have ob9 : Own (gd + 1) (w8.setCell ⟨g3, k, none⟩ (bv (xa ^^^ xb ^^^ xc))).drew _ _ := own_far ob8 t1d (Ne.symm n3b)
            have oc9 : Own (gd + 1) (w8.setCell ⟨g3, k, none⟩ (bv (xa ^^^ xb ^^^ xc))).drew _ _ := own_far oc8 t1d (Ne.symm n3c)
            have o29 : Own (gd + 1) (w8.setCell ⟨g3, k, none⟩ (bv (xa ^^^ xb ^^^ xc))).drew _ _ := own_far o28 t1d n23
            have o3z : Own (gd + 1) (w8.setCell ⟨g3, k, none⟩ (bv (xa ^^^ xb ^^^ xc))).drew _ _ := o39
            have hd9 : Dc (w8.setCell ⟨g3, k, none⟩ (bv (xa ^^^ xb ^^^ xc))).drew gd A n c a3 := hd8.keep t1d (by simp; omega)
            have hb9 : Below gd w (w8.setCell ⟨g3, k, none⟩ (bv (xa ^^^ xb ^^^ xc))).drew := (hb8.grown t1 (by have := hb8.size; omega) (fun x hx => by cases hx; omega)).drew
            refine ⟨⟨k + 1, by omega, by go_num, _, _, _, _, _, a3, oa9, LA.out, ob9, LB.out, oc9, LC.out, o29, E2.out.trans List.length_set.symm, o3z, E3.out.trans List.length_set.symm, ?_, ?_, ha3, hd9, hb9⟩, by simp [intOf]; omega⟩
            · rw [take_set _ _ _ k2, take_set _ _ _ ka, take_set _ _ _ kb, P2.out, xz_snoc]
              rw [List.length_take, List.length_take]; omega
            · rw [take_set _ _ _ k3, take_set _ _ _ ka, take_set _ _ _ kb, take_set _ _ _ kc, P3.out, xz_snoc _ _ xa xb (by rw [List.length_take, List.length_take]; omega), xz_snoc]
              unfold xz
              rw [List.length_zipWith, List.length_take, List.length_take, List.length_take]; omega
          · obtain rfl : k = m := by omega
            obtain ⟨la, lb, lc, l2, l3, a, oa, ea, ob, eb, oc, ec, o2, e2, o3, e3, p2, p3, ha, hdw, hbel⟩ := hrel
            rw [List.take_of_length_le (by omega), List.take_of_length_le (by omega), List.take_of_length_le (by omega)] at p2
            rw [List.take_of_length_le (by omega), List.take_of_length_le (by omega), List.take_of_length_le (by omega), List.take_of_length_le (by omega)] at p3
            have sa := sl_own oa ea
            have sb := sl_own ob eb
            have sc := sl_own oc ec
            have s2 := sl_own o2 e2
            have s3 := sl_own o3 e3
            have z8 : crc8 l2 = crc8 la ^^^ crc8 lb := by rw [p2]; exact crc8_zip la lb (by omega)
            have z32 : crc32 l3 = crc32 la ^^^ crc32 lb ^^^ crc32 lc := by rw [p3]; exact crc32_zip la lb lc (by omega) (by omega)
            have x1 := u8_xor_nat _ _ (crc8_lt la) (crc8_lt lb)
            have lt32 : ∀ l, crc32 l < 4294967296 := fun l => by unfold crc32; omega
            have x2 := u32_xor_nat _ _ (lt32 la) (lt32 lb)
            have x3 := u32_xor_nat (crc32 la ^^^ crc32 lb) _ (Nat.xor_lt_two_pow (n := 32) (lt32 la) (lt32 lb)) (lt32 lc)
            have Z8 := Lib.hid z8; have Z32 := Lib.hid z32
            clear p2 p3 ea eb ec e2 e3 oa ob oc o2 o3 z8 z32 lt32
            go_wp2_with fail
            refine (crc8_s s2).mono ?_
            rintro e w' ⟨rfl, rfl⟩
            rw [Z8.out]
            go_wp2_with fail
            refine (crc8_s sa).mono ?_
            rintro e w' ⟨rfl, rfl⟩
            go_wp2_with fail
            refine (crc8_s sb).mono ?_
            rintro e w' ⟨rfl, rfl⟩
            go_wp2_with fail
            refine (crc32_s s3).mono ?_
            rintro e w' ⟨rfl, rfl⟩
            rw [Z32.out]
            go_wp2_with fail
            refine (crc32_s sa).mono ?_
            rintro e w' ⟨rfl, rfl⟩
            go_wp2_with fail
            refine (crc32_s sb).mono ?_
            rintro e w' ⟨rfl, rfl⟩
            go_wp2_with fail
            refine (crc32_s sc).mono ?_
            rintro e w' ⟨rfl, rfl⟩
            go_wp2_with fail
            refine (awake_any _).mono ?_
            rintro e w' ⟨rfl, bz⟩
            go_wp2_with fail
            go_ret
            exact ⟨rfl, (hbel.trans (bz.mono (by have := hbel.size; have := HGD.out; omega))).mono (Nat.le_of_eq HGD.out)⟩
  · have hd : decide (n ≤ 600) = false := by simpa using hl
    go_enter Try.func11, Try.ntmps11
    go_wp2_with fail
    refine (lightmade_any A n c w hmx).mono ?_
    rintro e w' ⟨rfl, rfl⟩
    rw [hd]
    go_wp2_with fail
    refine (awake_any w).mono ?_
    rintro e w' ⟨rfl, hb⟩
    go_wp2_with fail
    go_ret
    exact ⟨rfl, hb⟩

theorem cells_u8 : Try.prog.cellsOf 5 = 1 := by kernel_rfl
theorem cells_int : Try.prog.cellsOf 3 = 1 := by kernel_rfl
theorem own : ownKnob Try.prog.godebug = none := by kernel_rfl
theorem laidOut : laidOutB Try.prog = true := by kernel_rfl
theorem contract (H : Type) (enc : TypeId × Value → H) (W : World) (base : Nat) (args : Array Value) (ds gs : List (DataW H)) (before : List MemPlace)
    (hval : ∀ (j : Nat) t v, Try.f11.params[j]? = some t → args[j]? = some v → Value.okWide Try.prog W .any base t v)
    (hW : DataW.Whole enc Try.prog Try.f11.params.toList Rows.checksumLinearSpec.vars false W args.toList ds gs before) :
    Calls Try.prog 11 args W fun e W' => ∃ v, e = .returned v ∧ Rows.checksumLinearSpec.post enc Try.prog Try.f11 false true false false W args v W' := by
  have hW' := hW
  obtain ⟨p, q, hA0, hV, rfl, hfz, hnd⟩ := hW
  have hA : DataW.TrodAll enc Try.prog W 0 (fun _ => true) true Try.f11.params.toList args.toList ds p := hA0
  rw [Try.params11] at hA hval
  obtain ⟨v0, vs0, d0, ds0, p0, q0, hargs, rfl, rfl, h0, r0⟩ := trodAll_cons hA
  obtain ⟨v1, vs1, d1, ds1, p1, q1, rfl, rfl, rfl, h1, r1⟩ := trodAll_cons r0
  obtain ⟨rfl, rfl, rfl⟩ := trodAll_nil r1
  obtain rfl : args = #[v0, v1] := by cases args; simp_all
  obtain ⟨A0, n0, c0, l0, rfl, hn0, hr0, hw0, hc0, hm0, hk0⟩ := open_int_list Try.underlying37 Try.underlying3 cells_int (hval 0 37 v0 rfl rfl) h0
  obtain ⟨a1, rfl, -, -, w1⟩ := open_int Try.underlying3 (hval 1 3 v1 rfl rfl) h1
  clear hA0
  refine (walk A0 n0 c0 l0 hn0 hw0 hc0 hm0 hk0 a1 (bounds_i64 w1) W hr0).mono fun e W' ⟨he, hb⟩ => ?_
  subst he
  exact ⟨_, rfl, law_post laidOut (types_fit (by kernel_rfl)) (by kernel_rfl) Try.underlying4 rfl (fun xs hx => by
    match xs, hx with
    | [_, _], _ => rfl) hW' hb⟩

theorem lifted (os : Os) (started : os.Started) (H : Type) (enc : TypeId × Value → H) :
    ReturnsInHanded {} Try.checked os 11 .any (Rows.checksumLinearSpec.pre6 enc Try.prog Try.f11 Rows.checksumLinearRow.domain false) (Rows.checksumLinearSpec.post enc Try.prog Try.f11 false true false false) := by
  refine returnsInHanded_of_change (C := Try.checked) own started (by kernel_rfl) Try.func11
    (ChangeSpec.witness6 (enc := enc) (C := Try.checked) false ⟨#[], #[.slice none 0 0, .int .i64 0], []⟩ 8 (by kernel_rfl) (by kernel_rfl) (by kernel_rfl) (by kernel_rfl)) ?_
  intro W base args ds gs before hval hW _ _
  exact contract H enc W base args ds gs before hval hW

theorem proved : Rows.ChecksumLinearSaid :=
  OpenClaim.holds_of_wide 11 Try.f11 rfl rfl rfl rfl rfl rfl rfl ⟨rfl, rfl, rfl, rfl, rfl⟩ rfl rfl rfl rfl rfl (by kernel_rfl) Try.func11 (by kernel_rfl)
    (of_decide_eq_true (by kernel_rfl)) (by unfold Func.isWrapper; first | (rw [if_pos (by decide +kernel)]; kernel_rfl) | (rw [if_neg (by decide +kernel)]; exact ⟨rfl, rfl⟩))
    (fun os started H enc _ => lifted os started H enc)
end Go.Proofs.Ytnmakbbbbcngbaa.checksumLinear
