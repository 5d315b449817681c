/- FieldsBytes holds for every input: what was decoded is valid, and is encoded to the bytes that were read. No condition. -/
import Derived.Test.YtkhdldemhaifpaaFi
import Derived.Test.YtkhdldemhaifpaaLaw
namespace Go.Proofs.Ytkhdldemhaifpaa.fieldsBytes
open Go.RowKit Go.ChangeShapes Go.WideShapes Go.ChangeAt Go.Proofs.Ytkhdldemhaifpaa.Mem Go.Proofs.Ytkhdldemhaifpaa.F2p Go.Proofs.Ytkhdldemhaifpaa.Fa Go.Proofs.Ytkhdldemhaifpaa.Same Go.Proofs.Ytkhdldemhaifpaa.Law
set_option maxRecDepth 100000
set_option maxHeartbeats 1000000

theorem walk (A : Option Addr) (n c : Nat) (l : List UInt8) (hn : n = l.length) (hc : n ≤ c) (hm : c ≤ maxLen) (hA : A = none → c = 0) (w : World) (hr : Row w.heap.size w A l) :
    Calls Try.prog 6 #[.slice A n c] w fun e w' => e = .returned (.bool true) ∧ Below w.heap.size w w' := by
  have hs : Sl w A n c l := ⟨hn, hr, hc, hm, hA⟩
  have hmx : n ≤ 9223372036854775807 := by have := lite hs; unfold maxLen at this; omega
  clear hn hc hm hr hA
  by_cases h300 : n ≤ 300
  · have hd := dec_p A n c l w hs (by omega)
    have h1 := dec_yes (l := l)
    have h2 := dec_no (l := l)
    have h3 := dec_z (l := l)
    have HL := Lib.hid hs.len
    generalize dec l = D at *
    obtain ⟨k, v, m, z, x⟩ := D
    simp only at hd h1 h2 h3
    have HD := Lib.hid hd
    clear hd
    by_cases hx : x = 0
    · subst hx
      have hno : ((0 : Int) != 0) = false := rfl
      cases z
      · obtain ⟨hm1, hm2, hv, he⟩ := h1 rfl rfl
        rw [← HL.out] at hm2
        clear h1 h2 h3
        have hvs : (⟨v.toArray⟩ : ByteArray).size ≤ 100000 := by
          obtain ⟨h63, -⟩ := vld_dat hv
          have := vld_len2 hv
          show v.toArray.size ≤ _
          simp; omega
        have HE := Lib.hid he
        clear he
        go_enter Try.func6, Try.ntmps6
        go_wp2_with fail
        refine HD.out.mono ?_
        rintro e w1 ⟨rfl, hb1⟩
        unfold out
        go_wp2_with fail
        have hst : (w1.alloc (.cells #[.int .i64 k, .string ⟨v.toArray⟩] 23)).heap[w1.heap.size]? = some (.cells #[.int .i64 k, .string ⟨v.toArray⟩] 23 (0, 0)) := heap_alloc_new w1 _
        have hb2 : Below w.heap.size w (w1.alloc (.cells #[.int .i64 k, .string ⟨v.toArray⟩] 23)) := hb1.alloc hb1.size _
        generalize w1.alloc (.cells #[.int .i64 k, .string ⟨v.toArray⟩] 23) = w2 at *
        refine (enc_yes k ⟨v.toArray⟩ w2 hv hvs).mono ?_
        rintro e w3 ⟨A3, n3, c3, rfl, -, s3, hb3⟩
        obtain ⟨c0, c1, -⟩ := pair_cells ((hb3.block w1.heap.size (lt_of_some hst)).trans hst)
        have hb4 : Below w.heap.size w w3 := hb2.trans (hb3.mono hb2.size)
        clear hst
        go_wp2_with fail
        refine (valid_p k ⟨v.toArray⟩ w3 hvs).mono ?_
        rintro e w4 ⟨rfl, hb5⟩
        rw [show vld k (bl ⟨v.toArray⟩) = true from hv]
        have hb6 : Below w.heap.size w w4 := hb4.trans (hb5.mono hb4.size)
        have s4 := s3.step hb5
        rw [show enc k (bl ⟨v.toArray⟩) = l.take m from HE.out] at s4
        have sl4 : Sl w4 A m c (l.take m) := by
          have h := hs.step hb6
          exact ⟨by rw [List.length_take, ← HL.out]; omega, row_take h.row m, by have := h.cap; omega, h.max, h.nil⟩
        have hcap := hs.cap
        clear c0 c1
        go_wp2_with fail
        refine (same_yes s4 sl4).mono ?_
        rintro e w5 ⟨rfl, hb7⟩
        go_wp2_with fail
        refine (awake_any _).mono ?_
        rintro e w6 ⟨rfl, hb8⟩
        go_wp2_with fail
        go_ret
        exact ⟨rfl, hb6.trans ((hb7.trans (hb8.mono hb7.size)).mono hb6.size)⟩
      · obtain ⟨rfl, -, rfl, rfl, h0, h193⟩ := h3 rfl
        clear h1 h2 h3
        obtain ⟨a, rfl, hab, hc0⟩ := head_cell hs (by rw [HL.out]; exact h0)
        rw [h193] at hc0
        have hn0 : 0 < n := by rw [HL.out]; exact h0
        clear h193 h0
        go_enter Try.func6, Try.ntmps6
        go_wp2_with fail
        refine HD.out.mono ?_
        rintro e w1 ⟨rfl, hb1⟩
        unfold out
        have hc1 : w1.cell? a = some (.int .u8 193) := by rw [hb1.cell hab]; exact hc0
        have hc2 : (w1.alloc (.cells #[.int .i64 0, .string ⟨#[]⟩] 23)).cell? a = some (.int .u8 193) := (World.cell?_alloc_lt w1 _ a (by have := hb1.size; omega)).trans hc1
        go_wp2_with fail
        refine (awake_any _).mono ?_
        rintro e w2 ⟨rfl, hb2⟩
        go_wp2_with fail
        go_ret
        exact ⟨rfl, (hb1.alloc hb1.size _).trans (hb2.mono (by have := hb1.size; simp; omega))⟩
    · have hno : (x != 0) = true := by simpa using hx
      obtain ⟨rfl, rfl, -, -⟩ := h2 hx
      clear h1 h2 h3 hx
      go_enter Try.func6, Try.ntmps6
      go_wp2_with fail
      refine HD.out.mono ?_
      rintro e w1 ⟨rfl, hb1⟩
      unfold out
      go_wp2_with fail
      refine (awake_any _).mono ?_
      rintro e w2 ⟨rfl, hb2⟩
      go_wp2_with fail
      go_ret
      exact ⟨rfl, (hb1.alloc hb1.size _).trans (hb2.mono (by have := hb1.size; simp; omega))⟩
  · go_enter Try.func6, Try.ntmps6
    go_wp2_with fail
    refine (awake_any _).mono ?_
    rintro e w2 ⟨rfl, hb2⟩
    go_wp2_with fail
    go_ret
    exact ⟨rfl, hb2⟩

theorem cells_u8 : Try.prog.cellsOf 5 = 1 := by kernel_rfl
theorem own : ownKnob Try.prog.godebug = none := by kernel_rfl
theorem laidOut : laidOutB Try.prog = true := by kernel_rfl
theorem contract (H : Type) (enc : TypeId × Value → H) (W : World) (base : Nat) (args : Array Value) (ds gs : List (DataW H)) (before : List MemPlace)
    (hval : ∀ (j : Nat) t v, Try.f6.params[j]? = some t → args[j]? = some v → Value.okWide Try.prog W .any base t v)
    (hW : DataW.Whole enc Try.prog Try.f6.params.toList Rows.fieldsBytesSpec.vars false W args.toList ds gs before) :
    Calls Try.prog 6 args W fun e W' => ∃ v, e = .returned v ∧ Rows.fieldsBytesSpec.post enc Try.prog Try.f6 false true false false W args v W' := by
  have hW' := hW
  obtain ⟨p, q, hA0, hV, rfl, hfz, hnd⟩ := hW
  have hA : DataW.TrodAll enc Try.prog W 0 (fun _ => true) true Try.f6.params.toList args.toList ds p := hA0
  rw [Try.params6] at hA hval
  obtain ⟨v0, vs0, d0, ds0, p0, q0, hargs, rfl, rfl, h0, r0⟩ := trodAll_cons hA
  obtain ⟨rfl, rfl, rfl⟩ := trodAll_nil r0
  obtain rfl : args = #[v0] := by cases args; simp_all
  obtain ⟨A0, n0, c0, l0, rfl, hn0, hr0, hc0, hm0, hk0⟩ := open_bytes Try.underlying31 Try.underlying5 cells_u8 (hval 0 31 v0 rfl rfl) h0
  clear hA0
  refine (walk A0 n0 c0 l0 hn0 hc0 hm0 hk0 W hr0).mono fun e W' ⟨he, hb⟩ => ?_
  subst he
  exact ⟨_, rfl, law_post laidOut (types_fit (by kernel_rfl)) (by kernel_rfl) Try.underlying4 rfl (fun xs hx => by
    match xs, hx with
    | [_], _ => rfl) hW' hb⟩

theorem lifted (os : Os) (started : os.Started) (H : Type) (enc : TypeId × Value → H) :
    ReturnsInHanded {} Try.checked os 6 .any (Rows.fieldsBytesSpec.pre6 enc Try.prog Try.f6 Rows.fieldsBytesRow.domain false) (Rows.fieldsBytesSpec.post enc Try.prog Try.f6 false true false false) := by
  refine returnsInHanded_of_change (C := Try.checked) own started (by kernel_rfl) Try.func6
    (ChangeSpec.witness6 (enc := enc) (C := Try.checked) false ⟨#[], #[.slice none 0 0], []⟩ 8 (by kernel_rfl) (by kernel_rfl) (by kernel_rfl) (by kernel_rfl)) ?_
  intro W base args ds gs before hval hW _ _
  exact contract H enc W base args ds gs before hval hW

theorem proved : Rows.FieldsBytesSaid :=
  OpenClaim.holds_of_wide 6 Try.f6 rfl rfl rfl rfl rfl rfl rfl ⟨rfl, rfl, rfl, rfl, rfl⟩ rfl rfl rfl rfl rfl (by kernel_rfl) Try.func6 (by kernel_rfl)
    (of_decide_eq_true (by kernel_rfl)) (by unfold Func.isWrapper; first | (rw [if_pos (by decide +kernel)]; kernel_rfl) | (rw [if_neg (by decide +kernel)]; exact ⟨rfl, rfl⟩))
    (fun os started H enc _ => lifted os started H enc)
end Go.Proofs.Ytkhdldemhaifpaa.fieldsBytes
