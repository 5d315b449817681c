/- FieldsDecode holds for every input: what any bytes are decoded to. No condition. -/
import Derived.Test.YtkhdldemhaifpaaF2g
import Derived.Test.YtkhdldemhaifpaaFq
import Derived.Test.YtkhdldemhaifpaaLaw
namespace Go.Proofs.Ytkhdldemhaifpaa.fieldsDecode
open Go.RowKit Go.ChangeShapes Go.WideShapes Go.ChangeAt Go.Proofs.Ytkhdldemhaifpaa.Mem Go.Proofs.Ytkhdldemhaifpaa.F2p Go.Proofs.Ytkhdldemhaifpaa.Fa Go.Proofs.Ytkhdldemhaifpaa.Law
set_option maxRecDepth 100000
set_option maxHeartbeats 1000000

theorem walk (A : Option Addr) (n c : Nat) (l : List UInt8) (hn : n = l.length) (hc : n ≤ c) (hm : c ≤ maxLen) (hA : A = none → c = 0) (w : World) (hr : Row w.heap.size w A l) :
    Calls Try.prog 4 #[.slice A n c] w fun e w' => e = .returned (.bool true) ∧ Below w.heap.size w w' := by
  have hs : Sl w A n c l := ⟨hn, hr, hc, hm, hA⟩
  have hmx : n ≤ 9223372036854775807 := by have := lite hs; unfold maxLen at this; omega
  clear hn hc hm hr hA
  by_cases h300 : n ≤ 300
  · have hp := Lib.hid (fun u (hu : Sl u A n c l) => dec_p A n c l u hu (by omega))
    have hq := Lib.hid (fun u (hu : Sl u A n c l) => F2g.dec_r A n c l u hu (by omega))
    have HS := Lib.hid hs
    clear hs
    generalize dec l = D at *
    obtain ⟨k, v, m, z, x⟩ := D
    go_enter Try.func4, Try.ntmps4
    go_wp2_with fail
    refine (hp.out w HS.out).mono ?_
    rintro e w1 ⟨rfl, hb1⟩
    unfold out
    have hst : (w1.alloc (.cells #[.int .i64 k, .string ⟨v.toArray⟩] 23)).heap[w1.heap.size]? = some (.cells #[.int .i64 k, .string ⟨v.toArray⟩] 23 (0, 0)) := heap_alloc_new w1 _
    have hb2 : Below w.heap.size w (w1.alloc (.cells #[.int .i64 k, .string ⟨v.toArray⟩] 23)) := hb1.alloc hb1.size _
    go_wp2_with fail
    generalize w1.alloc (.cells #[.int .i64 k, .string ⟨v.toArray⟩] 23) = w2 at *
    generalize w1.heap.size = F at *
    refine (hq.out w2 (HS.out.step hb2)).mono ?_
    rintro e w3 ⟨rfl, hb3⟩
    unfold out
    have hst3 := (hb3.block F (lt_of_some hst)).trans hst
    have hb4 : Below w.heap.size w w3 := hb2.trans (hb3.mono hb2.size)
    have hst4 := (Below.heap_alloc w3 (.cells #[.int .i64 k, .string ⟨v.toArray⟩] 23) _ (lt_of_some hst3)).trans hst3
    have hsu4 : (w3.alloc (.cells #[.int .i64 k, .string ⟨v.toArray⟩] 23)).heap[w3.heap.size]? = some (.cells #[.int .i64 k, .string ⟨v.toArray⟩] 23 (0, 0)) := heap_alloc_new w3 _
    have hb5 : Below w.heap.size w (w3.alloc (.cells #[.int .i64 k, .string ⟨v.toArray⟩] 23)) := hb4.alloc hb4.size _
    obtain ⟨k0, k1, -⟩ := pair_cells hst4
    obtain ⟨g0, g1, -⟩ := pair_cells hsu4
    clear hst hst3 hst4 hsu4 hb2 hb3 hb4
    go_wp2_with fail
    refine (fsame_yes k ⟨v.toArray⟩ _).mono ?_
    rintro e w5 ⟨rfl, hb6⟩
    cases z
    · go_wp2_with fail
      refine (awake_any _).mono ?_
      rintro e w6 ⟨rfl, hb7⟩
      go_wp2_with fail
      go_ret
      exact ⟨rfl, hb5.trans ((hb6.trans (hb7.mono hb6.size)).mono hb5.size)⟩
    · go_wp2_with fail
      refine (awake_any _).mono ?_
      rintro e w6 ⟨rfl, hb7⟩
      go_wp2_with fail
      go_ret
      exact ⟨rfl, hb5.trans ((hb6.trans (hb7.mono hb6.size)).mono hb5.size)⟩
  · go_enter Try.func4, Try.ntmps4
    go_wp2_with fail
    refine (awake_any _).mono ?_
    rintro e w2 ⟨rfl, hb2⟩
    go_wp2_with fail
    go_ret
    exact ⟨rfl, hb2⟩

theorem cells_u8 : Try.prog.cellsOf 5 = 1 := by kernel_rfl
theorem own : ownKnob Try.prog.godebug = none := by kernel_rfl
theorem laidOut : laidOutB Try.prog = true := by kernel_rfl
theorem contract (H : Type) (enc : TypeId × Value → H) (W : World) (base : Nat) (args : Array Value) (ds gs : List (DataW H)) (before : List MemPlace)
    (hval : ∀ (j : Nat) t v, Try.f4.params[j]? = some t → args[j]? = some v → Value.okWide Try.prog W .any base t v)
    (hW : DataW.Whole enc Try.prog Try.f4.params.toList Rows.fieldsDecodeSpec.vars false W args.toList ds gs before) :
    Calls Try.prog 4 args W fun e W' => ∃ v, e = .returned v ∧ Rows.fieldsDecodeSpec.post enc Try.prog Try.f4 false true false false W args v W' := by
  have hW' := hW
  obtain ⟨p, q, hA0, hV, rfl, hfz, hnd⟩ := hW
  have hA : DataW.TrodAll enc Try.prog W 0 (fun _ => true) true Try.f4.params.toList args.toList ds p := hA0
  rw [Try.params4] at hA hval
  obtain ⟨v0, vs0, d0, ds0, p0, q0, hargs, rfl, rfl, h0, r0⟩ := trodAll_cons hA
  obtain ⟨rfl, rfl, rfl⟩ := trodAll_nil r0
  obtain rfl : args = #[v0] := by cases args; simp_all
  obtain ⟨A0, n0, c0, l0, rfl, hn0, hr0, hc0, hm0, hk0⟩ := open_bytes Try.underlying31 Try.underlying5 cells_u8 (hval 0 31 v0 rfl rfl) h0
  clear hA0
  refine (walk A0 n0 c0 l0 hn0 hc0 hm0 hk0 W hr0).mono fun e W' ⟨he, hb⟩ => ?_
  subst he
  exact ⟨_, rfl, law_post laidOut (types_fit (by kernel_rfl)) (by kernel_rfl) Try.underlying4 rfl (fun xs hx => by
    match xs, hx with
    | [_], _ => rfl) hW' hb⟩

theorem lifted (os : Os) (started : os.Started) (H : Type) (enc : TypeId × Value → H) :
    ReturnsInHanded {} Try.checked os 4 .any (Rows.fieldsDecodeSpec.pre6 enc Try.prog Try.f4 Rows.fieldsDecodeRow.domain false) (Rows.fieldsDecodeSpec.post enc Try.prog Try.f4 false true false false) := by
  refine returnsInHanded_of_change (C := Try.checked) own started (by kernel_rfl) Try.func4
    (ChangeSpec.witness6 (enc := enc) (C := Try.checked) false ⟨#[], #[.slice none 0 0], []⟩ 8 (by kernel_rfl) (by kernel_rfl) (by kernel_rfl) (by kernel_rfl)) ?_
  intro W base args ds gs before hval hW _ _
  exact contract H enc W base args ds gs before hval hW

theorem proved : Rows.FieldsDecodeSaid :=
  OpenClaim.holds_of_wide 4 Try.f4 rfl rfl rfl rfl rfl rfl rfl ⟨rfl, rfl, rfl, rfl, rfl⟩ rfl rfl rfl rfl rfl (by kernel_rfl) Try.func4 (by kernel_rfl)
    (of_decide_eq_true (by kernel_rfl)) (by unfold Func.isWrapper; first | (rw [if_pos (by decide +kernel)]; kernel_rfl) | (rw [if_neg (by decide +kernel)]; exact ⟨rfl, rfl⟩))
    (fun os started H enc _ => lifted os started H enc)
end Go.Proofs.Ytkhdldemhaifpaa.fieldsDecode
