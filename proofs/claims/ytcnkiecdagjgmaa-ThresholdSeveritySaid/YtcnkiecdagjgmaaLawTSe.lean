/- ThresholdSeverity holds for every input: the severity is the greatest one of the bits, and does not fall when a bit is added. No condition. -/
import Derived.Test.YtcnkiecdagjgmaaYg
import Derived.Test.YtcnkiecdagjgmaaMade
import Derived.Test.YtcnkiecdagjgmaaLaw2
namespace Go.Proofs.Ytcnkiecdagjgmaa.thresholdSeverity
open Go.RowKit Go.ChangeShapes Go.WideShapes Go.ChangeAt Go.Proofs.Ytcnkiecdagjgmaa.Mem Go.Proofs.Ytcnkiecdagjgmaa.Ya Go.Proofs.Ytcnkiecdagjgmaa.Law
set_option maxRecDepth 100000
set_option maxHeartbeats 1000000

theorem facts (x k : Nat) (hx : x < 256) (hk : k < 6) : 0 ≤ sev x ∧ sev x ≤ 3 ∧ sev x ≤ sev (x ||| 2 ^ k) ∧ sev (x ||| 2 ^ k) = max (sev x) ((k : Int) % 3 + 1) ∧ sev (x &&& 63) = sev x ∧ (sev x = 0 ↔ x &&& 63 = 0) := by
  have : ∀ x : Fin 256, ∀ k : Fin 6, 0 ≤ sev x.val ∧ sev x.val ≤ 3 ∧ sev x.val ≤ sev (x.val ||| 2 ^ k.val) ∧ sev (x.val ||| 2 ^ k.val) = max (sev x.val) ((k.val : Int) % 3 + 1) ∧ sev (x.val &&& 63) = sev x.val ∧ (sev x.val = 0 ↔ x.val &&& 63 = 0) := by decide +kernel
  exact this ⟨x, hx⟩ ⟨k, hk⟩
theorem walk (x : Int) (hx : 0 ≤ x ∧ x ≤ 255) (b : Int) (hb : -9223372036854775808 ≤ b ∧ b ≤ 9223372036854775807) (w : World) :
    Calls Try.prog 8 #[.int .u8 x, .int .i64 b] w fun e w' => e = .returned (.bool true) ∧ Below w.heap.size w w' := by
  obtain ⟨n, rfl⟩ : ∃ n : Nat, x = (n : Int) := ⟨x.toNat, by omega⟩
  have hn : n < 256 := by omega
  have HM := Lib.hid fun (u : World) => Made.mod_any b 6 u hb.1 hb.2 (by omega) (by omega)
  have HAW := Lib.hid fun (u : World) => awake_q u
  have HF := Lib.hid fun k hk => facts n k hn hk
  have HS := Lib.hid fun (m : Nat) (hm : m < 256) (u : World) => sev_q m hm u
  have h63 : bits .and .u8 (n : Int) 63 = ((n &&& 63 : Nat) : Int) := and_u8 n 63 hn (by omega)
  have h63l : n &&& 63 < 256 := Nat.and_lt_two_pow (n := 8) _ (by omega)
  have hor := fun k (hk : k < 6) => or_u8 n (2 ^ k) hn (by have : 2 ^ k ≤ 2 ^ 5 := Nat.pow_le_pow_right (by omega) (by omega); omega)
  have hpl : ∀ k, k < 6 → 2 ^ k < 64 := fun k hk => by have : 2 ^ k ≤ 2 ^ 5 := Nat.pow_le_pow_right (by omega) (by omega); omega
  have HOR := Lib.hid hor
  have HPL := Lib.hid hpl
  clear hor hpl hx
  go_enter Try.func8, Try.ntmps8
  go_wp2_with fail
  refine (HM.out _).mono ?_
  rintro e w2 ⟨⟨k, hk, rfl, -⟩, rfl⟩
  clear hb
  have hor := HOR.out k hk
  rw [← pow_mod k (HPL.out k hk)] at hor
  have horl : n ||| 2 ^ k < 256 := Nat.or_lt_two_pow (n := 8) (by omega) (by have := HPL.out k hk; omega)
  obtain ⟨f1, f2, f3, f4, f5, f6⟩ := HF.out k hk
  have HA := Lib.hid fun u => HS.out n hn u
  have HB := Lib.hid fun u => HS.out _ horl u
  have HC := Lib.hid fun u => HS.out _ h63l u
  rw [f5] at HC
  generalize n ||| 2 ^ k = y at *
  generalize sev n = a at *
  generalize sev y = bb at *
  generalize n &&& 63 = z at *
  clear HS HF HM HOR HPL horl h63l f5
  go_wp2_with fail
  refine (HA.out _).mono ?_
  rintro e w2 ⟨rfl, rfl⟩
  go_wp2_with fail
  refine (HB.out _).mono ?_
  rintro e w2 ⟨rfl, rfl⟩
  have k1 : decide (0 ≤ a) = true := decide_eq_true f1
  have k2 : decide (a ≤ 3) = true := decide_eq_true f2
  have k3 : decide (a ≤ bb) = true := decide_eq_true f3
  go_wp2_with fail
  all_goals
    refine (HC.out _).mono ?_
    rintro e w2 ⟨rfl, rfl⟩
    by_cases hz : z = 0
    · have ha := f6.2 hz
      subst hz
      subst ha
      go_wp2_with fail
      refine (HAW.out _).mono ?_
      rintro e w3 ⟨rfl, hb3⟩
      go_wp2_with fail
      go_ret
      exact ⟨rfl, hb3⟩
    · have ha : ((a == 0) : Bool) = false := by
        rw [beq_eq_false_iff_ne]; exact fun h => hz (f6.1 h)
      have hz2 : (((z : Int) == 0) : Bool) = false := by
        rw [beq_eq_false_iff_ne]; omega
      go_wp2_with fail
      refine (HAW.out _).mono ?_
      rintro e w3 ⟨rfl, hb3⟩
      go_wp2_with fail
      go_ret
      exact ⟨rfl, hb3⟩

theorem cells_u8 : Try.prog.cellsOf 5 = 1 := by kernel_rfl
theorem own : ownKnob Try.prog.godebug = none := by kernel_rfl
theorem laidOut : laidOutB Try.prog = true := by kernel_rfl
theorem contract (H : Type) (enc : TypeId × Value → H) (W : World) (base : Nat) (args : Array Value) (ds gs : List (DataW H)) (before : List MemPlace)
    (hval : ∀ (j : Nat) t v, Try.f8.params[j]? = some t → args[j]? = some v → Value.okWide Try.prog W .any base t v)
    (hW : DataW.Whole enc Try.prog Try.f8.params.toList Rows.thresholdSeveritySpec.vars false W args.toList ds gs before) :
    Calls Try.prog 8 args W fun e W' => ∃ v, e = .returned v ∧ Rows.thresholdSeveritySpec.post enc Try.prog Try.f8 false true false false W args v W' := by
  have hW' := hW
  obtain ⟨p, q, hA0, hV, rfl, hfz, hnd⟩ := hW
  have hA : DataW.TrodAll enc Try.prog W 0 (fun _ => true) true Try.f8.params.toList args.toList ds p := hA0
  rw [Try.params8] at hA hval
  obtain ⟨v0, vs0, d0, ds0, p0, q0, hargs, rfl, rfl, h0, r0⟩ := trodAll_cons hA
  obtain ⟨v1, vs1, d1, ds1, p1, q1, rfl, rfl, rfl, h1, r1⟩ := trodAll_cons r0
  obtain ⟨rfl, rfl, rfl⟩ := trodAll_nil r1
  obtain rfl : args = #[v0, v1] := by cases args; simp_all
  obtain ⟨a0, rfl, -, -, w0⟩ := open_int Try.underlying5 (hval 0 5 v0 rfl rfl) h0
  obtain ⟨a1, rfl, -, -, w1⟩ := open_int Try.underlying3 (hval 1 3 v1 rfl rfl) h1
  clear hA0
  refine (walk a0 (bounds_u8 w0) a1 (bounds_i64 w1) W ).mono fun e W' ⟨he, hb⟩ => ?_
  subst he
  exact ⟨_, rfl, law_post laidOut (types_fit (by kernel_rfl)) (by kernel_rfl) Try.underlying4 rfl (fun xs hx => by
    match xs, hx with
    | [_, _], _ => rfl) hW' hb⟩

theorem lifted (os : Os) (started : os.Started) (H : Type) (enc : TypeId × Value → H) :
    ReturnsInHanded {} Try.checked os 8 .any (Rows.thresholdSeveritySpec.pre6 enc Try.prog Try.f8 Rows.thresholdSeverityRow.domain false) (Rows.thresholdSeveritySpec.post enc Try.prog Try.f8 false true false false) := by
  refine returnsInHanded_of_change (C := Try.checked) own started (by kernel_rfl) Try.func8
    (ChangeSpec.witness6 (enc := enc) (C := Try.checked) false ⟨#[], #[.int .u8 0, .int .i64 0], []⟩ 8 (by kernel_rfl) (by kernel_rfl) (by kernel_rfl) (by kernel_rfl)) ?_
  intro W base args ds gs before hval hW _ _
  exact contract H enc W base args ds gs before hval hW

theorem proved : Rows.ThresholdSeveritySaid :=
  OpenClaim.holds_of_wide 8 Try.f8 rfl rfl rfl rfl rfl rfl rfl ⟨rfl, rfl, rfl, rfl, rfl⟩ rfl rfl rfl rfl rfl (by kernel_rfl) Try.func8 (by kernel_rfl)
    (of_decide_eq_true (by kernel_rfl)) (by unfold Func.isWrapper; first | (rw [if_pos (by decide +kernel)]; kernel_rfl) | (rw [if_neg (by decide +kernel)]; exact ⟨rfl, rfl⟩))
    (fun os started H enc _ => lifted os started H enc)
end Go.Proofs.Ytcnkiecdagjgmaa.thresholdSeverity
