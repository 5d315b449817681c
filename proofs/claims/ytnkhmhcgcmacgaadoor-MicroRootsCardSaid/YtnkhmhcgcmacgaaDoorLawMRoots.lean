/- MicroRoots holds for every input: a root is rounded down, and the root of a square is the number itself. Condition: the tables of the standard library that the row lists hold what the program lays in them, which the card ties to its text. -/
import Derived.Test.YtnkhmhcgcmacgaaDoorLaid
import Derived.Test.YtnkhmhcgcmacgaaDoorAw3
import Derived.Test.YtnkhmhcgcmacgaaDoorMn
namespace Go.Proofs.YtnkhmhcgcmacgaaDoor.microRoots
open Go.RowKit Go.ChangeShapes Go.WideShapes Go.ChangeAt Go.Proofs.YtnkhmhcgcmacgaaDoor.Mem Go.Proofs.YtnkhmhcgcmacgaaDoor.M3p Go.Proofs.YtnkhmhcgcmacgaaDoor.M3r Go.Proofs.YtnkhmhcgcmacgaaDoor.M3w Go.Proofs.YtnkhmhcgcmacgaaDoor.F2p Go.Proofs.YtnkhmhcgcmacgaaDoor.Made Go.Proofs.YtnkhmhcgcmacgaaDoor.Law Go.Proofs.YtnkhmhcgcmacgaaDoor.Laid
set_option maxRecDepth 100000
set_option maxHeartbeats 4000000

theorem square (j : Nat) (h : j ≤ 1000000) : mulS ((j : Int) * 1000) ((j : Int) * 1000) = ((j * j : Nat) : Int) := by
  have hj := Nat.mul_le_mul h h
  have e : (j : Int) * 1000 * ((j : Int) * 1000) = ((j * j : Nat) : Int) * 1000000 := by push_cast; rw [Int.mul_assoc, Int.mul_comm 1000, Int.mul_assoc (j : Int) 1000, Int.mul_assoc]; rfl
  unfold mulS
  rw [clp_in (v := (j : Int) * 1000) (by unfold lim; omega) (by unfold lim; omega), e, show one = 1000000 by rfl, Int.mul_ediv_cancel _ (by decide)]
  exact clp_in (by unfold lim; omega) (by unfold lim; omega)
theorem square_root {j r : Nat} (h : j ≤ 1000000) (hr : isRoot (clp ((j * j : Nat) : Int) * 1000000).toNat r) : r = j * 1000 := by
  have hj := Nat.mul_le_mul h h
  rw [clp_in (v := ((j * j : Nat) : Int)) (by unfold lim; omega) (by unfold lim; omega)] at hr
  have e : (((j * j : Nat) : Int) * 1000000).toNat = j * j * 1000000 := by omega
  rw [e] at hr
  have e2 : (j * 1000) * (j * 1000) = j * j * 1000000 := by rw [Nat.mul_assoc, Nat.mul_left_comm 1000, ← Nat.mul_assoc, ← Nat.mul_assoc, Nat.mul_assoc (j * j)]
  refine root_one hr ⟨by omega, ?_⟩
  have : (j * 1000 + 1) * (j * 1000 + 1) = j * 1000 * (j * 1000) + j * 1000 + j * 1000 + 1 := by rw [Nat.add_mul, Nat.mul_add, Nat.one_mul, Nat.mul_one]; omega
  omega
theorem walk (v : Int) (hv : -9223372036854775808 ≤ v ∧ v ≤ 9223372036854775807) (n : Int) (hn : -9223372036854775808 ≤ n ∧ n ≤ 9223372036854775807) (w : World) (htab : PowTab w) :
    Calls Tryd.prog 10 #[.int .i64 v, .int .i64 n] w fun e w' => e = .returned (.bool true) ∧ Below w.heap.size w w' := by
  obtain ⟨x1, x2⟩ := clp_le v
  have c1 := Lib.hid (fun u => clamp_p v u)
  have c5 := Lib.hid (fun u => rootn_p (min v (-1)) u (by omega))
  have haw := Lib.hid (fun u hu => awake_any u hu)
  generalize clp v = x at *
  have c2 := Lib.hid (fun u => by have := root_p (max x 0) u (by omega); rw [clp_in (v := max x 0) (by unfold lim at *; omega) (by unfold lim at *; omega)] at this; exact this)
  unfold lim at x1 x2
  go_enter Tryd.func10, Tryd.ntmps10
  go_wp2_with fail
  refine (c1.out _).mono ?_
  rintro e w' ⟨rfl, rfl⟩
  go_wp2_with fail
  refine (c2.out _).mono ?_
  rintro e w' ⟨⟨r, rfl, hr, hr9⟩, rfl⟩
  obtain ⟨hr1, hr2⟩ := hr
  have hrr := Nat.mul_le_mul hr9 hr9
  have hr3 : (r + 1) * (r + 1) = r * r + r + r + 1 := by rw [Nat.add_mul, Nat.mul_add, Nat.one_mul, Nat.mul_one]; omega
  obtain ⟨P, hP⟩ : ∃ P : Nat, P = r * r := ⟨_, rfl⟩
  have hPI : (r : Int) * (r : Int) = (P : Int) := by rw [hP]; push_cast; rfl
  have hP2I : ((r : Int) + 1) * ((r : Int) + 1) = ((P + r + r + 1 : Nat) : Int) := by rw [hP, ← hr3]; push_cast; rfl
  obtain ⟨Q, hQ⟩ : ∃ Q : Nat, Q = P + r + r + 1 := ⟨_, rfl⟩
  rw [← hQ] at hP2I
  rw [hr3, ← hP, ← hQ] at hr2
  rw [← hP] at hr1 hrr
  have z1 : (P : Int) ≤ max x 0 * 1000000 := by omega
  have z2 : max x 0 * 1000000 < (Q : Int) := by omega
  have z3 : Q ≤ 1000000002000000001 := by omega
  have z4 : 0 ≤ max x 0 * 1000000 := by omega
  have z5 : max x 0 * 1000000 ≤ 1000000000000000000 := by omega
  clear hr1 hr2 hr3 hP hQ
  go_wp2_with fail
  refine (mod_at n 1000001 1000001 _ rfl hn.1 hn.2 (by omega) (by omega)).mono ?_
  rintro e w' ⟨j, hj, rfl, rfl⟩
  have hj6 : j ≤ 1000000 := by omega
  have c3 := Lib.hid (fun u => by have := mul_p ((j : Int) * 1000) ((j : Int) * 1000) u; rw [square j hj6] at this; exact this)
  have c4 := Lib.hid (fun u => root_p ((j * j : Nat) : Int) u (by omega))
  have hsq := Lib.hid (fun r hr => square_root (j := j) (r := r) hj6 hr)
  have hjj := Nat.mul_le_mul hj6 hj6
  generalize j * j = J at *
  go_wp2_with fail
  refine (c3.out _).mono ?_
  rintro e w' ⟨rfl, rfl⟩
  go_wp2_with fail
  refine (c4.out _).mono ?_
  rintro e w' ⟨⟨q, rfl, hq, hq9⟩, rfl⟩
  have hqj := hsq.out q hq
  have hqI : (q : Int) = (j : Int) * 1000 := by omega
  clear hq hqj
  go_wp2_with fail
  refine (c5.out _).mono ?_
  rintro e w' ⟨rfl, rfl⟩
  go_wp2_with fail
  refine (haw.out _ htab).mono ?_
  rintro e w' ⟨rfl, hbA⟩
  go_wp2_with fail
  go_ret
  exact ⟨rfl, hbA⟩

theorem cells_u8 : Tryd.prog.cellsOf 5 = 1 := by kernel_rfl
theorem own : ownKnob Tryd.prog.godebug = none := by kernel_rfl
theorem laidOut : laidOutB Tryd.prog = true := by kernel_rfl
theorem contract (H : Type) (enc : TypeId × Value → H) (W : World) (base : Nat) (args : Array Value) (ds gs : List (DataW H)) (before : List MemPlace)
    (hval : ∀ (j : Nat) t v, Tryd.f10.params[j]? = some t → args[j]? = some v → Value.okWide Tryd.prog W .any base t v)
    (hW : DataW.Whole enc Tryd.prog Tryd.f10.params.toList Rows.microRootsSpec.vars false W args.toList ds gs before) (htab : M3w.PowTab W) :
    Calls Tryd.prog 10 args W fun e W' => ∃ v, e = .returned v ∧ Rows.microRootsSpec.post enc Tryd.prog Tryd.f10 false true false false W args v W' := by
  have hW' := hW
  obtain ⟨p, q, hA0, hV, rfl, hfz, hnd⟩ := hW
  have hA : DataW.TrodAll enc Tryd.prog W 0 (fun _ => true) true Tryd.f10.params.toList args.toList ds p := hA0
  rw [Tryd.params10] at hA hval
  obtain ⟨v0, vs0, d0, ds0, p0, q0, hargs, rfl, rfl, h0, r0⟩ := trodAll_cons hA
  obtain ⟨v1, vs1, d1, ds1, p1, q1, rfl, rfl, rfl, h1, r1⟩ := trodAll_cons r0
  obtain ⟨rfl, rfl, rfl⟩ := trodAll_nil r1
  obtain rfl : args = #[v0, v1] := by cases args; simp_all
  obtain ⟨a0, rfl, -, -, w0⟩ := open_int Tryd.underlying2 (hval 0 2 v0 rfl rfl) h0
  obtain ⟨a1, rfl, -, -, w1⟩ := open_int Tryd.underlying3 (hval 1 3 v1 rfl rfl) h1
  clear hA0
  refine (walk a0 (bounds_i64 w0) a1 (bounds_i64 w1) W  htab).mono fun e W' ⟨he, hb⟩ => ?_
  subst he
  exact ⟨_, rfl, law_post laidOut (types_fit (by kernel_rfl)) (by kernel_rfl) Tryd.underlying4 rfl (fun xs hx => by
    match xs, hx with
    | [_, _], _ => rfl) hW' hb⟩

theorem lifted (os : Os) (started : os.Started) (H : Type) (enc : TypeId × Value → H) :
    ReturnsInHanded {} Tryd.checked os 10 .any (fun w args => (Rows.microRootsSpec.pre enc Tryd.prog Tryd.f10 Rows.microRootsRow.domain false w args ∧ laidMetH Tryd.prog Laid.laid3 w) ∧ sizedMet enc Tryd.prog Tryd.f10 (OpenSpec.ofChange Rows.microRootsSpec) false w args) (Rows.microRootsSpec.post enc Tryd.prog Tryd.f10 false true false false) := by
  refine returnsInHanded_of_change_and (C := Tryd.checked) (X := fun w _ => laidMetH Tryd.prog Laid.laid3 w) (fun _ _ _ hh h => h.of_heap hh) own started (by kernel_rfl) Tryd.func10
    (ChangeSpec.witness_shaped (enc := enc) (C := Tryd.checked) (os := os) (X := fun w _ => laidMetH Tryd.prog Laid.laid3 w) false (World.doorLaid Tryd.prog 400 os) #[.int .i64 0, .int .i64 0] 8 rfl (World.shaped_of_RefB (by kernel_rfl) (by kernel_rfl)) (by kernel_rfl) (by kernel_rfl) (by kernel_rfl) (Laid.door_met os _)) ?_
  intro W base args ds gs before hval hW _ _ hL _
  exact contract H enc W base args ds gs before hval hW (Laid.tab_of hL)

theorem bare : Rows.MicroRootsSaid :=
  OpenClaim.holds_of_wide 10 Tryd.f10 rfl rfl rfl rfl rfl rfl rfl ⟨rfl, rfl, rfl, rfl, rfl⟩ rfl rfl rfl rfl rfl (by kernel_rfl) Tryd.func10 (by kernel_rfl)
    (of_decide_eq_true (by kernel_rfl)) (by unfold Func.isWrapper; first | (rw [if_pos (by decide +kernel)]; kernel_rfl) | (rw [if_neg (by decide +kernel)]; exact ⟨rfl, rfl⟩))
    (fun os started H enc _ => lifted os started H enc)
theorem proved : Rows.MicroRootsCardSaid :=
  Claim7.holds_tied_plain_at .later [] [.data, .data, .data] true (true, Rows.microRootsCard.stood.harness.2) false
    bare (fun _ h => by cases h) (by kernel_rfl) (fun _ h => by cases h) microRoots_row_tie rfl ⟨rfl, rfl⟩ (by kernel_rfl) rfl
    (fun f fn hf hfn => by
      obtain rfl : f = 10 := Option.some.inj ((show Tryd.prog.funcNamed "baseboard/baseboardlaw03.MicroRoots" = some 10 by kernel_rfl).symm.trans hf) |>.symm
      obtain rfl : fn = Tryd.f10 := (Option.some.inj (Tryd.func10.symm.trans hfn)).symm
      exact ⟨by kernel_rfl, fun j t ht => by
        rw [Tryd.params10] at ht
        have hm : t ∈ [2, 3] := by simpa using Array.mem_of_getElem? ht
        have hall : ([2, 3].all fun u => !Tryd.prog.wantsStandIn u) = true := by kernel_rfl
        exact (show Tryd.prog.wantsStandIn t = false by simpa using List.all_eq_true.1 hall t hm)⟩)
    (by kernel_rfl)
end Go.Proofs.YtnkhmhcgcmacgaaDoor.microRoots
