/- FlashSteps holds for every input: each byte and each erasure is one step, and a device that is not armed never loses its power. No condition. -/
import Derived.Test.YtkmkpidoajfhmaaE5e
import Derived.Test.YtkmkpidoajfhmaaLaw
namespace Go.Proofs.Ytkmkpidoajfhmaa.flashSteps
open Go.RowKit Go.ChangeShapes Go.WideShapes Go.ChangeAt Go.Proofs.Ytkmkpidoajfhmaa.Mem Go.Proofs.Ytkmkpidoajfhmaa.E5p Go.Proofs.Ytkmkpidoajfhmaa.E5m Go.Proofs.Ytkmkpidoajfhmaa.E5a Go.Proofs.Ytkmkpidoajfhmaa.E5d Go.Proofs.Ytkmkpidoajfhmaa.Made Go.Proofs.Ytkmkpidoajfhmaa.Law
set_option maxRecDepth 100000
set_option maxHeartbeats 1000000

/-- The device behind the two calls of Arm. -/
def idle (s : Fl) : Fl := { s with left := 0, torn := 0 }
theorem arm2 (s : Fl) (h : s.down = false) (t : Int) (ht : 0 ≤ t) : (s.arm 5 0).arm (-t) 0 = idle s := by
  have e : (-t).toNat = 0 := by omega
  simp [Fl.arm, h, idle, e]
theorem sum_set : ∀ (l : List Int) (k : Nat), k < l.length → (l.set k (l.getD k 0 + 1)).sum = l.sum + 1
  | [], _, h => absurd h (by simp)
  | x :: l, 0, _ => by simp [List.sum_cons]; omega
  | x :: l, k + 1, h => by
    have := sum_set l k (by simpa using h)
    simp only [List.set_cons_succ, List.sum_cons, List.getD_cons_succ, this]
    omega
theorem sum_bd (M : Int) : ∀ (l : List Int), (∀ x ∈ l, 0 ≤ x ∧ x ≤ M) → 0 ≤ l.sum ∧ l.sum ≤ (l.length : Int) * M
  | [], _ => by simp
  | x :: l, h => by
    have h1 := sum_bd M l (fun y hy => h y (List.mem_cons_of_mem _ hy))
    have h2 := h x List.mem_cons_self
    rw [List.sum_cons, List.length_cons]
    push_cast
    rw [Int.add_mul]
    omega
/-- What the first loop keeps. -/
structure Good (s : Fl) (v : Nat) : Prop where
  up : s.down = false
  three : s.wear.length = 3
  size : s.size = 64
  sum : s.wear.sum = (v : Int)
theorem good_program {s : Fl} {v m : Nat} (h : Good s v) (ok : s.Ok m) (r : Nat) (hr : r < 90) (b : List UInt8) (hb : b.length = r) : ((idle s).program (r : Int) b).2 = 0 ∧ Good ((idle s).program (r : Int) b).1 v ∧ ((idle s).program (r : Int) b).1.steps = s.steps + r := by
  have hl := ok.len
  rw [h.three, h.size] at hl
  have e1 : (idle s).fits (r : Int) (b.length : Int) = true := by
    have : (idle s).bytes.length = 192 := hl
    simp [Fl.fits, this, hb]; omega
  have e2 : (idle s).holds b.length = true := by simp [Fl.holds, idle]
  have e3 : (idle s).program (r : Int) b = ((idle s).prog r b, 0) := by
    unfold Fl.program
    rw [show (idle s).down = false from h.up, e1, e2]
    rfl
  have e4 : (idle s).prog r b = { idle s with bytes := andAt s.bytes r b, steps := s.steps + r, left := 0 } := by
    unfold Fl.prog
    rw [e2, hb]
    simp [idle]
  rw [e3, e4]
  exact ⟨rfl, ⟨h.up, h.three, h.size, h.sum⟩, rfl⟩
theorem good_erase {s : Fl} {v : Nat} (h : Good s v) (r : Nat) : ((idle s).erase ((r : Int) % 3)).2 = 0 ∧ Good ((idle s).erase ((r : Int) % 3)).1 (v + 1) ∧ ((idle s).erase ((r : Int) % 3)).1.steps = s.steps + 1 := by
  have hl : (idle s).last = false := by simp [Fl.last, idle]
  have hk : r % 3 < s.wear.length := by rw [h.three]; omega
  have e1 : (idle s).inside ((r : Int) % 3) = true := by
    have : (idle s).wear.length = 3 := h.three
    simp [Fl.inside, this]; omega
  have e3 : (idle s).erase ((r : Int) % 3) = ((idle s).clear (r % 3), 0) := by
    unfold Fl.erase
    rw [show (idle s).down = false from h.up, e1, hl, show ((r : Int) % 3).toNat = r % 3 by omega]
    rfl
  rw [e3]
  refine ⟨rfl, ⟨hl, ?_, h.size, ?_⟩, rfl⟩
  · show (s.wear.set _ _).length = 3
    rw [List.length_set]; exact h.three
  · show (s.wear.set (r % 3) (s.wear.getD (r % 3) 0 + 1)).sum = _
    rw [sum_set _ _ hk, h.sum]; rfl

theorem walk (A : Option Addr) (n c : Nat) (l : List Int) (hn : n = l.length) (hw : ∀ x ∈ l, -9223372036854775808 ≤ x ∧ x ≤ 9223372036854775807) (hc : n ≤ c) (_hm : c ≤ maxLen) (_hA : A = none → c = 0)
    (w : World) (hr : IRow w.heap.size w A l) :
    Calls Try.prog 9 #[.slice A n c] w fun e w' => e = .returned (.bool true) ∧ Below w.heap.size w w' := by
  have HN := Lib.hid hn; clear hn
  by_cases h60 : 60 < n
  · have g : decide (60 < (n : Int)) = true := by simp; omega
    go_enter Try.func9, Try.ntmps9
    go_wp2_with fail
    refine (awake_any w).mono ?_
    rintro e w1 ⟨rfl, hb⟩
    go_wp2_with fail
    go_ret
    exact ⟨rfl, hb⟩
  · have g : decide (60 < (n : Int)) = false := by simp; omega
    have HW := Lib.hid hw; clear hw
    go_enter Try.func9, Try.ntmps9
    go_wp2_with fail
    refine (At.new 3 64 (by omega) (by omega) (by omega) (by omega) w.heap.size w w (Below.refl _ _) (Nat.le_refl _)).mono ?_
    rintro e w1 ⟨d, rfl, h1, hb1, -⟩
    go_wp2_with fail
    go_loopw [5, 6, 7, 8] (fun st wc i _ wr => ∃ (k v : Nat) (s : Fl), k ≤ n ∧ v ≤ k ∧ i = .int .i64 k ∧ st = .int .i64 (s.steps : Int) ∧ wc = .int .i64 (v : Int) ∧ At w.heap.size w wr d s (k * 90) ∧ Good s v) (fun _ _ i _ _ => n - (intOf i).toNat)
    case atStart => exact ⟨0, 0, _, Nat.zero_le _, Nat.le_refl _, rfl, rfl, rfl, h1, ⟨rfl, rfl, rfl, by decide⟩⟩
    case round =>
      obtain ⟨k, v, s, hk, hv, rfl, rfl, rfl, hat, hgood⟩ := hrel
      have hst := hat.ok.steps
      by_cases hlt : k < n
      · have hkl : k < l.length := by have := HN.out; omega
        obtain ⟨a, rfl, ha, hcw⟩ := irow_at hr hkl
        obtain ⟨z1, z2⟩ := HW.out _ (List.getElem_mem hkl)
        generalize l[k] = z at *
        have hcell := (hat.low.cell (p := a.add k) (by rw [add_block]; exact ha)).trans hcw
        have b1 : (0 : Int) ≤ (k : Int) := by omega
        have b2 : (k : Int) < (n : Int) := by omega
        have h90 := fun u => mod_any z 90 u z1 z2 (by omega) (by omega)
        have h3 := fun u => mod_any z 3 u z1 z2 (by omega) (by omega)
        have H90 := Lib.hid h90; have H3 := Lib.hid h3; have HC := Lib.hid hcw; clear h90 h3 hcw
        go_wp2_with fail
        refine (H90.out _).mono ?_
        rintro e w2 ⟨⟨r, hr90, rfl, -⟩, rfl⟩
        clear H90
        go_wp2_with fail
        refine (hat.arm 5 0 (by omega) (by omega)).mono ?_
        rintro e w2 ⟨rfl, hat2, hk2⟩
        clear hcell
        have hcell := (hat2.low.cell (p := a.add k) (by rw [add_block]; exact ha)).trans HC.out
        go_wp2_with fail
        refine (H3.out _).mono ?_
        rintro e w3 ⟨⟨t, ht3, rfl, -⟩, rfl⟩
        clear hcell H3 HC
        go_wp2_with fail
        refine (hat2.arm (-(t : Int)) 0 (by omega) (by omega)).mono ?_
        rintro e w3 ⟨rfl, hat3, hk3⟩
        rw [arm2 s hgood.up t (by omega)] at hat3
        by_cases h4 : r % 5 = 4
        · have g4 : ((r : Int) % 5 == 4) = true := by simp; omega
          obtain ⟨q1, q2, q3⟩ := good_erase hgood r
          have he := hat3.erase (by omega) ((r : Int) % 3) (by omega) (by omega)
          unfold Err at he
          rw [q1] at he
          have HE := Lib.hid he; clear he
          have Q1 := Lib.hid q1; have Q3 := Lib.hid q3; clear q1 q3
          clear h4
          go_wp2_with fail
          refine HE.out.mono ?_
          rintro e w4 ⟨rfl, hat4, hk4⟩
          go_wp2_with fail
          exact ⟨⟨k + 1, v + 1, _, by omega, by omega, by go_num, by rw [Q3.out]; go_num, by go_num, ⟨hat4.dev, hat4.ok.more (by omega), hat4.low⟩, q2⟩, by simp [intOf]; omega⟩
        · have g4 : ((r : Int) % 5 == 4) = false := by simp; omega
          obtain ⟨M, hM, hmk⟩ := make_b r (by omega)
          have HM := Lib.hid hM; clear hM h4
          obtain ⟨q1, q2, q3⟩ := good_program hgood hat.ok r hr90 (List.replicate r 0) (by simp)
          have hst : Below w3.heap.size w3 (w3.alloc (.cells M 5)) := (Below.refl _ _).alloc (Nat.le_refl _) _
          have hrow := row_new w3 M 5 (List.replicate r 0) HM.out (B := w3.heap.size + 1) (Nat.lt_succ_self _)
          have he := (hat3.step hst).program (by omega) (some ⟨w3.heap.size, 0, none⟩) r r (List.replicate r 0) ⟨by simp, hrow.more (by simp), Nat.le_refl _, by unfold maxLen; omega, fun hh => by cases hh⟩ (Off.new hat3.dev (Nat.le_refl _)) (r : Int) (by omega) (by omega) (by omega)
          unfold Err at he
          rw [q1] at he
          have HE := Lib.hid he; clear he
          have Q1 := Lib.hid q1; have Q3 := Lib.hid q3; clear q1 q3 hst hrow
          go_wp2_with fail
          refine HE.out.mono ?_
          rintro e w4 ⟨rfl, hat4, hk4⟩
          go_wp2_with fail
          exact ⟨⟨k + 1, v, _, by omega, by omega, by go_num, by rw [Q3.out]; go_num, by go_num, ⟨hat4.dev, hat4.ok.more (by omega), hat4.low⟩, q2⟩, by simp [intOf]; omega⟩
      · obtain rfl : k = n := by omega
        have h3 := hgood.three
        have hsum := hgood.sum
        have hwb := hat.ok.wear
        have HW3 := Lib.hid h3; have HS := Lib.hid hsum; have HB := Lib.hid hwb
        clear h3 hsum hwb
        go_wp2_with fail
        refine (wear_p hat.dev hat.ok).mono ?_
        rintro e w4 ⟨v0, rfl, ho, hb4⟩
        obtain ⟨A', n', c', rfl, hs'⟩ := ISl.of_own ho
        have hn3 : n' = 3 := hs'.len.trans HW3.out
        subst hn3
        have hat4 := hat.step hb4
        go_wp2_with fail
        go_loop [9, 11] (fun sm i => ∃ j : Nat, j ≤ 3 ∧ i = .int .i64 j ∧ sm = .int .i64 (s.wear.take j).sum) (fun _ i => 3 - (intOf i).toNat)
        case atStart => exact ⟨0, by omega, rfl, by simp⟩
        case round =>
          obtain ⟨j, hj, rfl, rfl⟩ := hrel
          have hwb := HB.out
          have hl3 := HW3.out
          have hbd := sum_bd 5400 (s.wear.take j) (fun x hx => by have := hwb x (List.mem_of_mem_take hx); omega)
          have hlj : (s.wear.take j).length = j := by simp; omega
          rw [hlj] at hbd
          by_cases hlt : j < 3
          · have hjl : j < s.wear.length := by omega
            obtain ⟨a, rfl, ha, hcell⟩ := irow_at hs'.row hjl
            have hx := hwb _ (List.getElem_mem hjl)
            have hsn : (s.wear.take (j + 1)).sum = (s.wear.take j).sum + s.wear[j] := by
              rw [List.take_succ_eq_append_getElem hjl, List.sum_append, List.sum_singleton]
            have HS' := Lib.hid hsn; clear hsn hlj hwb hl3
            have b1 : (0 : Int) ≤ (j : Int) := by omega
            have b2 : (j : Int) < 3 := by omega
            generalize (s.wear.take j).sum = S at *
            generalize s.wear[j] = x at *
            go_wp2_with fail
            go_round
            case rel => exact ⟨j + 1, by omega, by go_num, by rw [HS'.out]⟩
            case measure => simp [intOf]; omega
          · obtain rfl : j = 3 := by omega
            have hall : (s.wear.take 3).sum = (v : Int) := by rw [List.take_of_length_le (by omega)]; exact HS.out
            rw [hall]
            clear hall hlj hwb hl3 hbd
            go_wp2_with fail
            refine (steps_p hat4.dev).mono ?_
            rintro e w5 ⟨rfl, rfl⟩
            go_wp2_with fail
            refine (awake_any w4).mono ?_
            rintro e w5 ⟨rfl, hb5⟩
            go_wp2_with fail
            go_ret
            exact ⟨rfl, (hat4.step hb5).low⟩

theorem cells_u8 : Try.prog.cellsOf 5 = 1 := by kernel_rfl
theorem cells_int : Try.prog.cellsOf 3 = 1 := by kernel_rfl
theorem own : ownKnob Try.prog.godebug = none := by kernel_rfl
theorem laidOut : laidOutB Try.prog = true := by kernel_rfl
theorem contract (H : Type) (enc : TypeId × Value → H) (W : World) (base : Nat) (args : Array Value) (ds gs : List (DataW H)) (before : List MemPlace)
    (hval : ∀ (j : Nat) t v, Try.f9.params[j]? = some t → args[j]? = some v → Value.okWide Try.prog W .any base t v)
    (hW : DataW.Whole enc Try.prog Try.f9.params.toList Rows.flashStepsSpec.vars false W args.toList ds gs before) :
    Calls Try.prog 9 args W fun e W' => ∃ v, e = .returned v ∧ Rows.flashStepsSpec.post enc Try.prog Try.f9 false true false false W args v W' := by
  have hW' := hW
  obtain ⟨p, q, hA0, hV, rfl, hfz, hnd⟩ := hW
  have hA : DataW.TrodAll enc Try.prog W 0 (fun _ => true) true Try.f9.params.toList args.toList ds p := hA0
  rw [Try.params9] at hA hval
  obtain ⟨v0, vs0, d0, ds0, p0, q0, hargs, rfl, rfl, h0, r0⟩ := trodAll_cons hA
  obtain ⟨rfl, rfl, rfl⟩ := trodAll_nil r0
  obtain rfl : args = #[v0] := by cases args; simp_all
  obtain ⟨A0, n0, c0, l0, rfl, hn0, hr0, hw0, hc0, hm0, hk0⟩ := open_int_list Try.underlying46 Try.underlying3 cells_int (hval 0 46 v0 rfl rfl) h0
  clear hA0
  refine (walk A0 n0 c0 l0 hn0 hw0 hc0 hm0 hk0 W hr0).mono fun e W' ⟨he, hb⟩ => ?_
  subst he
  exact ⟨_, rfl, law_post laidOut (types_fit (by kernel_rfl)) (by kernel_rfl) Try.underlying4 rfl (fun xs hx => by
    match xs, hx with
    | [_], _ => rfl) hW' hb⟩

theorem lifted (os : Os) (started : os.Started) (H : Type) (enc : TypeId × Value → H) :
    ReturnsInHanded {} Try.checked os 9 .any (Rows.flashStepsSpec.pre6 enc Try.prog Try.f9 Rows.flashStepsRow.domain false) (Rows.flashStepsSpec.post enc Try.prog Try.f9 false true false false) := by
  refine returnsInHanded_of_change (C := Try.checked) own started (by kernel_rfl) Try.func9
    (ChangeSpec.witness6 (enc := enc) (C := Try.checked) false ⟨#[], #[.slice none 0 0], []⟩ 8 (by kernel_rfl) (by kernel_rfl) (by kernel_rfl) (by kernel_rfl)) ?_
  intro W base args ds gs before hval hW _ _
  exact contract H enc W base args ds gs before hval hW

theorem proved : Rows.FlashStepsSaid :=
  OpenClaim.holds_of_wide 9 Try.f9 rfl rfl rfl rfl rfl rfl rfl ⟨rfl, rfl, rfl, rfl, rfl⟩ rfl rfl rfl rfl rfl (by kernel_rfl) Try.func9 (by kernel_rfl)
    (of_decide_eq_true (by kernel_rfl)) (by unfold Func.isWrapper; first | (rw [if_pos (by decide +kernel)]; kernel_rfl) | (rw [if_neg (by decide +kernel)]; exact ⟨rfl, rfl⟩))
    (fun os started H enc _ => lifted os started H enc)
end Go.Proofs.Ytkmkpidoajfhmaa.flashSteps
