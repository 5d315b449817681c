/- Walks: slices.SortFunc of a window of at most twelve samples, by number. -/
import Derived.Test.YtekhpcfggbegaaaS39
import Derived.Test.YtekhpcfggbegaaaS40
namespace Go.Proofs.Ytekhpcfggbegaaa.Jb
open Go.RowKit Go.Proofs.Ytekhpcfggbegaaa.Mem Go.Proofs.Ytekhpcfggbegaaa.So
set_option maxRecDepth 100000
set_option maxHeartbeats 1000000

theorem quiet_on {P : Program} {f : FuncId} {args : Array Value} {w : World} {n : Nat} {v : Value}
    (h : Calls P f args (w.drewN n) fun e w' => e = .returned v ∧ ∃ k, w' = (w.drewN n).drewN k) : Calls P f args (w.drewN n) fun e w'' => e = .returned v ∧ ∃ m, w'' = w.drewN m :=
  h.mono fun _ _ ⟨he, k, hm⟩ => ⟨he, n + k, by rw [hm, World.drewN_drewN]⟩
def nv (s : Bool) (l : List UInt8) (i : Nat) : Int := C4p.num s (l.getD i 0)
theorem getD_set {l : List UInt8} {i : Nat} (x : UInt8) (h : i < l.length) (k : Nat) : (l.set i x).getD k 0 = if k = i then x else l.getD k 0 := by
  rw [List.getD_eq_getElem?_getD, List.getElem?_set, List.getD_eq_getElem?_getD]
  by_cases e : i = k
  · subst e; simp [h]
  · simp [e, show ¬ k = i from fun e' => e e'.symm]
theorem nv_sw {s : Bool} {l : List UInt8} {i j : Nat} (hi : i < l.length) (hj : j < l.length) (k : Nat) : nv s (sw l i j) k = if k = j then nv s l i else if k = i then nv s l j else nv s l k := by
  unfold sw nv
  rw [getD_set _ (by simpa using hj), getD_set _ hi]
  split
  · rfl
  · split <;> rfl
def NSrt (s : Bool) (l : List UInt8) (a b : Nat) : Prop := ∀ i j, a ≤ i → i < j → j < b → nv s l i ≤ nv s l j
theorem ins_stepI {f : Nat → Int} {a i j : Nat} (hj : a < j) (hji : j ≤ i) (h : ∀ p q, a ≤ p → p < q → q ≤ i → q ≠ j → f p ≤ f q) (hx : f j < f (j - 1)) :
    ∀ p q, a ≤ p → p < q → q ≤ i → q ≠ j - 1 → (if p = j - 1 then f j else if p = j then f (j - 1) else f p) ≤ (if q = j - 1 then f j else if q = j then f (j - 1) else f q) := by
  intro p q hp hpq hq hne
  rw [if_neg hne]
  by_cases e1 : p = j - 1
  · rw [if_pos e1]
    by_cases e2 : q = j
    · rw [if_pos e2]; omega
    · rw [if_neg e2]
      have := h (j - 1) q (by omega) (by omega) hq e2
      omega
  · rw [if_neg e1]
    by_cases e3 : p = j
    · rw [if_pos e3, if_neg (by omega)]
      exact h (j - 1) q (by omega) (by omega) hq (by omega)
    · rw [if_neg e3]
      by_cases e2 : q = j
      · rw [if_pos e2]
        exact h p (j - 1) hp (by omega) (by omega) (by omega)
      · rw [if_neg e2]
        exact h p q hp hpq hq e2
theorem ins_p (sg : Bool) (r base g n c : Nat) (w : World) (l : List UInt8) (h : Ar base g n c w w l) (hn : n ≤ 12) (hc : w.cell? ⟨r, 8, none⟩ = some (.bool sg)) (hrg : r ≠ g) :
    Calls Try.prog 119 #[.slice (some ⟨g, 0, none⟩) n c, .int .i64 0, .int .i64 (n : Int), .func (.func 59) #[] #[.pointer (some ⟨r, 0, none⟩)]] w fun e w' => e = .returned (.tuple #[]) ∧ ∃ l', Ar base g n c w w' l' ∧ Seg 0 n l l' ∧ NSrt sg l' 0 n := by
  have HL : Hid (∀ (l1 : List UInt8) (i j : Nat) (u : World), w.grownBy u (some g) → Calls Try.prog 59 #[.int .u8 (gv l1 i : Int), .int .u8 (gv l1 j : Int), .pointer (some ⟨r, 0, none⟩)] u fun e w' => e = .returned (.int .i64 (c3 (nv sg l1 i) (nv sg l1 j))) ∧ ∃ k, w' = u.drewN k) :=
    Lib.hid fun l1 i j u hu => clo_p sg r _ _ u (hu.cell hc (fun e => hrg (by injection e)))
  clear hc
  go_enter Try.func119, Try.ntmps119
  go_wp2_with fail
  go_loopw [8] (fun v wr => ∃ (i : Nat) (l' : List UInt8), 0 < i ∧ (i ≤ n ∨ i = 1) ∧ v = .int .i64 (i : Int) ∧ Ar base g n c w wr l' ∧ Seg 0 n l l' ∧ NSrt sg l' 0 i) (fun v _ => n - (intOf v).toNat)
  case atStart => exact ⟨1, l, by omega, .inr rfl, by simp, h, Seg.refl _ _ _, fun i j _ _ _ => by omega⟩
  case round =>
    obtain ⟨i, l1, hai, hib, rfl, hA, hS, hR⟩ := hrel
    by_cases hlt : i < n
    · have b0 : decide ((i : Int) < (n : Int)) = true := by simp; exact hlt
      have HR := Lib.hid hR; have HS := Lib.hid hS
      clear hR hS hib
      go_wp2_with fail
      go_loopw [9] (fun v wx => ∃ (j : Nat) (l2 : List UInt8), j ≤ i ∧ v = .int .i64 (j : Int) ∧ Ar base g n c w wx l2 ∧ Seg 0 n l l2 ∧ (∀ p q, 0 ≤ p → p < q → q ≤ i → q ≠ j → nv sg l2 p ≤ nv sg l2 q)) (fun v _ => (intOf v).toNat)
      case atStart => exact ⟨i, l1, Nat.le_refl _, rfl, hA, HS.out, fun p q h1 h2 h3 h4 => HR.out p q h1 h2 (by omega)⟩
      case round =>
        obtain ⟨j, l2, hji, rfl, hA2, hS2, hI⟩ := hrel
        have HS2 := Lib.hid hS2; have HI := Lib.hid hI
        clear hS2 hI hA
        by_cases hja : 0 < j
        · obtain ⟨q, rfl⟩ : ∃ q, j = q + 1 := ⟨j - 1, by omega⟩
          have c1 := hA2.cell (i := q) (by omega)
          have c2 := hA2.cell (i := q + 1) (by omega)
          go_wp2_with fail
          have b1 : decide ((0 : Int) < (q : Int) + 1) = true := decide_eq_true (by omega)
          have i2 : IntKind.i64.wrap (q : Int) = (q : Int) := IntWalk.i64_in _ (by omega)
          have i1 : IntKind.i64.wrap ((q : Int) + 1 - 1) = (q : Int) := by rw [IntWalk.i64_in _ (by omega)]; omega
          have n1 : (q : Int) + 1 < (n : Int) := by omega
          have n2 : (q : Int) < (n : Int) := by omega
          have n3 : (0 : Int) ≤ (q : Int) + 1 := by omega
          have HG := Lib.hid hA2.gr
          by_cases hxy : nv sg l2 (q + 1) < nv sg l2 q
          · have d1 : decide (c3 (nv sg l2 (q + 1)) (nv sg l2 q) < 0) = true := by rw [c3_neg]; exact decide_eq_true hxy
            go_quiet ((go_at_call 59; exact quiet_on (HL.out l2 (q + 1) q _ (grown_drewN HG.out _))))
            have z1 := hA2.fz q
            have z2 := hA2.fz (q + 1)
            have hsw := hA2.swap (q + 1) q
            have HSW := Lib.hid hsw
            clear hsw hA2
            go_wp2_with fail
            go_region
            go_wp2_with fail
            go_roundw
            case rel =>
              refine ⟨q, sw l2 (q + 1) q, by omega, by go_num, HSW.out.drewN _, HS2.out.sw (by omega) (by omega) (by omega) (by omega) (by have := h.len; omega), ?_⟩
              have hl2 := HS2.out.len
              have hl := h.len
              have := ins_stepI (f := nv sg l2) (a := 0) (i := i) (j := q + 1) (by omega) hji HI.out hxy
              intro p r h1 h2 h3 h4
              have t := this p r h1 h2 h3 h4
              rw [nv_sw (by omega) (by omega), nv_sw (by omega) (by omega)]
              exact t
            case measure => simp [intOf]
          · have d1 : decide (c3 (nv sg l2 (q + 1)) (nv sg l2 q) < 0) = false := by rw [c3_neg]; exact decide_eq_false hxy
            go_quiet ((go_at_call 59; exact quiet_on (HL.out l2 (q + 1) q _ (grown_drewN HG.out _))))
            have hD := hA2.drewN nq
            have hR' : NSrt sg l2 0 (i + 1) := by
              intro p r h1 h2 h3
              by_cases hr : r = q + 1
              · subst hr
                by_cases hp : p = q
                · subst hp; omega
                · have := HI.out p q h1 (by omega) (by omega) (by omega)
                  omega
              · exact HI.out p r h1 h2 (by omega) hr
            clear hA2 c1 c2
            go_wp2_with fail
            go_roundw
            case rel => exact ⟨i + 1, l2, by omega, by omega, by go_num, hD, HS2.out, hR'⟩
            case measure => simp [intOf]; omega
        · obtain rfl : j = 0 := by omega
          have hR' : NSrt sg l2 0 (i + 1) := by
            intro p r h1 h2 h3
            exact HI.out p r h1 h2 (by omega) (by omega)
          go_wp2_with fail
          go_quiet (fail)
          have hD := hA2.drewN nq
          clear hA2
          go_wp2_with fail
          go_roundw
          case rel => exact ⟨i + 1, l2, by omega, by omega, by go_num, hD, HS2.out, hR'⟩
          case measure => simp [intOf]; omega
    · have b0 : decide ((i : Int) < (n : Int)) = false := by simp; omega
      go_wp2_with fail
      go_end0
      exact ⟨rfl, l1, hA, hS, fun p r h1 h2 h3 => hR p r h1 h2 (by omega)⟩
theorem pdq_p (sg : Bool) (r base g n c : Nat) (k : Int) (w : World) (l : List UInt8) (h : Ar base g n c w w l) (hn : n ≤ 12) (hc : w.cell? ⟨r, 8, none⟩ = some (.bool sg)) (hrg : r ≠ g) :
    Calls Try.prog 90 #[.slice (some ⟨g, 0, none⟩) n c, .int .i64 0, .int .i64 (n : Int), .int .i64 k, .func (.func 59) #[] #[.pointer (some ⟨r, 0, none⟩)]] w fun e w' => e = .returned (.tuple #[]) ∧ ∃ l', Ar base g n c w w' l' ∧ Seg 0 n l l' ∧ NSrt sg l' 0 n := by
  have HI := Lib.hid (ins_p sg r base g n c w l h hn hc hrg)
  clear h hc
  go_enter Try.func90, Try.ntmps90
  go_wp2_with fail
  refine wp_loop_rounds 1 ?_
  rw [rounds_succ]
  go_wp2_with fail
  refine HI.out.mono ?_
  rintro e w' ⟨rfl, l', h1, h2, h3⟩
  go_wp2_with fail
  (try simp only [Exit.inBlock, Exit.then])
  refine bodyPost_ret (results_none rfl _ _ _) rfl ?_
  exact ⟨rfl, l', h1, h2, h3⟩
theorem sort_p (sg : Bool) (r base g n c : Nat) (w : World) (l : List UInt8) (h : Ar base g n c w w l) (hn : n ≤ 12) (hc : w.cell? ⟨r, 8, none⟩ = some (.bool sg)) (hrg : r ≠ g) :
    Calls Try.prog 58 #[.slice (some ⟨g, 0, none⟩) n c, .func (.func 59) #[] #[.pointer (some ⟨r, 0, none⟩)]] w fun e w' => e = .returned (.tuple #[]) ∧ ∃ l', Ar base g n c w w' l' ∧ l'.Perm l ∧ NSrt sg l' 0 n := by
  have HL := Lib.hid (fun u => len_any n (by omega) u)
  have HP := Lib.hid (pdq_p sg r base g n c (bl6 n) w l h hn hc hrg)
  clear h hc
  go_enter Try.func58, Try.ntmps58
  go_wp2_with fail
  refine (HL.out _).mono ?_
  rintro e w' ⟨rfl, rfl⟩
  go_wp2_with fail
  refine HP.out.mono ?_
  rintro e w' ⟨rfl, l', h1, h2, h3⟩
  go_wp2_with fail
  go_end0
  exact ⟨rfl, l', h1, h2.perm, h3⟩
end Go.Proofs.Ytekhpcfggbegaaa.Jb
