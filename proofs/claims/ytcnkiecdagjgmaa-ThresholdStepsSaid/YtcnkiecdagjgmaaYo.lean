/- Walks: the reference of thresholds: Severity, lists of changes; what is reached, what is left. -/
import Derived.Test.YtcnkiecdagjgmaaYc
import Derived.Test.YtcnkiecdagjgmaaYk
import Derived.Test.YtcnkiecdagjgmaaUt
import Derived.Test.YtcnkiecdagjgmaaTl
namespace Go.Proofs.Ytcnkiecdagjgmaa.Ya
open Go.RowKit Go.Proofs.Ytcnkiecdagjgmaa.Mem Go.Proofs.Ytcnkiecdagjgmaa.F2p Go.Proofs.Ytcnkiecdagjgmaa.C4l Go.Proofs.Ytcnkiecdagjgmaa.Ta Go.Proofs.Ytcnkiecdagjgmaa.Tb
set_option maxRecDepth 100000
set_option maxHeartbeats 1000000

theorem sev_bits (x : Nat) (hx : x < 256) : sev x = if x.testBit 2 || x.testBit 5 then 3 else if x.testBit 1 || x.testBit 4 then 2 else if x.testBit 0 || x.testBit 3 then 1 else 0 := by
  have : ∀ x : Fin 256, sev x.val = if x.val.testBit 2 || x.val.testBit 5 then 3 else if x.val.testBit 1 || x.val.testBit 4 then 2 else if x.val.testBit 0 || x.val.testBit 3 then 1 else 0 := by decide +kernel
  exact this ⟨x, hx⟩
theorem sev_r (x : Nat) (hx : x < 256) (w : World) : Calls Try.prog 27 #[.int .u8 (x : Int)] w fun e w' => e = .returned (.int .i64 (sev x)) ∧ w = w' := by
  have HH := Lib.hid fun i (hi : i ≤ 16) (u : World) => by have := Tl.has_r x i (by omega) hi u; rw [has_tb] at this; exact this
  rw [sev_bits x hx]
  have H0 := Lib.hid fun u => HH.out 0 (by omega) u
  have H1 := Lib.hid fun u => HH.out 1 (by omega) u
  have H2 := Lib.hid fun u => HH.out 2 (by omega) u
  have H3 := Lib.hid fun u => HH.out 3 (by omega) u
  have H4 := Lib.hid fun u => HH.out 4 (by omega) u
  have H5 := Lib.hid fun u => HH.out 5 (by omega) u
  generalize x.testBit 0 = b0 at *; generalize x.testBit 1 = b1 at *; generalize x.testBit 2 = b2 at *
  generalize x.testBit 3 = b3 at *; generalize x.testBit 4 = b4 at *; generalize x.testBit 5 = b5 at *
  obtain ⟨R, hR⟩ : ∃ R : Int, R = (if (b2 || b5) = true then 3 else if (b1 || b4) = true then 2 else if (b0 || b3) = true then 1 else 0) := ⟨_, rfl⟩
  rw [← hR]
  have HR := Lib.hid hR
  clear HH hR
  go_enter Try.func27, Try.ntmps27
  go_wp2_with fail
  go_loop [3] (fun v => ∃ m : Int, v = .int .i64 m ∧ -1 ≤ m ∧ m ≤ 2 ∧ (m < 2 → (b2 || b5) = false) ∧ (m < 1 → (b1 || b4) = false) ∧ (m < 0 → (b0 || b3) = false)) (fun v => (intOf v + 1).toNat)
  case atStart => exact ⟨2, rfl, by omega, by omega, fun h => by omega, fun h => by omega, fun h => by omega⟩
  case round =>
    obtain ⟨m, rfl, h1, h2, a2, a1, a0⟩ := hrel
    rcases (show m = 2 ∨ m = 1 ∨ m = 0 ∨ m = -1 by omega) with rfl | rfl | rfl | rfl
    · go_wp2_with fail
      refine (H2.out _).mono ?_
      rintro e w2 ⟨rfl, rfl⟩
      cases b2
      · go_wp2_with fail
        refine (H5.out _).mono ?_
        rintro e w2 ⟨rfl, rfl⟩
        cases b5
        · go_wp2_with fail
          exact ⟨⟨1, by go_num, by omega, by omega, fun _ => rfl, fun h => by omega, fun h => by omega⟩, by simp [intOf]⟩
        · have : R = 3 := by rw [HR.out]; rfl
          subst this
          go_wp2_with fail
          go_ret
          exact ⟨rfl, rfl⟩
      · have : R = 3 := by rw [HR.out]; rfl
        subst this
        go_wp2_with fail
        go_ret
        exact ⟨rfl, rfl⟩
    · go_wp2_with fail
      refine (H1.out _).mono ?_
      rintro e w2 ⟨rfl, rfl⟩
      cases b1
      · go_wp2_with fail
        refine (H4.out _).mono ?_
        rintro e w2 ⟨rfl, rfl⟩
        cases b4
        · go_wp2_with fail
          exact ⟨⟨0, by go_num, by omega, by omega, fun _ => a2 (by omega), fun _ => rfl, fun h => by omega⟩, by simp [intOf]⟩
        · have : R = 2 := by rw [HR.out, a2 (by omega)]; rfl
          subst this
          go_wp2_with fail
          go_ret
          exact ⟨rfl, rfl⟩
      · have : R = 2 := by rw [HR.out, a2 (by omega)]; rfl
        subst this
        go_wp2_with fail
        go_ret
        exact ⟨rfl, rfl⟩
    · go_wp2_with fail
      refine (H0.out _).mono ?_
      rintro e w2 ⟨rfl, rfl⟩
      cases b0
      · go_wp2_with fail
        refine (H3.out _).mono ?_
        rintro e w2 ⟨rfl, rfl⟩
        cases b3
        · go_wp2_with fail
          exact ⟨⟨-1, by go_num, by omega, by omega, fun _ => a2 (by omega), fun _ => a1 (by omega), fun _ => rfl⟩, by simp [intOf]⟩
        · have : R = 1 := by rw [HR.out, a2 (by omega), a1 (by omega)]; rfl
          subst this
          go_wp2_with fail
          go_ret
          exact ⟨rfl, rfl⟩
      · have : R = 1 := by rw [HR.out, a2 (by omega), a1 (by omega)]; rfl
        subst this
        go_wp2_with fail
        go_ret
        exact ⟨rfl, rfl⟩
    · have : R = 0 := by rw [HR.out, a2 (by omega), a1 (by omega), a0 (by omega)]; rfl
      subst this
      go_wp2_with fail
      go_ret
      exact ⟨rfl, rfl⟩
def lim (s : Sn) (i : Nat) : Int := C4p.num s.c.s (s.raw.getD i 0)
def rea (s : Sn) (i : Nat) (x : Int) : Bool := if i ≤ 2 then decide (x ≤ lim s i) else decide (lim s i ≤ x)
def lea (s : Sn) (i : Nat) (x : Int) : Bool := if i ≤ 2 then decide (lim s i + (s.hl.toNat : Int) < x) else decide (x < lim s i - (s.hu.toNat : Int))
theorem lim_in (s : Sn) (i : Nat) : -128 ≤ lim s i ∧ lim s i ≤ 255 := by
  unfold lim C4p.num; have := (s.raw.getD i 0).toNat_lt; split <;> omega
theorem reaches_r (s : Sn) (A : Option Addr) (n cp i : Nat) (hi : i < 6) (x : Int) (w : World) :
    Calls Try.prog 77 #[.agg (cells s (.slice A n cp)), .int .i64 (i : Int), .int .i64 x] w fun e w' => e = .returned (.bool (rea s i x)) ∧ Below w.heap.size w w' := by
  have hb0 : Below w.heap.size w (w.alloc (.cells (cells s (.slice A n cp)) 32)) := (Below.refl _ _).alloc (Nat.le_refl _) _
  have hx0 : Bx (w.alloc (.cells (cells s (.slice A n cp)) 32)) w.heap.size s (.slice A n cp) := heap_alloc_new w _
  have HL := Lib.hid fun (u : World) => (show Calls Try.prog 115 #[.agg (cells s (.slice A n cp)), .int .i64 (i : Int)] u fun e w' => e = .returned (.int .i64 (lim s i)) ∧ Below u.heap.size u w' from limit_r s A n cp i hi u)
  unfold rea
  generalize lim s i = L at *
  obtain ⟨R, hR⟩ : ∃ R, R = (if i ≤ 2 then decide (x ≤ L) else decide (L ≤ x)) := ⟨_, rfl⟩
  rw [← hR]
  have HR := Lib.hid hR
  clear hR
  go_enter Try.func77, Try.ntmps77
  go_wp2_with (refine wpList_load_bx rfl (.tmp 3) rfl _ _ _ rfl hx0 ?_)
  refine (HL.out _).mono ?_
  rintro e w2 ⟨rfl, hb2⟩
  have hbb := hb0.trans (hb2.mono hb0.size)
  clear hx0 hb0 hb2 HL
  by_cases h : i ≤ 2
  · have k : decide ((i : Int) < 3) = true := decide_eq_true (by omega)
    have hR : R = decide (x ≤ L) := by rw [HR.out, if_pos h]
    subst hR
    go_wp2_with fail
    go_ret
    exact ⟨rfl, hbb⟩
  · have k : decide ((i : Int) < 3) = false := decide_eq_false (by omega)
    have hR : R = decide (L ≤ x) := by rw [HR.out, if_neg h]
    subst hR
    go_wp2_with fail
    go_ret
    exact ⟨rfl, hbb⟩
theorem leaves_r (s : Sn) (A : Option Addr) (n cp i : Nat) (hi : i < 6) (x : Int) (w : World) :
    Calls Try.prog 78 #[.agg (cells s (.slice A n cp)), .int .i64 (i : Int), .int .i64 x] w fun e w' => e = .returned (.bool (lea s i x)) ∧ Below w.heap.size w w' := by
  have hb0 : Below w.heap.size w (w.alloc (.cells (cells s (.slice A n cp)) 32)) := (Below.refl _ _).alloc (Nat.le_refl _) _
  have hx0 : Bx (w.alloc (.cells (cells s (.slice A n cp)) 32)) w.heap.size s (.slice A n cp) := heap_alloc_new w _
  have HL := Lib.hid fun (u : World) => (show Calls Try.prog 115 #[.agg (cells s (.slice A n cp)), .int .i64 (i : Int)] u fun e w' => e = .returned (.int .i64 (lim s i)) ∧ Below u.heap.size u w' from limit_r s A n cp i hi u)
  unfold lea
  have hli := lim_in s i
  have h1 := s.hl.toNat_lt
  have h2 := s.hu.toNat_lt
  generalize lim s i = L at *
  obtain ⟨R, hR⟩ : ∃ R, R = (if i ≤ 2 then decide (L + (s.hl.toNat : Int) < x) else decide (x < L - (s.hu.toNat : Int))) := ⟨_, rfl⟩
  rw [← hR]
  have HR := Lib.hid hR
  clear hR
  go_enter Try.func78, Try.ntmps78
  go_wp2_with (refine wpList_load_bx rfl (.tmp 3) rfl _ _ _ rfl hx0 ?_)
  refine (HL.out _).mono ?_
  rintro e w2 ⟨rfl, hb2⟩
  have hx2 := hx0.below hb2
  have c21 : w2.cell? ⟨w.heap.size, 21, none⟩ = some (.int .u8 (s.hl.toNat : Int)) := hx2.c 21
  have c22 : w2.cell? ⟨w.heap.size, 22, none⟩ = some (.int .u8 (s.hu.toNat : Int)) := hx2.c 22
  have hbb := hb0.trans (hb2.mono hb0.size)
  clear hx0 hb0 hb2 HL hx2
  by_cases h : i ≤ 2
  · have k : decide ((i : Int) < 3) = true := decide_eq_true (by omega)
    have hR : R = decide (L + (s.hl.toNat : Int) < x) := by rw [HR.out, if_pos h]
    subst hR
    go_wp2_with fail
    go_ret
    exact ⟨rfl, hbb⟩
  · have k : decide ((i : Int) < 3) = false := decide_eq_false (by omega)
    have hR : R = decide (x < L - (s.hu.toNat : Int)) := by rw [HR.out, if_neg h]
    subst hR
    go_wp2_with fail
    go_ret
    exact ⟨rfl, hbb⟩
/-- The reference's next state, bit by bit. -/
theorem nxt_ref {s : Sn} {x : Int} {st i : Nat} (hi : i < 6) (hm : s.mx.toNat.testBit i = true) : (nxt s x st).testBit i = (rea s i x || (st.testBit i && !lea s i x)) := by
  rw [nxt_bit _ _ _ _ hi]
  unfold rch rea lea lim
  rw [has_tb, hm, Bool.true_and, Bool.true_and]
  by_cases h : i ≤ 2
  · simp only [if_pos h]
    rw [Bool.eq_iff_iff]
    simp
  · simp only [if_neg h]
    rw [Bool.eq_iff_iff]
    simp
theorem nxt_none {s : Sn} {x : Int} {st i : Nat} (hi : i < 6) (hm : s.mx.toNat.testBit i = false) : (nxt s x st).testBit i = false := by
  rw [nxt_bit _ _ _ _ hi]
  unfold rch
  rw [has_tb, hm, Bool.false_and, Bool.false_and, Bool.and_false, Bool.or_self]
theorem wth_ref {s : Sn} {x : Int} {i : Nat} (hi : i < 6) : (wth s x 0 0).testBit i = (s.mx.toNat.testBit i && rea s i x) := by
  rw [wth_bit _ _ _ _ _ hi]
  unfold rch rea lim
  rw [has_tb]
  by_cases h : i ≤ 2
  · simp only [if_pos h]; simp
  · simp only [if_neg h]; simp
end Go.Proofs.Ytcnkiecdagjgmaa.Ya
