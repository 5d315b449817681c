/- SamplingOutliers holds for every input: fewer than half of the samples of a window cannot move the reading beyond the others. No condition. -/
import Derived.Test.YtekhpcfggbegaaaS46
import Derived.Test.YtekhpcfggbegaaaS47
import Derived.Test.YtekhpcfggbegaaaS52
import Derived.Test.YtekhpcfggbegaaaS54
import Derived.Deep.Cut
namespace Go.Proofs.Ytekhpcfggbegaaa.samplingOutliers
open Go.RowKit Go.ChangeShapes Go.WideShapes Go.ChangeAt Go.Proofs.Ytekhpcfggbegaaa.Mem Go.Proofs.Ytekhpcfggbegaaa.F2p Go.Proofs.Ytekhpcfggbegaaa.C4l Go.Proofs.Ytekhpcfggbegaaa.Ta Go.Proofs.Ytekhpcfggbegaaa.Tb Go.Proofs.Ytekhpcfggbegaaa.Law Go.Proofs.Ytekhpcfggbegaaa.Made Go.Proofs.Ytekhpcfggbegaaa.D5 Go.Proofs.Ytekhpcfggbegaaa.Tl Go.Proofs.Ytekhpcfggbegaaa.Ja Go.Proofs.Ytekhpcfggbegaaa.Jd Go.Proofs.Ytekhpcfggbegaaa.Jk
set_option maxRecDepth 100000
set_option maxHeartbeats 4000000

theorem name_le {s : Sn} (hv : vs s = true) : s.nm.size ≤ maxLen := by
  unfold vs okn at hv
  simp only [Bool.and_eq_true] at hv
  have h := of_decide_eq_true hv.1.1
  rw [bl_len] at h
  unfold maxLen; omega
theorem vs_wide {s : Sn} (h : vs s = true) : s.sm = 1 ∨ s.sm = 3 ∨ s.sm = 5 := by
  unfold vs at h
  simp only [Bool.and_eq_true] at h
  have := h.2.1
  unfold wid at this
  simpa using this
/-- Samples that are all there. -/
def mk (l : List UInt8) : List Tk := l.map fun r => ⟨r, false⟩
theorem mk_snoc (l : List UInt8) (x : UInt8) : mk (l ++ [x]) = mk l ++ [⟨x, false⟩] := by unfold mk; rw [List.map_append]; rfl
theorem mk_len (l : List UInt8) : (mk l).length = l.length := by unfold mk; rw [List.length_map]
theorem run_mk (k : Nat) (l : List UInt8) (h : l.length ≤ k) : runF k (mk l) = (l, 0) := by
  suffices ∀ i, i ≤ l.length → runF k ((mk l).take i) = (l.take i, 0) by
    have := this l.length (Nat.le_refl _)
    rwa [List.take_length, List.take_of_length_le (by rw [mk_len]; exact Nat.le_refl _)] at this
  intro i
  induction i with
  | zero => intro _; rfl
  | succ i ih =>
    intro hi
    rw [runF_take (by rw [mk_len]; omega), ih (by omega)]
    have e : (mk l)[i]'(by rw [mk_len]; omega) = ⟨l[i], false⟩ := by simp [mk]
    rw [e]
    unfold nxF push
    rw [if_pos rfl, if_neg (by show ¬ k < (l.take i).length + 1; rw [List.length_take]; omega)]
    rw [List.take_succ_eq_append_getElem (by omega)]
/-- Whether the sample i may be wild. -/
def isW (K : Nat) (z : Int) : Bool := decide (z % (K : Int) < ((K / 2 : Nat) : Int))
def wildB (at_ : Int) (K i : Nat) : Bool := isW K (IntKind.i64.wrap ((i : Int) + at_))
def wcF (at_ : Int) (K : Nat) : Nat → Nat
  | 0 => 0
  | i + 1 => wcF at_ K i + (wildB at_ K i).toNat
theorem wrap_two {z : Int} (h : -9223372036854775808 ≤ z) (h2 : z < 9223372036854775808 + 10) : IntKind.i64.wrap z = z ∧ z < 9223372036854775808 ∨ IntKind.i64.wrap z = z - 18446744073709551616 ∧ 9223372036854775808 ≤ z := by
  rw [IntKind.wrap_i64]; omega
theorem wcF_le (at_ : Int) (K : Nat) (hK : K = 1 ∨ K = 3 ∨ K = 5) (h : -9223372036854775808 ≤ at_ ∧ at_ ≤ 9223372036854775807) : wcF at_ K K ≤ K / 2 := by
  have w0 := wrap_two (z := ((0 : Nat) : Int) + at_) (by omega) (by omega)
  have w1 := wrap_two (z := ((1 : Nat) : Int) + at_) (by omega) (by omega)
  have w2 := wrap_two (z := ((2 : Nat) : Int) + at_) (by omega) (by omega)
  have w3 := wrap_two (z := ((3 : Nat) : Int) + at_) (by omega) (by omega)
  have w4 := wrap_two (z := ((4 : Nat) : Int) + at_) (by omega) (by omega)
  have hw1 : ∀ z, isW 1 z = true ↔ z % 1 < 0 := fun z => by simp [isW]
  have hw3 : ∀ z, isW 3 z = true ↔ z % 3 < 1 := fun z => by simp [isW]
  have hw5 : ∀ z, isW 5 z = true ↔ z % 5 < 2 := fun z => by simp [isW]
  rcases hK with rfl | rfl | rfl
  · simp only [wcF, wildB]
    generalize IntKind.i64.wrap (((0 : Nat) : Int) + at_) = z0 at *
    have q0 := hw1 z0
    generalize isW 1 z0 = b0 at *
    cases b0
    · simp
    · simp at q0
  · simp only [wcF, wildB]
    generalize IntKind.i64.wrap (((0 : Nat) : Int) + at_) = z0 at *
    generalize IntKind.i64.wrap (((1 : Nat) : Int) + at_) = z1 at *
    generalize IntKind.i64.wrap (((2 : Nat) : Int) + at_) = z2 at *
    have q0 := hw3 z0
    have q1 := hw3 z1
    have q2 := hw3 z2
    generalize isW 3 z0 = b0 at *
    generalize isW 3 z1 = b1 at *
    generalize isW 3 z2 = b2 at *
    clear w3 w4 hw1 hw3 hw5
    cases b0 <;> cases b1 <;> cases b2 <;> simp only [true_iff, Bool.false_eq_true, false_iff, Bool.toNat_true, Bool.toNat_false] at * <;> omega
  · simp only [wcF, wildB]
    generalize IntKind.i64.wrap (((0 : Nat) : Int) + at_) = z0 at *
    generalize IntKind.i64.wrap (((1 : Nat) : Int) + at_) = z1 at *
    generalize IntKind.i64.wrap (((2 : Nat) : Int) + at_) = z2 at *
    generalize IntKind.i64.wrap (((3 : Nat) : Int) + at_) = z3 at *
    generalize IntKind.i64.wrap (((4 : Nat) : Int) + at_) = z4 at *
    have q0 := hw5 z0
    have q1 := hw5 z1
    have q2 := hw5 z2
    have q3 := hw5 z3
    have q4 := hw5 z4
    generalize isW 5 z0 = b0 at *
    generalize isW 5 z1 = b1 at *
    generalize isW 5 z2 = b2 at *
    generalize isW 5 z3 = b3 at *
    generalize isW 5 z4 = b4 at *
    clear hw1 hw3 hw5
    have hr : at_ % 5 = 0 ∨ at_ % 5 = 1 ∨ at_ % 5 = 2 ∨ at_ % 5 = 3 ∨ at_ % 5 = 4 := by omega
    cases b0 <;> cases b1 <;> cases b2 <;> cases b3 <;> cases b4 <;> simp only [true_iff, Bool.false_eq_true, false_iff, Bool.toNat_true, Bool.toNat_false] at * <;> omega
/-- How many lie between L and H. -/
def good (L H : Int) (l : List UInt8) : Nat := l.countP fun y => decide (L ≤ (y.toNat : Int)) && decide ((y.toNat : Int) ≤ H)
theorem num_low (sg : Bool) (y : UInt8) (h : (y.toNat : Int) ≤ 79) : C4p.num sg y = (y.toNat : Int) := by
  unfold C4p.num
  rw [if_neg (by omega)]
theorem le_gt (sg : Bool) (v : Int) (l : List UInt8) : le sg l v + l.countP (fun y => decide (v < C4p.num sg y)) = l.length := by
  unfold le
  induction l with
  | nil => rfl
  | cons y l ih =>
    rw [List.countP_cons, List.countP_cons, List.length_cons]
    by_cases h : C4p.num sg y ≤ v
    · rw [if_pos (by simpa using h), if_neg (by simp; omega)]; omega
    · rw [if_neg (by simpa using h), if_pos (by simp; omega)]; omega
theorem med_good {sg : Bool} {rl : List UInt8} {x : UInt8} {L H : Int} {c K : Nat} (hm : Med sg rl x) (hl : rl.length = K) (h79 : H ≤ 79) (hg : K ≤ good L H rl + c) (hc : c ≤ K / 2) (hodd : K % 2 = 1) : L ≤ C4p.num sg x ∧ C4p.num sg x ≤ H := by
  have h1 := hm.low
  have h2 := hm.high
  have h3 := le_gt sg (C4p.num sg x) rl
  rw [hl] at h1 h2 h3
  refine ⟨?_, ?_⟩
  · apply Decidable.byContradiction
    intro hlt
    have : good L H rl ≤ rl.countP (fun y => decide (C4p.num sg x < C4p.num sg y)) := by
      refine List.countP_mono_left fun y _ hy => ?_
      simp only [Bool.and_eq_true, decide_eq_true_eq] at hy
      have := num_low sg y (by omega)
      exact decide_eq_true (by omega)
    omega
  · apply Decidable.byContradiction
    intro hlt
    have : good L H rl ≤ lo sg rl (C4p.num sg x) := by
      refine List.countP_mono_left fun y _ hy => ?_
      simp only [Bool.and_eq_true, decide_eq_true_eq] at hy
      have := num_low sg y (by omega)
      exact decide_eq_true (by omega)
    omega
theorem good_app (L H : Int) (l : List UInt8) (x : UInt8) : good L H l ≤ good L H (l ++ [x]) := by
  unfold good; rw [List.countP_append]; exact Nat.le_add_right _ _
theorem good_new {L H L2 H2 : Int} (l : List UInt8) (x : UInt8) (h1 : L2 ≤ L) (h2 : H ≤ H2) (h3 : L2 ≤ (x.toNat : Int)) (h4 : (x.toNat : Int) ≤ H2) : good L H l + 1 ≤ good L2 H2 (l ++ [x]) := by
  unfold good
  rw [List.countP_append, List.countP_singleton, if_pos (by simp only [Bool.and_eq_true, decide_eq_true_eq]; exact ⟨h3, h4⟩)]
  have : l.countP (fun y => decide (L ≤ (y.toNat : Int)) && decide ((y.toNat : Int) ≤ H)) ≤ l.countP (fun y => decide (L2 ≤ (y.toNat : Int)) && decide ((y.toNat : Int) ≤ H2)) := by
    refine List.countP_mono_left fun y _ hy => ?_
    simp only [Bool.and_eq_true, decide_eq_true_eq] at hy ⊢
    omega
  omega
theorem TOwn.kept' {base g : Nat} {w w' : World} {v : Value} {l : List Tk} (h : TOwn base w v l) (hg : w.grownBy w' (some g)) (hlo : g < base) : TOwn base w' v l :=
  World.ownsRow.kept h hg (.inr (fun e => by have := (World.ownsRow.lt h _ e).1; omega))
theorem ts_new (w : World) (y : UInt8) : TsAt (w.alloc (.cells #[.int .u8 (y.toNat : Int), .bool false] 59)) ⟨w.heap.size, 0, none⟩ [⟨y, false⟩] := by
  have h := heap_alloc_new w (.cells #[.int .u8 (y.toNat : Int), .bool false] 59)
  exact TsAt.one (cell_of_row _ _ 0 _ _ _ h) (cell_of_row _ _ 1 _ _ _ h)
theorem Bx.kept'' {w w' : World} {r : Nat} {s : Sn} {V : Value} (h : Bx w r s V) {b : Option Nat} (hg : w.grownBy w' b) (hne : some r ≠ b) : Bx w' r s V := (hg.block r h.lt hne).trans h
/-- What a round leaves, behind the append of a sample. -/
theorem round_end {w w3 w5 w7 : World} {g n c : Nat} {A : Option Addr} {l : List Int} {v7 u : Value} {rl : List UInt8} {y : UInt8} {s : Sn} {V : Value} {b2 : Nat} {o : Obj}
    (hown : TOwn w3.heap.size w5 u (mk rl)) (hown7 : TOwn w3.heap.size w7 v7 (mk rl ++ [⟨y, false⟩])) (hg7 : (w5.alloc o).grownBy w7 u.ownBlock) (hdz : Dz w5 g A n c l) (hx : Bx w5 b2 s V) (hsz : w3.heap.size ≤ w5.heap.size) (hg3 : w3.grownBy w5 (some g)) (hbr : Below w.heap.size w w5)
    (h1 : g < w3.heap.size) (h2 : b2 < w3.heap.size) (hw : w.heap.size ≤ w3.heap.size) :
    TOwn w3.heap.size w7 v7 (mk (rl ++ [y])) ∧ Dz w7 g A n c l ∧ Bx w7 b2 s V ∧ w3.heap.size ≤ w7.heap.size ∧ w3.grownBy w7 (some g) ∧ Below w.heap.size w w7 := by
  have hob : ∀ b, Value.ownBlock u = some b → w3.heap.size ≤ b := fun b hb => (World.ownsRow.lt hown b hb).1
  have hal := World.grownBy_alloc w5 o (none : Option Nat)
  have hdA := hdz.grown hal (by simp) (fun k hk => by cases hk)
  have hsA : w5.heap.size ≤ (w5.alloc o).heap.size := hal.size
  refine ⟨by rw [mk_snoc]; exact hown7, hdA.grown hg7 (fun e => by have := hob _ e; omega) (fun k hk => by have := hob k hk; omega), (Bx.kept'' (hx.alloc o) hg7 (fun e => by have := hob _ e.symm; omega)), Nat.le_trans (Nat.le_trans hsz hsA) hg7.size, ?_, ?_⟩
  · exact grown_new (grown_new hg3 hal (fun b hb => by cases hb)) hg7 hob
  · exact (hbr.alloc hbr.size o).grown hg7 (Nat.le_trans hbr.size hsA) (fun k hk => by have := hob k hk; omega)
theorem psl_own' {base : Nat} {w : World} {A : Option Addr} {n c : Nat} {p : List C4l.Pt} (h : POwn base w (.slice A n c) p) : PSl w A n c p := by
  obtain ⟨A', n', c', e, hs⟩ := h.sl
  injection e with e1 e2 e3
  subst e1 e2 e3
  exact hs
theorem walk (A : Option Addr) (n c : Nat) (l : List Int) (hn : n = l.length) (hw : ∀ x ∈ l, -9223372036854775808 ≤ x ∧ x ≤ 9223372036854775807) (hc : n ≤ c) (hm : c ≤ maxLen) (_hA : A = none → c = 0)
    (at_ : Int) (hatb : -9223372036854775808 ≤ at_ ∧ at_ ≤ 9223372036854775807) (WA : Option Addr) (wn wc : Nat) (wl : List UInt8) (hwn : wn = wl.length) (hwc : wn ≤ wc) (hwm : wc ≤ maxLen) (hwA : WA = none → wc = 0) (w : World) (hr : IRow w.heap.size w A l) (htr : Row w.heap.size w WA wl) :
    Calls Try.prog 5 #[.slice A n c, .int .i64 at_, .slice WA wn wc] w fun e w' => e = .returned (.bool true) ∧ Below w.heap.size w w' := by
  have hnm : n ≤ maxLen := by omega
  have ht : Sl w WA wn wc wl := ⟨hwn, htr, hwc, hwm, hwA⟩
  have htm : wn ≤ maxLen := Nat.le_trans hwc hwm
  unfold maxLen at htm
  clear hwn hwc hwm hwA htr
  have HN := Lib.hid hn
  have HW := Lib.hid hw
  clear hn hw hc hm _hA
  have haw := Lib.hid (fun u => Jk.awake_any u)
  by_cases h6 : n ≤ 600
  case neg =>
    have d6 : decide (n ≤ 600) = false := decide_eq_false h6
    go_enter Try.func5, Try.ntmps5
    go_wp2_with fail
    refine (Made.lightmade_any A n c _ hnm).mono ?_
    rintro e w' ⟨rfl, rfl⟩
    rw [d6]
    go_wp2_with fail
    refine (haw.out _).mono ?_
    rintro e w3 ⟨rfl, hb3⟩
    go_wp2_with fail
    go_ret
    exact ⟨rfl, hb3⟩
  have d6 : decide (n ≤ 600) = true := decide_eq_true h6
  go_enter Try.func5, Try.ntmps5
  go_wp2_with fail
  refine (Made.lightmade_any A n c _ hnm).mono ?_
  rintro e w' ⟨rfl, rfl⟩
  rw [d6]
  by_cases h10 : wn ≤ 10
  case neg =>
    have h10d : decide (10 < (wn : Int)) = true := decide_eq_true (by omega)
    go_wp2_with fail
    refine (haw.out _).mono ?_
    rintro e w3 ⟨rfl, hb3⟩
    go_wp2_with fail
    go_ret
    exact ⟨rfl, hb3⟩
  have h10d : decide (10 < (wn : Int)) = false := decide_eq_false (by omega)
  go_wp2_with fail
  refine (Made.roll_any A n c w).mono ?_
  rintro e w1 ⟨rfl, rfl⟩
  have hdz := Dz.start A n c l w hr HN.out HW.out (by omega)
  have hb1 : Below w.heap.size w (w.alloc (.cells #[.slice A n c, .int .i64 0] 99)) := (Below.refl _ _).alloc (Nat.le_refl _) _
  have hs1 : w.heap.size < (w.alloc (.cells #[.slice A n c, .int .i64 0] 99)).heap.size := by rw [World.size_alloc]; omega
  generalize w.alloc (.cells #[.slice A n c, .int .i64 0] 99) = w1 at *
  go_wp2_with fail
  refine (analog_any 1 hdz).mono ?_
  rintro e w2 ⟨s, V, rfl, hv, hfit, hnu, hd, hown, hdz2, hg2⟩
  obtain ⟨PA, pn, pc, rfl, hps⟩ := hown.sl
  have hnms := name_le hv
  have hb2 : Below w.heap.size w w2 := hb1.grown hg2 hb1.size (fun k hk => by injection hk; omega)
  have hz := Bx.zero w2
  have hba := (Below.refl w2.heap.size w2).alloc (Nat.le_refl _) (.cells #[.int .u8 0, .int .u8 0, .int .u8 0, .string ⟨#[]⟩, .int .u8 0, .int .u8 0, .bool false, .int .i64 0, .bool false, .int .i64 0, .int .i64 0, .int .i64 0, .int .i64 0, .slice none 0 0, .int .u8 0, .int .u8 0, .int .u8 0, .int .u8 0, .int .u8 0, .int .u8 0, .int .u8 0, .int .u8 0, .int .u8 0, .int .u16 0, .int .u16 0, .int .u16 0, .bool false, .int .i64 0] 32)
  clear hfit hnu hg2 hb1 hdz hd
  go_wp2_with (refine wpList_store_bx rfl (.tmp 8) (.tmp 32) rfl w2.heap.size s noSn (.slice PA pn pc) (.slice none 0 0) rfl rfl rfl hz ?_; intro w3 hx3 hg3; refine Hid.out ?_)
  refine Lib.hid ?_
  have hba := hba.grown hg3 hba.size (fun k hk => by injection hk; omega)
  have hps := hps.step hba
  have HOWNP := Lib.hid (Tl.pown_far (World.ownsRow.alloc hown _) hz hg3)
  have HS1 := Lib.hid hs1
  have hlt2 := hdz2.lt
  have hdz := hdz2.below hba hlt2
  have hgw : w.heap.size ≤ w2.heap.size := hb2.size
  have hbb := hb2.trans (hba.mono hb2.size)
  obtain ⟨K, hK⟩ : ∃ K : Nat, s.sm = (K : Int) := by
    have := (vs_wide hv)
    exact ⟨s.sm.toNat, by omega⟩
  have hK5 : K = 1 ∨ K = 3 ∨ K = 5 := by have := vs_wide hv; omega
  clear hba hg3 hz hdz2 hb2 hown
  have HTL := Lib.hid ht
  have HWL := Lib.hid ht.len
  have hwn : wn ≤ 10 := h10
  obtain ⟨h, hh⟩ : ∃ h : Nat, (K : Int) / 2 = (h : Int) ∧ h = K / 2 := ⟨K / 2, by omega, rfl⟩
  have hHI := hh.1
  have HH := Lib.hid hh.2
  have HKS := Lib.hid hK
  have H5 := Lib.hid hK5
  have hK1 : 1 ≤ K ∧ K ≤ 5 := by omega
  have HPS := Lib.hid hps
  have HV := Lib.hid hv
  have HNM := Lib.hid hnms
  have HAT := Lib.hid hatb
  have hw3 : w2.heap.size < w3.heap.size := hx3.lt
  have hgd : w.heap.size < w2.heap.size := hlt2
  clear hh hK hK5 hps hv hnms ht h10 h10d hatb hlt2 hgw hs1
  go_wp2_with fail
  go_loopw [9, 10, 11, 12] (fun lv hv lst j wr => ∃ (i : Nat) (rl : List UInt8) (L H : Int), i ≤ K ∧ j = .int .i64 (i : Int) ∧ lv = .int .i64 L ∧ hv = .int .i64 H ∧ rl.length = i ∧ i ≤ good L H rl + wcF at_ K i ∧ -1000 ≤ L ∧ L ≤ 1000 ∧ -1000 ≤ H ∧ H ≤ 79 ∧ TOwn w3.heap.size wr lst (mk rl) ∧ Dz wr w.heap.size A n c l ∧ Bx wr w2.heap.size s (.slice PA pn pc) ∧ w3.heap.size ≤ wr.heap.size ∧ w3.grownBy wr (some w.heap.size) ∧ Below w.heap.size w wr) (fun _ _ _ j _ => K - (intOf j).toNat)
  case atStart => exact ⟨0, [], 1000, -1000, Nat.zero_le _, rfl, rfl, rfl, rfl, Nat.zero_le _, by omega, by omega, by omega, by omega, TOwn.nil, hdz, hx3, Nat.le_refl _, World.grownBy.refl _ _, hbb⟩
  case round =>
    clear hdz hx3 hbb
    obtain ⟨i, rl, L, H, hi, rfl, rfl, rfl, hrl, hgood, hL1, hL2, hH1, hH2, hown, hdz, hx, hsz, hg3, hbr⟩ := hrel
    have HRL := Lib.hid hrl
    have HGD := Lib.hid hgood
    have x27 := c27 hx
    rw [HKS.out] at x27
    clear hrl hgood
    by_cases hlt : i < K
    · have d0 : decide ((i : Int) < (K : Int)) = true := decide_eq_true (by omega)
      go_wp2_with fail
      refine (hdz.next 20 (by omega) (by omega)).mono ?_
      rintro e w5 ⟨r, hr, rfl, hdz5, hg5⟩
      have hx5 := Bx.kept' hx hg5 (by omega)
      have hown5 := TOwn.kept' hown hg5 (by omega)
      have hsz5 := Nat.le_trans hsz hg5.size
      have hg35 := grown_trans hg3 hg5
      have hbr5 : Below w.heap.size w w5 := hbr.grown hg5 hbr.size (fun k hk => by injection hk; omega)
      have x27 := c27 hx5
      rw [HKS.out] at x27
      obtain ⟨x, hx60⟩ : ∃ x : UInt8, (60 : Int) + (r : Int) = (x.toNat : Int) := ⟨UInt8.ofNat (60 + r), by rw [UInt8.toNat_ofNat']; omega⟩
      have hx79 : (x.toNat : Int) ≤ 79 ∧ 60 ≤ (x.toNat : Int) := by omega
      have hxu : IntKind.u8.wrap (x.toNat : Int) = (x.toNat : Int) := by have := x.toNat_lt; rw [IntKind.wrap_u8]; omega
      obtain ⟨z, hz⟩ : ∃ z, z = IntKind.i64.wrap ((i : Int) + at_) := ⟨_, rfl⟩
      have hzw : wrap64 ((i : Int) + at_) = z := by rw [hz, IntKind.wrap_i64]; unfold wrap64; omega
      have hzb : -9223372036854775808 ≤ z ∧ z ≤ 9223372036854775807 := by rw [hz, IntKind.wrap_i64]; omega
      have HM := Lib.hid (Made.mod_any z K w5 hzb.1 hzb.2 hK1.1 (by omega))
      have HZ := Lib.hid hz
      have HWB := Lib.hid fun (k : Nat) (e1 : (k : Int) = z % (K : Int)) (e2 : k < h) => show wildB at_ K i = true by
        unfold wildB isW
        rw [← hz, ← e1, ← HH.out]
        exact decide_eq_true (by omega)
      clear hdz hx hown hg3 hbr hz hzb hr hg5
      go_wp2_with fail
      refine HM.out.mono ?_
      rintro e w6 ⟨⟨k, hkK, rfl, hkz⟩, rfl⟩
      have HKZ := Lib.hid hkz
      clear hkz hzw hsz hx60 HM
      by_cases hkh : k < h
      · have t1 : decide ((k : Int) < (h : Int)) = true := decide_eq_true (by omega)
        by_cases hkn : k < wn
        · have t2 : decide ((k : Int) < (wn : Int)) = true := decide_eq_true (by omega)
          have hwb := HWB.out k HKZ.out hkh
          have HWC := Lib.hid (show wcF at_ K (i + 1) = wcF at_ K i + 1 by show wcF at_ K i + (wildB at_ K i).toNat = _; rw [hwb]; rfl)
          obtain ⟨a, rfl, -, hca⟩ := row_at (HTL.out.step hbr5).row (k := k) (by rw [← HWL.out]; exact hkn)
          generalize wl[k]'(by rw [← HWL.out]; exact hkn) = y at *
          have n1 : (0 : Int) ≤ (k : Int) := by omega
          have n2 : (k : Int) < (wn : Int) := by omega
          clear hwb
          have hownA := World.ownsRow.alloc hown5 (.cells #[.int .u8 (y.toNat : Int), .bool false] 59)
          have hts := ts_new w5 y
          have hsA : w3.heap.size ≤ (w5.alloc (.cells #[.int .u8 (y.toNat : Int), .bool false] 59)).heap.size := by rw [World.size_alloc]; omega
          have hml : (mk rl).length + 1 ≤ 1000 := by rw [mk_len, HRL.out]; omega
          go_wp2_with (refine wpList_append_t _ rfl (.tmp 72) (.tmp 75) rfl w3.heap.size u11 (mk rl) rfl hownA [⟨y, false⟩] ⟨w5.heap.size, 0, none⟩ 1 1 rfl rfl hts hml hsA ?_; intro v7 w7 hown7 hg7 _)
          obtain ⟨k1, k2, k3, k4, k5, k6⟩ := round_end hown5 hown7 hg7 hdz5 hx5 hsz5 hg35 hbr5 (by omega) hw3 (by omega)
          go_roundw
          case rel => exact ⟨i + 1, rl ++ [y], L, H, by omega, by go_num, rfl, rfl, by rw [List.length_append, HRL.out]; rfl, by have := good_app L H rl y; have := HGD.out; have := HWC.out; omega, by omega, by omega, by omega, by omega, k1, k2, k3, k4, k5, k6⟩
          case measure => simp [intOf]; omega
        · have t2 : decide ((k : Int) < (wn : Int)) = false := decide_eq_false (by omega)
          have hwc : wcF at_ K i ≤ wcF at_ K (i + 1) := Nat.le_add_right _ _
          by_cases hL : (x.toNat : Int) < L
          · by_cases hH : H < (x.toNat : Int)
            · skip
              have hownA := World.ownsRow.alloc hown5 (.cells #[.int .u8 (x.toNat : Int), .bool false] 59)
              have hts := ts_new w5 x
              have hsA : w3.heap.size ≤ (w5.alloc (.cells #[.int .u8 (x.toNat : Int), .bool false] 59)).heap.size := by rw [World.size_alloc]; omega
              have hml : (mk rl).length + 1 ≤ 1000 := by rw [mk_len, HRL.out]; omega
              go_wp2_with (refine wpList_append_t _ rfl (.tmp 72) (.tmp 75) rfl w3.heap.size u11 (mk rl) rfl hownA [⟨x, false⟩] ⟨w5.heap.size, 0, none⟩ 1 1 rfl rfl hts hml hsA ?_; intro v7 w7 hown7 hg7 _)
              obtain ⟨k1, k2, k3, k4, k5, k6⟩ := round_end hown5 hown7 hg7 hdz5 hx5 hsz5 hg35 hbr5 (by omega) hw3 (by omega)
              go_roundw
              case rel => exact ⟨i + 1, rl ++ [x], (x.toNat : Int), (x.toNat : Int), by omega, by go_num, rfl, rfl, by rw [List.length_append, HRL.out]; rfl, by have := good_new (L := L) (H := H) (L2 := (x.toNat : Int)) (H2 := (x.toNat : Int)) rl x (by omega) (by omega) (by omega) (by omega); have := HGD.out; omega, by omega, by omega, by omega, by omega, k1, k2, k3, k4, k5, k6⟩
              case measure => simp [intOf]; omega
            · skip
              have hownA := World.ownsRow.alloc hown5 (.cells #[.int .u8 (x.toNat : Int), .bool false] 59)
              have hts := ts_new w5 x
              have hsA : w3.heap.size ≤ (w5.alloc (.cells #[.int .u8 (x.toNat : Int), .bool false] 59)).heap.size := by rw [World.size_alloc]; omega
              have hml : (mk rl).length + 1 ≤ 1000 := by rw [mk_len, HRL.out]; omega
              go_wp2_with (refine wpList_append_t _ rfl (.tmp 72) (.tmp 75) rfl w3.heap.size u11 (mk rl) rfl hownA [⟨x, false⟩] ⟨w5.heap.size, 0, none⟩ 1 1 rfl rfl hts hml hsA ?_; intro v7 w7 hown7 hg7 _)
              obtain ⟨k1, k2, k3, k4, k5, k6⟩ := round_end hown5 hown7 hg7 hdz5 hx5 hsz5 hg35 hbr5 (by omega) hw3 (by omega)
              go_roundw
              case rel => exact ⟨i + 1, rl ++ [x], (x.toNat : Int), H, by omega, by go_num, rfl, rfl, by rw [List.length_append, HRL.out]; rfl, by have := good_new (L := L) (H := H) (L2 := (x.toNat : Int)) (H2 := H) rl x (by omega) (by omega) (by omega) (by omega); have := HGD.out; omega, by omega, by omega, by omega, by omega, k1, k2, k3, k4, k5, k6⟩
              case measure => simp [intOf]; omega
          · by_cases hH : H < (x.toNat : Int)
            · skip
              have hownA := World.ownsRow.alloc hown5 (.cells #[.int .u8 (x.toNat : Int), .bool false] 59)
              have hts := ts_new w5 x
              have hsA : w3.heap.size ≤ (w5.alloc (.cells #[.int .u8 (x.toNat : Int), .bool false] 59)).heap.size := by rw [World.size_alloc]; omega
              have hml : (mk rl).length + 1 ≤ 1000 := by rw [mk_len, HRL.out]; omega
              go_wp2_with (refine wpList_append_t _ rfl (.tmp 72) (.tmp 75) rfl w3.heap.size u11 (mk rl) rfl hownA [⟨x, false⟩] ⟨w5.heap.size, 0, none⟩ 1 1 rfl rfl hts hml hsA ?_; intro v7 w7 hown7 hg7 _)
              obtain ⟨k1, k2, k3, k4, k5, k6⟩ := round_end hown5 hown7 hg7 hdz5 hx5 hsz5 hg35 hbr5 (by omega) hw3 (by omega)
              go_roundw
              case rel => exact ⟨i + 1, rl ++ [x], L, (x.toNat : Int), by omega, by go_num, rfl, rfl, by rw [List.length_append, HRL.out]; rfl, by have := good_new (L := L) (H := H) (L2 := L) (H2 := (x.toNat : Int)) rl x (by omega) (by omega) (by omega) (by omega); have := HGD.out; omega, by omega, by omega, by omega, by omega, k1, k2, k3, k4, k5, k6⟩
              case measure => simp [intOf]; omega
            · skip
              have hownA := World.ownsRow.alloc hown5 (.cells #[.int .u8 (x.toNat : Int), .bool false] 59)
              have hts := ts_new w5 x
              have hsA : w3.heap.size ≤ (w5.alloc (.cells #[.int .u8 (x.toNat : Int), .bool false] 59)).heap.size := by rw [World.size_alloc]; omega
              have hml : (mk rl).length + 1 ≤ 1000 := by rw [mk_len, HRL.out]; omega
              go_wp2_with (refine wpList_append_t _ rfl (.tmp 72) (.tmp 75) rfl w3.heap.size u11 (mk rl) rfl hownA [⟨x, false⟩] ⟨w5.heap.size, 0, none⟩ 1 1 rfl rfl hts hml hsA ?_; intro v7 w7 hown7 hg7 _)
              obtain ⟨k1, k2, k3, k4, k5, k6⟩ := round_end hown5 hown7 hg7 hdz5 hx5 hsz5 hg35 hbr5 (by omega) hw3 (by omega)
              go_roundw
              case rel => exact ⟨i + 1, rl ++ [x], L, H, by omega, by go_num, rfl, rfl, by rw [List.length_append, HRL.out]; rfl, by have := good_new (L := L) (H := H) (L2 := L) (H2 := H) rl x (by omega) (by omega) (by omega) (by omega); have := HGD.out; omega, by omega, by omega, by omega, by omega, k1, k2, k3, k4, k5, k6⟩
              case measure => simp [intOf]; omega
      · have t1 : decide ((k : Int) < (h : Int)) = false := decide_eq_false (by omega)
        have hwc : wcF at_ K i ≤ wcF at_ K (i + 1) := Nat.le_add_right _ _
        by_cases hL : (x.toNat : Int) < L
        · by_cases hH : H < (x.toNat : Int)
          · skip
            have hownA := World.ownsRow.alloc hown5 (.cells #[.int .u8 (x.toNat : Int), .bool false] 59)
            have hts := ts_new w5 x
            have hsA : w3.heap.size ≤ (w5.alloc (.cells #[.int .u8 (x.toNat : Int), .bool false] 59)).heap.size := by rw [World.size_alloc]; omega
            have hml : (mk rl).length + 1 ≤ 1000 := by rw [mk_len, HRL.out]; omega
            go_wp2_with (refine wpList_append_t _ rfl (.tmp 72) (.tmp 75) rfl w3.heap.size u11 (mk rl) rfl hownA [⟨x, false⟩] ⟨w5.heap.size, 0, none⟩ 1 1 rfl rfl hts hml hsA ?_; intro v7 w7 hown7 hg7 _)
            obtain ⟨k1, k2, k3, k4, k5, k6⟩ := round_end hown5 hown7 hg7 hdz5 hx5 hsz5 hg35 hbr5 (by omega) hw3 (by omega)
            go_roundw
            case rel => exact ⟨i + 1, rl ++ [x], (x.toNat : Int), (x.toNat : Int), by omega, by go_num, rfl, rfl, by rw [List.length_append, HRL.out]; rfl, by have := good_new (L := L) (H := H) (L2 := (x.toNat : Int)) (H2 := (x.toNat : Int)) rl x (by omega) (by omega) (by omega) (by omega); have := HGD.out; omega, by omega, by omega, by omega, by omega, k1, k2, k3, k4, k5, k6⟩
            case measure => simp [intOf]; omega
          · skip
            have hownA := World.ownsRow.alloc hown5 (.cells #[.int .u8 (x.toNat : Int), .bool false] 59)
            have hts := ts_new w5 x
            have hsA : w3.heap.size ≤ (w5.alloc (.cells #[.int .u8 (x.toNat : Int), .bool false] 59)).heap.size := by rw [World.size_alloc]; omega
            have hml : (mk rl).length + 1 ≤ 1000 := by rw [mk_len, HRL.out]; omega
            go_wp2_with (refine wpList_append_t _ rfl (.tmp 72) (.tmp 75) rfl w3.heap.size u11 (mk rl) rfl hownA [⟨x, false⟩] ⟨w5.heap.size, 0, none⟩ 1 1 rfl rfl hts hml hsA ?_; intro v7 w7 hown7 hg7 _)
            obtain ⟨k1, k2, k3, k4, k5, k6⟩ := round_end hown5 hown7 hg7 hdz5 hx5 hsz5 hg35 hbr5 (by omega) hw3 (by omega)
            go_roundw
            case rel => exact ⟨i + 1, rl ++ [x], (x.toNat : Int), H, by omega, by go_num, rfl, rfl, by rw [List.length_append, HRL.out]; rfl, by have := good_new (L := L) (H := H) (L2 := (x.toNat : Int)) (H2 := H) rl x (by omega) (by omega) (by omega) (by omega); have := HGD.out; omega, by omega, by omega, by omega, by omega, k1, k2, k3, k4, k5, k6⟩
            case measure => simp [intOf]; omega
        · by_cases hH : H < (x.toNat : Int)
          · skip
            have hownA := World.ownsRow.alloc hown5 (.cells #[.int .u8 (x.toNat : Int), .bool false] 59)
            have hts := ts_new w5 x
            have hsA : w3.heap.size ≤ (w5.alloc (.cells #[.int .u8 (x.toNat : Int), .bool false] 59)).heap.size := by rw [World.size_alloc]; omega
            have hml : (mk rl).length + 1 ≤ 1000 := by rw [mk_len, HRL.out]; omega
            go_wp2_with (refine wpList_append_t _ rfl (.tmp 72) (.tmp 75) rfl w3.heap.size u11 (mk rl) rfl hownA [⟨x, false⟩] ⟨w5.heap.size, 0, none⟩ 1 1 rfl rfl hts hml hsA ?_; intro v7 w7 hown7 hg7 _)
            obtain ⟨k1, k2, k3, k4, k5, k6⟩ := round_end hown5 hown7 hg7 hdz5 hx5 hsz5 hg35 hbr5 (by omega) hw3 (by omega)
            go_roundw
            case rel => exact ⟨i + 1, rl ++ [x], L, (x.toNat : Int), by omega, by go_num, rfl, rfl, by rw [List.length_append, HRL.out]; rfl, by have := good_new (L := L) (H := H) (L2 := L) (H2 := (x.toNat : Int)) rl x (by omega) (by omega) (by omega) (by omega); have := HGD.out; omega, by omega, by omega, by omega, by omega, k1, k2, k3, k4, k5, k6⟩
            case measure => simp [intOf]; omega
          · skip
            have hownA := World.ownsRow.alloc hown5 (.cells #[.int .u8 (x.toNat : Int), .bool false] 59)
            have hts := ts_new w5 x
            have hsA : w3.heap.size ≤ (w5.alloc (.cells #[.int .u8 (x.toNat : Int), .bool false] 59)).heap.size := by rw [World.size_alloc]; omega
            have hml : (mk rl).length + 1 ≤ 1000 := by rw [mk_len, HRL.out]; omega
            go_wp2_with (refine wpList_append_t _ rfl (.tmp 72) (.tmp 75) rfl w3.heap.size u11 (mk rl) rfl hownA [⟨x, false⟩] ⟨w5.heap.size, 0, none⟩ 1 1 rfl rfl hts hml hsA ?_; intro v7 w7 hown7 hg7 _)
            obtain ⟨k1, k2, k3, k4, k5, k6⟩ := round_end hown5 hown7 hg7 hdz5 hx5 hsz5 hg35 hbr5 (by omega) hw3 (by omega)
            go_roundw
            case rel => exact ⟨i + 1, rl ++ [x], L, H, by omega, by go_num, rfl, rfl, by rw [List.length_append, HRL.out]; rfl, by have := good_new (L := L) (H := H) (L2 := L) (H2 := H) rl x (by omega) (by omega) (by omega) (by omega); have := HGD.out; omega, by omega, by omega, by omega, by omega, k1, k2, k3, k4, k5, k6⟩
            case measure => simp [intOf]; omega
    · obtain rfl : i = K := by omega
      have d0 : decide ((i : Int) < (i : Int)) = false := decide_eq_false (by omega)
      have hps : PSl wr PA pn pc s.c.p := psl_own' (D5.pown_kept HOWNP.out hg3 HS1.out)
      obtain ⟨TA, tn, tc, rfl, hts⟩ := hown.sl
      have htn : tn ≤ 100 := by have := hts.len; rw [mk_len, HRL.out] at this; omega
      have hrun := run_p s PA pn pc i TA tn tc (mk rl) wr hps HNM.out HV.out HKS.out hts htn
      rw [run_mk i rl (by rw [HRL.out]; exact Nat.le_refl _)] at hrun
      have HRUN := Lib.hid hrun
      have hodd : i % 2 = 1 := by have := H5.out; omega
      have HMG := Lib.hid fun (x : UInt8) (hm : Med s.c.s rl x) => med_good (L := L) (H := H) hm HRL.out hH2 HGD.out (wcF_le at_ i H5.out HAT.out) hodd
      have hful : full s rl 0 = true := by
        unfold full
        rw [HV.out, HKS.out, show vf true (i : Int) rl 0 = true from okF_vf (f := (rl, 0)) ⟨by rw [HRL.out]; exact Nat.le_refl _, by show (0 : Int) ≤ 0; omega, by show (0 : Int) ≤ 3; omega, .inl (by show (0 : Int) < 3; omega)⟩, HRL.out]
        simp
      have HRD := Lib.hid fun (u : World) FA fn fc (hp : PSl u PA pn pc s.c.p) (hf : Sl u FA fn fc rl) => read_p s PA pn pc FA fn fc rl 0 u hp HNM.out hf
      rw [hful] at HRD
      have HB := Lib.hid hbr
      have HPW := Lib.hid hps
      clear hrun hts hown hdz hg3 hsz hful hodd hps htn hbr
      go_wp2_with (refine wpList_load_bx rfl (.tmp 8) rfl _ _ _ rfl hx ?_)
      refine HRUN.out.mono ?_
      rintro e w4 ⟨FA, fn, fc, rfl, hs4, hb4⟩
      have hx4 := hx.below hb4
      have hb5 := (Below.refl w4.heap.size w4).alloc (Nat.le_refl _) (.cells #[.slice FA fn fc, .int .i64 0] 35)
      have hf5 : FBx (w4.alloc (.cells #[.slice FA fn fc, .int .i64 0] 35)) w4.heap.size (.slice FA fn fc) 0 := heap_alloc_new w4 _
      have hx5 := hx4.below hb5
      have hs5 := hs4.step hb5
      have hbb5 := hb4.trans (hb5.mono hb4.size)
      have hp5 := HPW.out.step hbb5
      have hbw := HB.out.trans (hbb5.mono HB.out.size)
      have f0 := hf5.c0
      have f1 := hf5.c1
      clear hx hx4 hs4 HRUN hb4 hb5 hbb5 HPW HB
      go_wp2_with (refine wpList_load_bx rfl (.tmp 8) rfl _ _ _ rfl hx5 ?_)
      refine (HRD.out _ _ _ _ hp5 hs5).mono ?_
      rintro e u1 ⟨x, hm1, -, rfl, hu1⟩
      have hxu := hx5.below hu1
      have x8 := c8 hxu
      have hbu := hbw.trans (hu1.mono hbw.size)
      obtain ⟨g1, g2⟩ := HMG.out x (hm1 rfl)
      have HNX := Lib.hid fun (u : World) => C4v.number_r s.c.s x u
      generalize C4p.num s.c.s x = X at *
      have t1 : decide (L ≤ X) = true := decide_eq_true g1
      have t2 : decide (X ≤ H) = true := decide_eq_true g2
      clear hm1 hx5 hf5 f0 f1 hu1 hxu
      go_wp2_with fail
      refine (HNX.out _).mono ?_
      rintro e u2 ⟨rfl, rfl⟩
      go_wp2_with fail
      refine (haw.out _).mono ?_
      rintro e w9 ⟨rfl, hb9⟩
      go_wp2_with fail
      go_ret
      exact ⟨rfl, hbu.trans (hb9.mono hbu.size)⟩

theorem cells_u8 : Try.prog.cellsOf 5 = 1 := by kernel_rfl
theorem cells_int : Try.prog.cellsOf 3 = 1 := by kernel_rfl
theorem own : ownKnob Try.prog.godebug = none := by kernel_rfl
theorem laidOut : laidOutB Try.prog = true := by kernel_rfl
theorem contract (H : Type) (enc : TypeId × Value → H) (W : World) (base : Nat) (args : Array Value) (ds gs : List (DataW H)) (before : List MemPlace)
    (hval : ∀ (j : Nat) t v, Try.f5.params[j]? = some t → args[j]? = some v → Value.okWide Try.prog W .any base t v)
    (hW : DataW.Whole enc Try.prog Try.f5.params.toList Rows.samplingOutliersSpec.vars false W args.toList ds gs before) :
    Calls Try.prog 5 args W fun e W' => ∃ v, e = .returned v ∧ Rows.samplingOutliersSpec.post enc Try.prog Try.f5 false true false false W args v W' := by
  have hW' := hW
  obtain ⟨p, q, hA0, hV, rfl, hfz, hnd⟩ := hW
  have hA : DataW.TrodAll enc Try.prog W 0 (fun _ => true) true Try.f5.params.toList args.toList ds p := hA0
  rw [Try.params5] at hA hval
  obtain ⟨v0, vs0, d0, ds0, p0, q0, hargs, rfl, rfl, h0, r0⟩ := trodAll_cons hA
  obtain ⟨v1, vs1, d1, ds1, p1, q1, rfl, rfl, rfl, h1, r1⟩ := trodAll_cons r0
  obtain ⟨v2, vs2, d2, ds2, p2, q2, rfl, rfl, rfl, h2, r2⟩ := trodAll_cons r1
  obtain ⟨rfl, rfl, rfl⟩ := trodAll_nil r2
  obtain rfl : args = #[v0, v1, v2] := by cases args; simp_all
  obtain ⟨A0, n0, c0, l0, rfl, hn0, hr0, hw0, hc0, hm0, hk0⟩ := open_int_list Try.underlying36 Try.underlying3 cells_int (hval 0 36 v0 rfl rfl) h0
  obtain ⟨a1, rfl, -, -, w1⟩ := open_int Try.underlying3 (hval 1 3 v1 rfl rfl) h1
  obtain ⟨A2, n2, c2, l2, rfl, hn2, hr2, hc2, hm2, hk2⟩ := open_bytes Try.underlying33 Try.underlying5 cells_u8 (hval 2 33 v2 rfl rfl) h2
  clear hA0
  refine (walk A0 n0 c0 l0 hn0 hw0 hc0 hm0 hk0 a1 (bounds_i64 w1) A2 n2 c2 l2 hn2 hc2 hm2 hk2 W hr0 hr2).mono fun e W' ⟨he, hb⟩ => ?_
  subst he
  exact ⟨_, rfl, law_post laidOut (types_fit (by kernel_rfl)) (by kernel_rfl) Try.underlying4 rfl (fun xs hx => by
    match xs, hx with
    | [_, _, _], _ => rfl) hW' hb⟩

theorem lifted (os : Os) (started : os.Started) (H : Type) (enc : TypeId × Value → H) :
    ReturnsInHanded {} Try.checked os 5 .any (Rows.samplingOutliersSpec.pre6 enc Try.prog Try.f5 Rows.samplingOutliersRow.domain false) (Rows.samplingOutliersSpec.post enc Try.prog Try.f5 false true false false) := by
  refine returnsInHanded_of_change (C := Try.checked) own started (by kernel_rfl) Try.func5
    (ChangeSpec.witness6 (enc := enc) (C := Try.checked) false ⟨#[], #[.slice none 0 0, .int .i64 0, .slice none 0 0], []⟩ 8 (by kernel_rfl) (by kernel_rfl) (by kernel_rfl) (by kernel_rfl)) ?_
  intro W base args ds gs before hval hW _ _
  exact contract H enc W base args ds gs before hval hW

theorem proved : Rows.SamplingOutliersSaid :=
  OpenClaim.holds_of_wide 5 Try.f5 rfl rfl rfl rfl rfl rfl rfl ⟨rfl, rfl, rfl, rfl, rfl⟩ rfl rfl rfl rfl rfl (by kernel_rfl) Try.func5 (by kernel_rfl)
    (of_decide_eq_true (by kernel_rfl)) (by unfold Func.isWrapper; first | (rw [if_pos (by decide +kernel)]; kernel_rfl) | (rw [if_neg (by decide +kernel)]; exact ⟨rfl, rfl⟩))
    (fun os started H enc _ => lifted os started H enc)
end Go.Proofs.Ytekhpcfggbegaaa.samplingOutliers
