/- Walks: the program's sensor records: Valid. Walks: the sanity check of layer 10. Plain mathematics of conversions: what the laws on linear values and on the other forms ask. -/
import Derived.Test.YtafoaonkjcfbaaaK16
import Derived.Test.YtafoaonkjcfbaaaK07
namespace Go.Proofs.Ytafoaonkjcfbaaa.Tb
open Go.RowKit Go.Proofs.Ytafoaonkjcfbaaa.Mem Go.Proofs.Ytafoaonkjcfbaaa.F2p Go.Proofs.Ytafoaonkjcfbaaa.C4l Go.Proofs.Ytafoaonkjcfbaaa.Ta
set_option maxRecDepth 100000
set_option maxHeartbeats 1000000

/-- A whole record is loaded. -/
theorem wpList_load_bx {ops : Array Oper} {rest : List Oper} {o : Oper} {a : Act} {w : World} {Q : Exit → Act → World → Prop} (hgd : o.guard = none) (x : Operand) (ho : o.op = .load 59 x)
    (r : Nat) (s : Sn) (V : Value) (hx : a.eval x = .pointer (some ⟨r, 0, none⟩)) (hb : Bx w r s V)
    (h : wpList Try.prog ops Q rest (a.put o.dst (.agg (cells s V))) w) : wpList Try.prog ops Q (o :: rest) a w :=
  wpList_load_row hgd _ x ho r hx _ _ _ _ hb Try.underlying59 rfl (by kernel_rfl) h
theorem valid_p (s : Sn) (A : Option Addr) (n cp : Nat) (w : World) (hsl : PSl w A n cp s.c.p) (hnm : s.nm.size ≤ maxLen) : Calls Try.prog 39 #[.agg (cells s (.slice A n cp))] w fun e w' => e = .returned (.bool (vs s)) ∧ Below w.heap.size w w' := by
  have hA := fun u hu => ana_p s A n cp u hu
  have hD := fun u hu => dsc_p s A n cp u hu
  obtain ⟨nu, ty, un, nm, ei, en, d, ⟨f, sg, m, b, k1, k2, p⟩, mx, r0, r1, r2, r3, r4, r5, hl, hu, st, av, dv, on, sm⟩ := s
  dsimp only at hsl hnm hA hD
  obtain ⟨R, hR⟩ : ∃ R, R = vs ⟨nu, ty, un, nm, ei, en, d, ⟨f, sg, m, b, k1, k2, p⟩, mx, r0, r1, r2, r3, r4, r5, hl, hu, st, av, dv, on, sm⟩ := ⟨_, rfl⟩
  rw [← hR]
  unfold vs at hR
  dsimp only at hR
  have hb0 : Below w.heap.size w (w.alloc (.cells #[.int .u8 (nu.toNat : Int), .int .u8 (ty.toNat : Int), .int .u8 (un.toNat : Int), .string nm, .int .u8 (ei.toNat : Int), .int .u8 (en.toNat : Int), .bool d, .int .i64 f, .bool sg, .int .i64 m, .int .i64 b, .int .i64 k1, .int .i64 k2, .slice A n cp, .int .u8 (mx.toNat : Int), .int .u8 (r0.toNat : Int), .int .u8 (r1.toNat : Int), .int .u8 (r2.toNat : Int), .int .u8 (r3.toNat : Int), .int .u8 (r4.toNat : Int), .int .u8 (r5.toNat : Int), .int .u8 (hl.toNat : Int), .int .u8 (hu.toNat : Int), .int .u16 (st : Int), .int .u16 (av : Int), .int .u16 (dv : Int), .bool on, .int .i64 sm] 59)) := (Below.refl _ _).alloc (Nat.le_refl _) _
  have hx0 : Bx (w.alloc (.cells #[.int .u8 (nu.toNat : Int), .int .u8 (ty.toNat : Int), .int .u8 (un.toNat : Int), .string nm, .int .u8 (ei.toNat : Int), .int .u8 (en.toNat : Int), .bool d, .int .i64 f, .bool sg, .int .i64 m, .int .i64 b, .int .i64 k1, .int .i64 k2, .slice A n cp, .int .u8 (mx.toNat : Int), .int .u8 (r0.toNat : Int), .int .u8 (r1.toNat : Int), .int .u8 (r2.toNat : Int), .int .u8 (r3.toNat : Int), .int .u8 (r4.toNat : Int), .int .u8 (r5.toNat : Int), .int .u8 (hl.toNat : Int), .int .u8 (hu.toNat : Int), .int .u16 (st : Int), .int .u16 (av : Int), .int .u16 (dv : Int), .bool on, .int .i64 sm] 59)) w.heap.size ⟨nu, ty, un, nm, ei, en, d, ⟨f, sg, m, b, k1, k2, p⟩, mx, r0, r1, r2, r3, r4, r5, hl, hu, st, av, dv, on, sm⟩ (.slice A n cp) := Bx.new
  have hs1 := hsl.step hb0
  have HA := Lib.hid (hA _ hs1)
  rw [show cells ⟨nu, ty, un, nm, ei, en, d, ⟨f, sg, m, b, k1, k2, p⟩, mx, r0, r1, r2, r3, r4, r5, hl, hu, st, av, dv, on, sm⟩ (.slice A n cp) = #[.int .u8 (nu.toNat : Int), .int .u8 (ty.toNat : Int), .int .u8 (un.toNat : Int), .string nm, .int .u8 (ei.toNat : Int), .int .u8 (en.toNat : Int), .bool d, .int .i64 f, .bool sg, .int .i64 m, .int .i64 b, .int .i64 k1, .int .i64 k2, .slice A n cp, .int .u8 (mx.toNat : Int), .int .u8 (r0.toNat : Int), .int .u8 (r1.toNat : Int), .int .u8 (r2.toNat : Int), .int .u8 (r3.toNat : Int), .int .u8 (r4.toNat : Int), .int .u8 (r5.toNat : Int), .int .u8 (hl.toNat : Int), .int .u8 (hu.toNat : Int), .int .u16 (st : Int), .int .u16 (av : Int), .int .u16 (dv : Int), .bool on, .int .i64 sm] from rfl]
  have HD := Lib.hid (hD _ hs1)
  have H1 := Lib.hid fun (u : World) => name_p nm hnm u
  have H2 := Lib.hid fun (u : World) => width_p sm u
  generalize ana ⟨nu, ty, un, nm, ei, en, d, ⟨f, sg, m, b, k1, k2, p⟩, mx, r0, r1, r2, r3, r4, r5, hl, hu, st, av, dv, on, sm⟩ = q1 at *
  generalize dsc ⟨nu, ty, un, nm, ei, en, d, ⟨f, sg, m, b, k1, k2, p⟩, mx, r0, r1, r2, r3, r4, r5, hl, hu, st, av, dv, on, sm⟩ = q2 at *
  generalize okn (bl nm) = b1 at *
  generalize wid sm = b2 at *
  have HR := Lib.hid hR
  clear hA hD hR hs1 hsl hnm
  go_enter Try.func39, Try.ntmps39
  go_wp2_with fail
  refine (H1.out _).mono ?_
  rintro e w2 ⟨rfl, rfl⟩
  cases b1
  · have hf : R = false := HR.out
    subst hf
    go_wp2_with fail
    go_ret
    exact ⟨rfl, hb0⟩
  go_wp2_with fail
  refine (H2.out _).mono ?_
  rintro e w2 ⟨rfl, rfl⟩
  cases b2
  · have hf : R = false := HR.out
    subst hf
    go_wp2_with fail
    go_ret
    exact ⟨rfl, hb0⟩
  cases d
  · as_aux_lemma =>
    have hf : R = q1 := HR.out
    subst hf
    go_wp2_with (refine wpList_load_bx rfl (.tmp 1) rfl _ _ _ rfl hx0 ?_)
    refine HA.out.mono ?_
    rintro e w2 ⟨rfl, hb2⟩
    go_wp2_with fail
    go_ret
    exact ⟨rfl, hb0.trans (hb2.mono hb0.size)⟩
  · as_aux_lemma =>
    have hf : R = q2 := HR.out
    subst hf
    go_wp2_with (refine wpList_load_bx rfl (.tmp 1) rfl _ _ _ rfl hx0 ?_)
    refine HD.out.mono ?_
    rintro e w2 ⟨rfl, hb2⟩
    go_wp2_with fail
    go_ret
    exact ⟨rfl, hb0.trans (hb2.mono hb0.size)⟩
end Go.Proofs.Ytafoaonkjcfbaaa.Tb
namespace Go.Proofs.Ytafoaonkjcfbaaa.Tb
open Go.RowKit Go.Proofs.Ytafoaonkjcfbaaa.Mem Go.Proofs.Ytafoaonkjcfbaaa.F2p Go.Proofs.Ytafoaonkjcfbaaa.C4l Go.Proofs.Ytafoaonkjcfbaaa.Ta
set_option maxRecDepth 100000
set_option maxHeartbeats 1000000

theorem one_cells (s : Sn) (V : Value) (hV : V.oneCell' = true) : (cells s V).all (·.oneCell') = true := by
  unfold cells
  rw [← Array.all_toList]
  simp only [List.all_cons, List.all_nil, hV]
  rfl
/-- A whole record is stored at its block. -/
theorem wpList_store_bx {ops : Array Oper} {rest : List Oper} {o : Oper} {a : Act} {w : World} {Q : Exit → Act → World → Prop} (hgd : o.guard = none) (x y : Operand) (ho : o.op = .store 59 x y)
    (r : Nat) (s s0 : Sn) (V V0 : Value) (hx : a.eval x = .pointer (some ⟨r, 0, none⟩)) (hy : a.eval y = .agg (cells s V)) (hV : V.oneCell' = true) (hb : Bx w r s0 V0)
    (h : ∀ w', Bx w' r s V → w.grownBy w' (some r) → wpList Try.prog ops Q rest (a.put o.dst undef) w') : wpList Try.prog ops Q (o :: rest) a w :=
  wpList_store_row hgd _ x y ho r (cells s V) hx hy _ _ hb (by kernel_rfl) rfl (one_cells s V hV)
    (h _ (setRow_heap w r _ _ _ _ hb) ⟨rfl, rfl, rfl, by simp, fun k _ hk => setRow_other w r k _ (fun he => hk (by rw [he]))⟩)
/-- A whole record is loaded, behind a guard that says yes. -/
theorem wpList_load_bx_w {ops : Array Oper} {rest : List Oper} {o : Oper} {a : Act} {w : World} {Q : Exit → Act → World → Prop} (hw : Region.wanted o (yielded ops a.tmps) = true) (x : Operand) (ho : o.op = .load 59 x)
    (r : Nat) (s : Sn) (V : Value) (hx : a.eval x = .pointer (some ⟨r, 0, none⟩)) (hb : Bx w r s V)
    (h : wpList Try.prog ops Q rest (a.put o.dst (.agg (cells s V))) w) : wpList Try.prog ops Q (o :: rest) a w := by
  refine wpList_step fun K hK => ?_
  rw [if_pos hw]
  exact wp_load_row (P := Try.prog) _ x ho r hx _ _ _ _ hb Try.underlying59 rfl (by kernel_rfl) (hK _ _ h)
theorem Bx.alloc {w : World} {r : Nat} {s : Sn} {V : Value} (h : Bx w r s V) (o : Obj) : Bx (w.alloc o) r s V := (heap_alloc_old w o h.lt).trans h
/-- The zero value at a new block. -/
theorem Bx.zero (w : World) : Bx (w.alloc (.cells #[.int .u8 0, .int .u8 0, .int .u8 0, .string ⟨#[]⟩, .int .u8 0, .int .u8 0, .bool false, .int .i64 0, .bool false, .int .i64 0, .int .i64 0, .int .i64 0, .int .i64 0, .slice none 0 0, .int .u8 0, .int .u8 0, .int .u8 0, .int .u8 0, .int .u8 0, .int .u8 0, .int .u8 0, .int .u8 0, .int .u8 0, .int .u16 0, .int .u16 0, .int .u16 0, .bool false, .int .i64 0] 59)) w.heap.size noSn (.slice none 0 0) := heap_alloc_new w _
end Go.Proofs.Ytafoaonkjcfbaaa.Tb
namespace Go.Proofs.Ytafoaonkjcfbaaa.C4p
open Go.Proofs.Ytafoaonkjcfbaaa.M3p
set_option maxRecDepth 100000

theorem clp_strict {z : Int} (h1 : -lim < clp z) (h2 : clp z < lim) : clp z = z := by
  unfold clp lim at *
  split at h1 <;> (try split at h1) <;> (try split) <;> (try split) <;> omega
theorem lin_zero (c : Cv) : lin c 0 = clp (c.b * ten (6 + c.k1 + c.k2)) := by
  unfold lin
  rw [Int.mul_zero, Int.zero_mul, Int.zero_add]
/-- From one number to the next a linear value grows by M * 10^K2, unless it is clamped. -/
theorem lin_step {c : Cv} {x : Int} (h1 : -lim < lin c x) (h2 : lin c x < lim) (h3 : -lim < lin c (x + 1)) (h4 : lin c (x + 1) < lim) : lin c (x + 1) - lin c x = c.m * ten (6 + c.k2) := by
  have e1 : lin c x = c.m * x * ten (6 + c.k2) + c.b * ten (6 + c.k1 + c.k2) := clp_strict h1 h2
  have e2 : lin c (x + 1) = c.m * (x + 1) * ten (6 + c.k2) + c.b * ten (6 + c.k1 + c.k2) := clp_strict h3 h4
  rw [e1, e2, Int.mul_add, Int.mul_one, Int.add_mul]
  omega
/-- The values of the four forms without a table. -/
theorem forms (c : Cv) (x : Int) :
    (c.f = 1 → valv c x = (lin c x, 0)) ∧ (c.f = 2 → (valv c x).2 = if lin c x = 0 then 12 else 0) ∧ (c.f = 3 → valv c x = (mulS (lin c x) (lin c x), 0)) ∧
    (c.f = 4 → valv c x = if lin c x < 0 then (0, 2) else ((rt (lin c x * 1000000).toNat : Int), 0)) := by
  refine ⟨fun h => ?_, fun h => ?_, fun h => ?_, fun h => ?_⟩
  · unfold valv; rw [if_neg (by omega), if_neg (by omega), if_neg (by omega), if_neg (by omega)]
  · unfold valv
    rw [if_neg (by omega), if_pos h]
    split <;> rfl
  · unfold valv; rw [if_neg (by omega), if_neg (by omega), if_pos h]
  · unfold valv; rw [if_neg (by omega), if_neg (by omega), if_neg (by omega), if_pos h]
theorem lin_form (c : Cv) (f : Int) (x : Int) : lin { c with f := f } x = lin c x := rfl
theorem square_nn (y : Int) : 0 ≤ mulS y y := by
  have h : 0 ≤ clp y * clp y / one := Int.ediv_nonneg (by
    rcases Int.le_total 0 (clp y) with g | g
    · exact Int.mul_nonneg g g
    · have := Int.mul_nonneg (show 0 ≤ -clp y by omega) (show 0 ≤ -clp y by omega)
      rwa [Int.neg_mul_neg] at this) (by decide)
  unfold mulS
  generalize clp y * clp y / one = z at *
  unfold clp lim
  split <;> (try split) <;> omega
/-- A root, rounded down, in whole numbers. -/
theorem rt_int {y : Int} (h1 : 0 ≤ y) : ((rt (y * 1000000).toNat : Nat) : Int) * ((rt (y * 1000000).toNat : Nat) : Int) ≤ y * 1000000 ∧ y * 1000000 < (((rt (y * 1000000).toNat : Nat) : Int) + 1) * (((rt (y * 1000000).toNat : Nat) : Int) + 1) := by
  obtain ⟨g1, g2⟩ := rt_is (y * 1000000).toNat
  generalize rt (y * 1000000).toNat = r at *
  have e1 : (r : Int) * (r : Int) = ((r * r : Nat) : Int) := by push_cast; rfl
  have e2 : ((r : Int) + 1) * ((r : Int) + 1) = (((r + 1) * (r + 1) : Nat) : Int) := by push_cast; rfl
  rw [e1, e2]
  generalize r * r = p at *
  generalize (r + 1) * (r + 1) = q at *
  omega
/-- A conversion stays valid when its form is turned into another one without a table. -/
theorem vld_form {c : Cv} {f : Int} (h : vld c = true) (h5 : c.f ≠ 5) (h1 : 1 ≤ f) (h4 : f ≤ 4) : vld { c with f := f } = true := by
  obtain ⟨-, hm, hp⟩ := vld_lin h h5
  unfold vld
  rw [if_pos ⟨h1, h4⟩]
  show (decide (-512 ≤ c.m ∧ c.m ≤ 511 ∧ -512 ≤ c.b ∧ c.b ≤ 511 ∧ -3 ≤ c.k1 ∧ c.k1 ≤ 3 ∧ -3 ≤ c.k2 ∧ c.k2 ≤ 3) && decide (c.p = [])) = true
  rw [decide_eq_true hm, decide_eq_true hp]
  rfl
/-- Between two points that follow one another, and at the points themselves. -/
theorem value_between {c : Cv} (h : vld c = true) (h5 : c.f = 5) {k : Nat} (hk : k + 1 < c.p.length) (r : UInt8) (h1 : num c.s c.p[k].1 ≤ num c.s r) (h2 : num c.s r ≤ num c.s c.p[k + 1].1) :
    (value c r).2 = 0 ∧ min c.p[k].2 c.p[k + 1].2 ≤ (value c r).1 ∧ (value c r).1 ≤ max c.p[k].2 c.p[k + 1].2 := by
  have hok := (vld_tab h h5).2.2
  have e : value c r = (tab c.s (num c.s r) none c.p, 0) := by
    unfold value valv
    rw [if_pos h, if_pos h5]
  rw [e]
  exact ⟨rfl, tab_at hk (fun n u e => by cases e) (fun _ => hok) h1 h2⟩
theorem value_point {c : Cv} (h : vld c = true) (h5 : c.f = 5) {k : Nat} (hk : k < c.p.length) : value c c.p[k].1 = (c.p[k].2, 0) := by
  have hok := (vld_tab h h5).2.2
  unfold value valv
  rw [if_pos h, if_pos h5, tab_point hk (fun n u e => by cases e) (fun _ => hok)]
/-- Nearest of the value of a raw reading has the same value. -/
theorem near_own {c : Cv} (h : vld c = true) {r : UInt8} (hr : (value c r).2 = 0) : ∃ q, near c (value c r).1 = (q, 0) ∧ value c q = value c r := by
  obtain ⟨v1, v2⟩ := value_in c r
  rcases near_is h (value c r).1 with ⟨-, hno⟩ | ⟨q, hq, hq0, hall⟩
  · exact absurd hr (hno r)
  · refine ⟨q, hq, ?_⟩
    have hd := hall r hr
    rw [clp_in v1 v2] at hd
    have e : (value c q).1 = (value c r).1 := by unfold dist at hd; omega
    exact Prod.ext e (hq0.trans hr.symm)
end Go.Proofs.Ytafoaonkjcfbaaa.C4p
