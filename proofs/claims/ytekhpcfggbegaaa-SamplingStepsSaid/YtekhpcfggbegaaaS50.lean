/- Walks: the dice's sensor records: where a walk stands; what discrete ones are. -/
import Derived.Test.YtekhpcfggbegaaaS49
namespace Go.Proofs.Ytekhpcfggbegaaa.Tb
open Go.RowKit Go.Proofs.Ytekhpcfggbegaaa.Mem Go.Proofs.Ytekhpcfggbegaaa.Ta
theorem Bx.kept {w w' : World} {r : Nat} {s : Sn} {V : Value} (h : Bx w r s V) {b : Option Nat} (hg : w.grownBy w' b) (hne : some r ≠ b) : Bx w' r s V := (hg.block r h.lt hne).trans h
theorem Bx.set {w : World} {F : Nat} {s : Sn} {V : Value} (h : Bx w F s V) (i : Nat) (v : Value) (s' : Sn) (V' : Value) (he : (cells s V).setIfInBounds i v = cells s' V') : Bx (w.setCell ⟨F, i, none⟩ v) F s' V' := by
  unfold Bx
  rw [← he]
  exact heap_setCell_same w F i _ _ v h
end Go.Proofs.Ytekhpcfggbegaaa.Tb
namespace Go.Proofs.Ytekhpcfggbegaaa.Tl
open Go.RowKit Go.Proofs.Ytekhpcfggbegaaa.Mem Go.Proofs.Ytekhpcfggbegaaa.F2p Go.Proofs.Ytekhpcfggbegaaa.Made Go.Proofs.Ytekhpcfggbegaaa.C4l Go.Proofs.Ytekhpcfggbegaaa.D5 Go.Proofs.Ytekhpcfggbegaaa.Ta Go.Proofs.Ytekhpcfggbegaaa.Tb
set_option maxRecDepth 100000
set_option maxHeartbeats 1000000

/-- Where a walk of the dice's records stands. r: the result's block, F: the record's. -/
structure Ss (w0 w : World) (g n c : Nat) (A : Option Addr) (l : List Int) (r F : Nat) (s : Sn) (V : Value) : Prop where
  dz : Dz w g A n c l
  res : Bx w r noSn (.slice none 0 0)
  cv : Bx w F s V
  gr : w0.grownBy w (some g)
  lo : w0.heap.size ≤ r ∧ r < F ∧ g < w0.heap.size
section
variable {w0 w w' : World} {g n c r F : Nat} {A : Option Addr} {l : List Int} {s : Sn} {V : Value}
theorem Ss.step (h : Ss w0 w g n c A l r F s V) (hd : Dz w' g A n c l) (hg : w.grownBy w' (some g)) : Ss w0 w' g n c A l r F s V :=
  ⟨hd, h.res.kept hg (fun e => by injection e; have := h.lo; omega), h.cv.kept hg (fun e => by injection e; have := h.lo; omega), grown_trans h.gr hg, h.lo⟩
theorem Ss.drew (h : Ss w0 w g n c A l r F s V) : Ss w0 w.drew g n c A l r F s V := ⟨dz_drew h.dz, h.res, h.cv, grown_drew h.gr, h.lo⟩
theorem Ss.set (h : Ss w0 w g n c A l r F s V) (i : Nat) (v : Value) (s' : Sn) (V' : Value) (he : (cells s V).setIfInBounds i v = cells s' V') : Ss w0 (w.setCell ⟨F, i, none⟩ v) g n c A l r F s' V' :=
  ⟨h.dz.grown (set_grown w F i v) (fun e => by injection e; have := h.lo; omega) (fun k hk => by injection hk; have := h.lo; omega),
    h.res.kept (set_grown w F i v) (fun e => by injection e; have := h.lo; omega), Bx.set h.cv i v s' V' he,
    grown_new h.gr (set_grown w F i v) (fun b hb => by injection hb; have := h.lo; omega), h.lo⟩
theorem Ss.next (h : Ss w0 w g n c A l r F s V) (k : Nat) (hk : 1 ≤ k) (hk2 : k ≤ 1000000000) :
    Calls Try.prog 16 #[.pointer (some ⟨g, 0, none⟩), .int .i64 (k : Int)] w fun e w' => ∃ q : Nat, q < k ∧ e = .returned (.int .i64 (q : Int)) ∧ Ss w0 w' g n c A l r F s V ∧ w.grownBy w' (some g) :=
  (h.dz.next k hk hk2).mono fun _ _ ⟨q, hq, he, hd, hg⟩ => ⟨q, hq, he, h.step hd hg, hg⟩
theorem Ss.bool (h : Ss w0 w g n c A l r F s V) (k : Nat) (hk : 1 ≤ k) (hk2 : k ≤ 1000000000) :
    Calls Try.prog 17 #[.pointer (some ⟨g, 0, none⟩), .int .i64 (k : Int)] w fun e w' => ∃ b : Bool, e = .returned (.bool b) ∧ Ss w0 w' g n c A l r F s V ∧ w.grownBy w' (some g) :=
  (h.dz.bool k hk hk2).mono fun _ _ ⟨b, he, hd, hg⟩ => ⟨b, he, h.step hd hg, hg⟩
theorem Ss.byte (h : Ss w0 w g n c A l r F s V) :
    Calls Try.prog 31 #[.pointer (some ⟨g, 0, none⟩)] w fun e w' => ∃ b : UInt8, e = .returned (.int .u8 (b.toNat : Int)) ∧ Ss w0 w' g n c A l r F s V ∧ w.grownBy w' (some g) :=
  (h.dz.byte).mono fun _ _ ⟨b, he, hd, hg⟩ => ⟨b, he, h.step hd hg, hg⟩
end
/-- What the dice's Sensor leaves. -/
def Snd (w : World) (g n c : Nat) (A : Option Addr) (l : List Int) (nu : UInt8) (e : Ending) (w' : World) : Prop :=
  ∃ (s : Sn) (V : Value), e = .returned (.agg (cells s V)) ∧ vs s = true ∧ s.Fit ∧ s.nu = nu ∧ POwn w.heap.size w' V s.c.p ∧ Dz w' g A n c l ∧ w.grownBy w' (some g)
/-- The end: the record stands in the result's block. -/
theorem send {w0 w : World} {g n c r : Nat} {A : Option Addr} {l : List Int} {s : Sn} {V : Value} {a : Act} {nu : UInt8} {p : Tmp} {fn : Func}
    (hf : fn.results = #[.cell p 32]) (hd0 : Dz w g A n c l) (hr : Bx w r s V) (hg0 : w0.grownBy w (some g)) (hv : vs s = true) (hfit : s.Fit) (hnu : s.nu = nu) (ho : POwn w0.heap.size w V s.c.p) (ht : a.tmps.getD p undef = .pointer (some ⟨r, 0, none⟩)) (hd : a.defers = []) :
    bodyPost Try.prog fn (Snd w0 g n c A l nu) .ret a w :=
  bodyPost_ret (results_cell_row hf _ _ r _ _ _ _ ht hr Try.underlying32 rfl (by kernel_rfl)) hd ⟨s, V, rfl, hv, hfit, hnu, ho, hd0, hg0⟩
theorem one_own {w : World} {base : Nat} {V : Value} {p : List Pt} (h : POwn base w V p) : V.oneCell' = true := by
  rcases h.2 with ⟨rfl, _⟩ | ⟨g, cap, cur, rfl, _⟩ <;> rfl
theorem pown_ne {w : World} {base : Nat} {V : Value} {p : List Pt} {r : Nat} {s : Sn} {U : Value} (h : POwn base w V p) (hb : Bx w r s U) : V.ownBlock ≠ some r := by
  intro e
  rcases h.2 with ⟨rfl, _⟩ | ⟨g, cap, cur, rfl, _, hh, _⟩
  · cases e
  · simp only [Value.ownBlock, Option.some.injEq] at e
    subst e
    unfold Bx at hb
    rw [hb] at hh
    injection hh with hh
    injection hh with _ ht
    revert ht
    decide
theorem pown_far {w w' : World} {base r : Nat} {V : Value} {p : List Pt} {s : Sn} {U : Value} (h : POwn base w V p) (hb : Bx w r s U) (hg : w.grownBy w' (some r)) : POwn base w' V p :=
  World.ownsRow.kept h hg (.inr (pown_ne h hb))
theorem txt_chr {t : ByteArray} (h : ∀ x ∈ bl t, x ∈ bl ⟨#[67, 80, 85, 32, 84, 101, 109, 112, 46, 48, 49, 57]⟩) (h1 : 1 ≤ t.size) (h2 : t.size ≤ 16) : okn (bl t) = true := by
  unfold okn
  rw [bl_len, decide_eq_true ⟨h1, h2⟩, Bool.true_and, List.all_eq_true]
  intro x hx
  have := h x hx
  have e : ∀ y ∈ bl ⟨#[67, 80, 85, 32, 84, 101, 109, 112, 46, 48, 49, 57]⟩, chr y = true := by decide +kernel
  exact e x this
theorem bv_clear (P A : BitVec 16) : (A &&& ~~~P) &&& ~~~A = 0#16 := by
  ext i hi
  simp
  intro h1 _
  exact h1
theorem inm_andn (a x : Nat) : inm (andn a x) a = true := by
  unfold inm
  rw [decide_eq_true_eq]
  unfold andn
  have e : BitVec.ofNat 16 (BitVec.ofNat 16 a &&& ~~~BitVec.ofNat 16 x).toNat = BitVec.ofNat 16 a &&& ~~~BitVec.ofNat 16 x := by
    apply BitVec.eq_of_toNat_eq
    rw [BitVec.toNat_ofNat]
    exact Nat.mod_eq_of_lt (BitVec.isLt _)
  rw [e, bv_clear]
  rfl
theorem inm_self (a : Nat) : inm a a = true := by
  unfold inm andn
  simp
/-- A discrete record is valid. -/
theorem vs_dig {nu ty un ei en : UInt8} {nm : ByteArray} {st av dv : Nat} {on : Bool} (h1 : okn (bl nm) = true) (h2 : st ≤ 32767) (h3 : inm av st = true) (h4 : inm dv st = true) :
    vs ⟨nu, ty, un, nm, ei, en, true, C4p.noCv, 0, 0, 0, 0, 0, 0, 0, 0, 0, st, av, dv, on, 1⟩ = true := by
  unfold vs dsc
  rw [h1]
  dsimp only
  rw [h3, h4, decide_eq_true h2]
  rfl
end Go.Proofs.Ytekhpcfggbegaaa.Tl
