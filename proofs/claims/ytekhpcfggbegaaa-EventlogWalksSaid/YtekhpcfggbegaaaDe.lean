/- Walks: the dice's events: a region that draws its order over nine calls, an allocation and a load, by an invariant. -/
import Derived.Test.YtekhpcfggbegaaaInv
import Derived.Test.YtekhpcfggbegaaaDz
import Derived.Test.YtekhpcfggbegaaaV7b
namespace Go.Proofs.Ytekhpcfggbegaaa.De
open Go.RowKit Go.Proofs.Ytekhpcfggbegaaa.Mem Go.Proofs.Ytekhpcfggbegaaa.F2p Go.Proofs.Ytekhpcfggbegaaa.Made Go.Proofs.Ytekhpcfggbegaaa.V7 Go.Proofs.Ytekhpcfggbegaaa.Inv
set_option maxRecDepth 100000
set_option maxHeartbeats 2000000

/-- What the dice's events are. -/
structure OkE (x : Ev) : Prop where
  fit : x.Fit
  vld : vld x = true
  id : x.id = 0
abbrev tys : Array Value := #[.int .u8 1, .int .u8 111, .int .u8 127, .int .u8 3]
/-- The slot of each operation. -/
def slot : List Nat := [6, 7, 8, 9, 10, 11, 12, 13, 14, 15, 16, 17, 18, 19, 20, 21, 22, 23, 24, 25, 26, 27, 28, 29, 4]
/-- What each operation yields. -/
def phi (g r3 : Nat) (i : Nat) (v : Value) : Prop :=
  if i = 1 ∨ i = 2 then ∃ q : Nat, q < 2000000 ∧ v = .int (if i = 1 then .i64 else .u32) (q : Int)
  else if i = 4 ∨ i = 5 then ∃ q : Nat, q < 65536 ∧ v = .int (if i = 4 then .i64 else .u16) (q : Int)
  else if i = 7 ∨ i = 9 ∨ i = 17 ∨ i = 19 ∨ i = 21 then ∃ x : Nat, x < 256 ∧ v = .int .u8 (x : Int)
  else if i = 11 then ∃ q : Nat, q < 4 ∧ v = .int .i64 (q : Int)
  else if i = 12 then ∃ q : Nat, q < 4 ∧ v = .pointer (some ⟨r3, q, none⟩)
  else if i = 13 then ∃ x : Nat, x < 128 ∧ v = .int .u8 (x : Int)
  else if i = 15 then ∃ b : Bool, v = .bool b
  else if i = 22 then ∃ a b c : Nat, a < 256 ∧ b < 256 ∧ c < 256 ∧ v = .agg #[.int .u8 (a : Int), .int .u8 (b : Int), .int .u8 (c : Int)]
  else if i = 23 then ∃ x : Ev, OkE x ∧ v = x.v
  else if i = 24 then True
  else v = .pointer (some ⟨g, 0, none⟩)
/-- Where a walk of the dice's Event stands. r: the block of the result; r + 1: the types. -/
structure St (w0 w : World) (g n c : Nat) (A : Option Addr) (l : List Int) (r : Nat) : Prop where
  dz : Dz w g A n c l
  gr : w0.grownBy w (some g)
  rs : Box w r Ev.none
  ty : w.heap[r + 1]? = some (.cells tys 97 (0, 0))
  lo : w0.heap.size ≤ r ∧ g < w0.heap.size
section
variable {w0 w w' : World} {g n c r : Nat} {A : Option Addr} {l : List Int}
theorem St.call (h : St w0 w g n c A l r) (hd : Dz w' g A n c l) (hg : w.grownBy w' (some g)) : St w0 w' g n c A l r :=
  ⟨hd, grown_trans h.gr hg, h.rs.grown hg (fun e => by injection e; have := h.lo; omega), (hg.block _ (lt_of_some h.ty) (fun e => by injection e; have := h.lo; omega)).trans h.ty, h.lo⟩
theorem alloc_grown (w : World) (o : Obj) (b : Option Nat) : w.grownBy (w.alloc o) b := ⟨rfl, rfl, rfl, by simp, fun k hk _ => heap_alloc_old w o hk⟩
theorem St.alloc (h : St w0 w g n c A l r) (o : Obj) : St w0 (w.alloc o) g n c A l r :=
  ⟨h.dz.grown (alloc_grown w o none) (fun e => by cases e) (fun k e => by cases e), grown_trans h.gr (alloc_grown w o (some g)), h.rs.alloc o, (heap_alloc_old w o (lt_of_some h.ty)).trans h.ty, h.lo⟩
theorem St.far {F : Nat} (h : St w0 w g n c A l r) (hg : w.grownBy w' (some F)) (hF : r + 1 < F) (hb : w0.heap.size ≤ F) : St w0 w' g n c A l r :=
  ⟨h.dz.grown hg (fun e => by injection e; have := h.lo; omega) (fun k e => by injection e; have := h.lo; omega),
    ⟨hg.os.trans h.gr.os, hg.tape.trans h.gr.tape, hg.output.trans h.gr.output, Nat.le_trans h.gr.size hg.size, fun k hk hne => (hg.block k (Nat.lt_of_lt_of_le hk h.gr.size) (fun e => by injection e; omega)).trans (h.gr.block k hk hne)⟩,
    h.rs.grown hg (fun e => by injection e; omega), (hg.block _ (lt_of_some h.ty) (fun e => by injection e; omega)).trans h.ty, h.lo⟩
theorem St.drew (h : St w0 w g n c A l r) : St w0 w.drew g n c A l r :=
  ⟨by obtain ⟨a, ha, hd⟩ := h.dz.at_; exact ⟨h.dz.len, h.dz.bnd, h.dz.few, Rd.drew h.dz.row, a, ha, hd⟩, grown_drew h.gr, h.rs, h.ty, h.lo⟩
/-- What holds wherever the region stands. -/
structure I (w0 : World) (g n c : Nat) (A : Option Addr) (l : List Int) (r : Nat) (listed : Array Bool) (a : Act) (w : World) : Prop where
  ls : listed.size = 26
  df : a.defers = []
  sz : a.tmps.size = 34
  p0 : a.tmps[0]? = some (.pointer (some ⟨g, 0, none⟩))
  p2 : a.tmps[2]? = some (.pointer (some ⟨r, 0, none⟩))
  p3 : a.tmps[3]? = some (.pointer (some ⟨r + 1, 0, none⟩))
  val : ∀ i s, slot[i]? = some s → listed.getD i false = true → ∃ v, a.tmps[s]? = some v ∧ phi g (r + 1) i v
  st : St w0 w g n c A l r
  new : listed.getD 24 false = true → ∃ F, a.tmps[4]? = some (.pointer (some ⟨F, 0, none⟩)) ∧ r + 1 < F ∧ ∃ x, Box w F x ∧ (listed.getD 25 false = true → OkE x)
  sto : listed.getD 25 false = true → listed.getD 24 false = true
/-- An operation has yielded its value: what holds goes on. -/
theorem I.put {listed : Array Bool} {a : Act} (h : I w0 g n c A l r listed a w) (i s : Nat) (v : Value) (hs : slot[i]? = some s) (hi : i < 24) (hp : phi g (r + 1) i v) (hst : St w0 w' g n c A l r) (hk : ∀ F x, F ≠ g → Box w F x → Box w' F x) :
    I w0 g n c A l r (listed.setIfInBounds i true) (a.put (some s) v) w' := by
  have hsl : s < 34 ∧ 6 ≤ s := by
    have : ∀ i, i < 24 → ∀ s, slot[i]? = some s → s < 34 ∧ 6 ≤ s := by decide
    exact this i hi s hs
  have inj : ∀ j, j < 25 → ∀ t, slot[j]? = some t → t = s → j = i := by
    have : ∀ j, j < 25 → ∀ i, i < 24 → slot[j]? = slot[i]? → j = i := by decide
    intro j hj t ht e
    exact this j hj i hi (by rw [ht, hs, e])
  refine ⟨by simp [h.ls], h.df, by rw [put_size, h.sz], by rw [put_other (by omega)]; exact h.p0, by rw [put_other (by omega)]; exact h.p2, by rw [put_other (by omega)]; exact h.p3, fun j t ht hj => ?_, hst, fun h24 => ?_, fun h25 => ?_⟩
  · by_cases hji : j = i
    · subst hji
      obtain rfl : s = t := by rw [hs] at ht; exact Option.some.inj ht
      exact ⟨v, put_same (by rw [h.sz]; omega), hp⟩
    · rcases set_true hj with e | e
      · exact absurd e hji
      · obtain ⟨u, hu, hph⟩ := h.val j t ht e
        refine ⟨u, ?_, hph⟩
        rw [put_other (fun e => hji (inj j (by have : j < slot.length := (List.getElem?_eq_some_iff.1 ht).1; exact this) t ht e))]
        exact hu
  · rcases set_true h24 with e | e
    · omega
    · obtain ⟨F, hF, hlt, x, hx, ho⟩ := h.new e
      refine ⟨F, by rw [put_other (by omega)]; exact hF, hlt, x, hk F x (by have := h.st.lo; omega) hx, fun h25 => ?_⟩
      rcases set_true h25 with e | e
      · omega
      · exact ho e
  · rcases set_true h25 with e | e
    · omega
    · exact set_keep (h.sto e)
end
theorem I.alloc {w0 w : World} {g n c r : Nat} {A : Option Addr} {l : List Int} {listed : Array Bool} {a : Act} (h : I w0 g n c A l r listed a w) (h24 : listed.getD 24 true = false) :
    I w0 g n c A l r (listed.setIfInBounds 24 true) (a.put (some 4) (.pointer (some ⟨w.heap.size, 0, none⟩))) (w.alloc (.cells Ev.none.cells 89)) := by
  have n25 : listed.getD 25 false ≠ true := fun e => by
    have := h.sto e
    have h2 := getD_false h24
    rw [Array.getD_eq_getD_getElem?, h2] at this
    cases this
  refine ⟨by simp [h.ls], h.df, by rw [put_size, h.sz], by rw [put_other (by omega)]; exact h.p0, by rw [put_other (by omega)]; exact h.p2, by rw [put_other (by omega)]; exact h.p3, fun j t ht hj => ?_, h.st.alloc _, fun _ => ⟨w.heap.size, put_same (by rw [h.sz]; omega), lt_of_some h.st.ty, Ev.none, Box.new w Ev.none, fun h25 => ?_⟩, fun _ => ?_⟩
  · by_cases hji : j = 24
    · subst hji
      obtain rfl : 4 = t := Option.some.inj ht
      exact ⟨_, put_same (by rw [h.sz]; omega), trivial⟩
    · rcases set_true hj with e | e
      · exact absurd e hji
      · obtain ⟨u, hu, hph⟩ := h.val j t ht e
        have : ∀ j, j < 25 → j ≠ 24 → ∀ t, slot[j]? = some t → t ≠ 4 := by decide
        have hj25 : j < 25 := (List.getElem?_eq_some_iff.1 ht).1
        refine ⟨u, ?_, hph⟩
        rw [put_other (this j hj25 hji t ht)]
        exact hu
  · rcases set_true h25 with e | e
    · omega
    · exact absurd e n25
  · rw [Array.getD_eq_getD_getElem?, Array.getElem?_setIfInBounds, if_pos rfl, if_pos (by rw [h.ls]; omega)]
    rfl
theorem I.store {w0 w w' : World} {g n c r F : Nat} {A : Option Addr} {l : List Int} {listed : Array Bool} {a : Act} {x : Ev} (h : I w0 g n c A l r listed a w) (h24 : listed.getD 24 false = true) (hF : a.tmps[4]? = some (.pointer (some ⟨F, 0, none⟩))) (hlt : r + 1 < F) (hx : Box w' F x) (ho : OkE x) (hg : w.grownBy w' (some F)) :
    I w0 g n c A l r (listed.setIfInBounds 25 true) a w' := by
  refine ⟨by simp [h.ls], h.df, h.sz, h.p0, h.p2, h.p3, fun j t ht hj => ?_, h.st.far hg hlt (by have := h.st.lo; omega), fun _ => ⟨F, hF, hlt, x, hx, fun _ => ho⟩, fun _ => set_keep h24⟩
  rcases set_true hj with e | e
  · have hj25 : j < 25 := (List.getElem?_eq_some_iff.1 ht).1
    omega
  · exact h.val j t ht e
theorem keepg {w w' : World} {g : Nat} (hg : w.grownBy w' (some g)) (F : Nat) (x : Ev) (hF : F ≠ g) (h : Box w F x) : Box w' F x := h.grown hg (fun e => by injection e; omega)
/-- What the dice's Event leaves. -/
def Evd (w : World) (g n c : Nat) (A : Option Addr) (l : List Int) (e : Ending) (w' : World) : Prop := ∃ x : Ev, e = .returned x.v ∧ OkE x ∧ Dz w' g A n c l ∧ w.grownBy w' (some g)
theorem ty_cell {w : World} {r3 : Nat} (h : w.heap[r3]? = some (.cells tys 97 (0, 0))) (q : Nat) (hq : q < 4) : ∃ x : Nat, x < 128 ∧ w.cell? ⟨r3, q, none⟩ = some (.int .u8 (x : Int)) := by
  have := cell_of_row w r3 q _ _ _ h
  match q, hq with
  | 0, _ => exact ⟨1, by omega, this⟩
  | 1, _ => exact ⟨111, by omega, this⟩
  | 2, _ => exact ⟨127, by omega, this⟩
  | 3, _ => exact ⟨3, by omega, this⟩
theorem ok_of {tm gn sx sy ty x y z : Nat} {b : Bool} (htm : tm < 2000000) (hgn : gn < 65536) (hsx : sx < 256) (hsy : sy < 256) (hty : ty < 128) (hx : x < 256) (hy : y < 256) (hz : z < 256) : OkE ⟨0, tm, gn, sx, sy, ty, b, x, y, z⟩ :=
  ⟨⟨by show 0 < 65536; omega, by show tm < 4294967296; omega, hgn, hsx, hsy, by show ty < 256; omega, hx, hy, hz⟩, by simp only [V7.vld, Bool.and_eq_true, decide_eq_true_eq]; refine ⟨⟨by omega, by show tm ≤ 4294967294; omega⟩, by show ty ≤ 127; omega⟩, rfl⟩
theorem OkE.late {x : Ev} (h : OkE x) : OkE ⟨x.id, 4294967294, x.gen, x.st, x.sn, x.ty, x.de, x.d0, x.d1, x.d2⟩ := by
  obtain ⟨⟨f1, f2, f3, f4, f5, f6, f7, f8, f9⟩, hv, hi⟩ := h
  simp only [V7.vld, Bool.and_eq_true, decide_eq_true_eq] at hv
  exact ⟨⟨f1, by show 4294967294 < 4294967296; omega, f3, f4, f5, f6, f7, f8, f9⟩, by simp only [V7.vld, Bool.and_eq_true, decide_eq_true_eq]; exact ⟨⟨hv.1.1, by omega⟩, hv.2⟩, hi⟩
theorem grown_new {w w2 w3 : World} {g : Nat} {r : Option Nat} (h : w.grownBy w2 (some g)) (k : w2.grownBy w3 r) (hr : ∀ b, r = some b → w.heap.size ≤ b) : w.grownBy w3 (some g) :=
  ⟨k.os.trans h.os, k.tape.trans h.tape, k.output.trans h.output, Nat.le_trans h.size k.size, fun i hi hne => (k.block i (Nat.lt_of_lt_of_le hi h.size) (fun e => by have := hr i e.symm; omega)).trans (h.block i hi hne)⟩
theorem list34 (L : List Value) (h : L.length = 34) : ∃ y0 y1 y2 y3 y4 y5 y6 y7 y8 y9 y10 y11 y12 y13 y14 y15 y16 y17 y18 y19 y20 y21 y22 y23 y24 y25 y26 y27 y28 y29 y30 y31 y32 y33 : Value, L = [y0, y1, y2, y3, y4, y5, y6, y7, y8, y9, y10, y11, y12, y13, y14, y15, y16, y17, y18, y19, y20, y21, y22, y23, y24, y25, y26, y27, y28, y29, y30, y31, y32, y33] := by
  obtain _ | ⟨y0, L⟩ := L
  · simp at h
  obtain _ | ⟨y1, L⟩ := L
  · simp at h
  obtain _ | ⟨y2, L⟩ := L
  · simp at h
  obtain _ | ⟨y3, L⟩ := L
  · simp at h
  obtain _ | ⟨y4, L⟩ := L
  · simp at h
  obtain _ | ⟨y5, L⟩ := L
  · simp at h
  obtain _ | ⟨y6, L⟩ := L
  · simp at h
  obtain _ | ⟨y7, L⟩ := L
  · simp at h
  obtain _ | ⟨y8, L⟩ := L
  · simp at h
  obtain _ | ⟨y9, L⟩ := L
  · simp at h
  obtain _ | ⟨y10, L⟩ := L
  · simp at h
  obtain _ | ⟨y11, L⟩ := L
  · simp at h
  obtain _ | ⟨y12, L⟩ := L
  · simp at h
  obtain _ | ⟨y13, L⟩ := L
  · simp at h
  obtain _ | ⟨y14, L⟩ := L
  · simp at h
  obtain _ | ⟨y15, L⟩ := L
  · simp at h
  obtain _ | ⟨y16, L⟩ := L
  · simp at h
  obtain _ | ⟨y17, L⟩ := L
  · simp at h
  obtain _ | ⟨y18, L⟩ := L
  · simp at h
  obtain _ | ⟨y19, L⟩ := L
  · simp at h
  obtain _ | ⟨y20, L⟩ := L
  · simp at h
  obtain _ | ⟨y21, L⟩ := L
  · simp at h
  obtain _ | ⟨y22, L⟩ := L
  · simp at h
  obtain _ | ⟨y23, L⟩ := L
  · simp at h
  obtain _ | ⟨y24, L⟩ := L
  · simp at h
  obtain _ | ⟨y25, L⟩ := L
  · simp at h
  obtain _ | ⟨y26, L⟩ := L
  · simp at h
  obtain _ | ⟨y27, L⟩ := L
  · simp at h
  obtain _ | ⟨y28, L⟩ := L
  · simp at h
  obtain _ | ⟨y29, L⟩ := L
  · simp at h
  obtain _ | ⟨y30, L⟩ := L
  · simp at h
  obtain _ | ⟨y31, L⟩ := L
  · simp at h
  obtain _ | ⟨y32, L⟩ := L
  · simp at h
  obtain _ | ⟨y33, L⟩ := L
  · simp at h
  obtain _ | ⟨z, L⟩ := L
  · exact ⟨y0, y1, y2, y3, y4, y5, y6, y7, y8, y9, y10, y11, y12, y13, y14, y15, y16, y17, y18, y19, y20, y21, y22, y23, y24, y25, y26, y27, y28, y29, y30, y31, y32, y33, rfl⟩
  · simp at h
theorem event_any {w : World} {g n c : Nat} {A : Option Addr} {l : List Int} (h : Dz w g A n c l) : Calls Try.prog 44 #[.pointer (some ⟨g, 0, none⟩)] w (Evd w g n c A l) := by
  have hlt := h.lt
  have h0 : St w ((w.alloc (.cells Ev.none.cells 89)).alloc (.cells tys 97)) g n c A l w.heap.size := by
    have a1 := alloc_grown w (.cells Ev.none.cells 89)
    have a2 := alloc_grown (w.alloc (.cells Ev.none.cells 89)) (.cells tys 97)
    have hz : (w.alloc (.cells Ev.none.cells 89)).heap.size = w.heap.size + 1 := by simp
    refine ⟨(h.grown (a1 none) (fun e => by cases e) (fun k e => by cases e)).grown (a2 none) (fun e => by cases e) (fun k e => by cases e), grown_trans (a1 _) (a2 _), (Box.new w Ev.none).alloc _, ?_, Nat.le_refl _, hlt⟩
    have := heap_alloc_new (w.alloc (.cells Ev.none.cells 89)) (.cells tys 97)
    rw [hz] at this
    exact this
  replace h0 := Lib.hid h0
  replace h := Lib.hid h
  go_enter Try.func44, Try.ntmps44
  go_wp2_with fail
  refine region_inv (by kernel_rfl) (I w g n c A l w.heap.size) ?_ ?_ ?_
  · refine ⟨rfl, rfl, rfl, rfl, rfl, rfl, fun i s hs hi => ?_, h0.out.drew, fun h24 => ?_, fun h25 => ?_⟩
    · exfalso
      have : i < 25 := (List.getElem?_eq_some_iff.1 hs).1
      rw [Array.getD_eq_getD_getElem?, Array.getElem?_replicate] at hi
      split at hi <;> simp at hi
    · exact absurd h24 (by decide)
    · exact absurd h25 (by decide)
  · intro listed a u hI i hi
    obtain ⟨o, ho, hf', haf⟩ := ready_mem hi
    have hi26 : i < 26 := (Array.getElem?_eq_some_iff.1 ho).1
    match i, hi26 with
    | 0, _ =>
      obtain rfl := Option.some.inj ho
      exact wpOp_of rfl rfl (wp_value (v := (.pointer (some ⟨g, 0, none⟩))) (by have e := hI.p0; go_simp) (hI.put 0 6 _ rfl (by omega) rfl hI.st (fun _ _ _ h => h)))
    | 1, _ =>
      obtain rfl := Option.some.inj ho
      obtain ⟨v0, hv0, hp0⟩ := hI.val 0 6 rfl (haf ⟨0, .data⟩ (by simp) rfl)
      have e0 := eval_of hv0
      obtain rfl : v0 = (.pointer (some ⟨g, 0, none⟩)) := hp0
      refine wpOp_of rfl rfl ?_
      refine wp_call (f := 16) (vs := #[(.pointer (some ⟨g, 0, none⟩)), .int .i64 2000000]) (by go_simp) ?_
      refine (hI.st.dz.next 2000000 (by omega) (by omega)).mono ?_
      rintro e w' ⟨q, hq, rfl, hd, hg⟩
      exact ⟨_, rfl, hI.put 1 7 _ rfl (by omega) ⟨q, hq, rfl⟩ (hI.st.call hd hg) (keepg hg)⟩
    | 2, _ =>
      obtain rfl := Option.some.inj ho
      obtain ⟨v1, hv1, hp1⟩ := hI.val 1 7 rfl (haf ⟨1, .data⟩ (by simp) rfl)
      have e1 := eval_of hv1
      obtain ⟨q, hq, rfl⟩ := hp1
      have k : IntKind.u32.wrap (q : Int) = (q : Int) := IntWalk.u32_in _ ⟨by omega, by omega⟩
      exact wpOp_of rfl rfl (wp_value (v := .int .u32 (q : Int)) (by simp only [if_true] at e1; go_simp) (hI.put 2 8 _ rfl (by omega) ⟨q, hq, rfl⟩ hI.st (fun _ _ _ h => h)))
    | 3, _ =>
      obtain rfl := Option.some.inj ho
      exact wpOp_of rfl rfl (wp_value (v := (.pointer (some ⟨g, 0, none⟩))) (by have e := hI.p0; go_simp) (hI.put 3 9 _ rfl (by omega) rfl hI.st (fun _ _ _ h => h)))
    | 4, _ =>
      obtain rfl := Option.some.inj ho
      obtain ⟨v3, hv3, hp3⟩ := hI.val 3 9 rfl (haf ⟨3, .data⟩ (by simp) rfl)
      have e3 := eval_of hv3
      obtain rfl : v3 = (.pointer (some ⟨g, 0, none⟩)) := hp3
      refine wpOp_of rfl rfl ?_
      refine wp_call (f := 16) (vs := #[(.pointer (some ⟨g, 0, none⟩)), .int .i64 65536]) (by go_simp) ?_
      refine (hI.st.dz.next 65536 (by omega) (by omega)).mono ?_
      rintro e w' ⟨q, hq, rfl, hd, hg⟩
      exact ⟨_, rfl, hI.put 4 10 _ rfl (by omega) ⟨q, hq, rfl⟩ (hI.st.call hd hg) (keepg hg)⟩
    | 5, _ =>
      obtain rfl := Option.some.inj ho
      obtain ⟨v4, hv4, hp4⟩ := hI.val 4 10 rfl (haf ⟨4, .data⟩ (by simp) rfl)
      have e4 := eval_of hv4
      obtain ⟨q, hq, rfl⟩ := hp4
      have k : IntKind.u16.wrap (q : Int) = (q : Int) := IntWalk.u16_in _ ⟨by omega, by omega⟩
      exact wpOp_of rfl rfl (wp_value (v := .int .u16 (q : Int)) (by simp only [if_true] at e4; go_simp) (hI.put 5 11 _ rfl (by omega) ⟨q, hq, rfl⟩ hI.st (fun _ _ _ h => h)))
    | 6, _ =>
      obtain rfl := Option.some.inj ho
      exact wpOp_of rfl rfl (wp_value (v := (.pointer (some ⟨g, 0, none⟩))) (by have e := hI.p0; go_simp) (hI.put 6 12 _ rfl (by omega) rfl hI.st (fun _ _ _ h => h)))
    | 7, _ =>
      obtain rfl := Option.some.inj ho
      obtain ⟨v6, hv6, hp6⟩ := hI.val 6 12 rfl (haf ⟨6, .data⟩ (by simp) rfl)
      have e6 := eval_of hv6
      obtain rfl : v6 = (.pointer (some ⟨g, 0, none⟩)) := hp6
      refine wpOp_of rfl rfl ?_
      refine wp_call (f := 31) (vs := #[(.pointer (some ⟨g, 0, none⟩))]) (by go_simp) ?_
      refine (hI.st.dz.byte).mono ?_
      rintro e w' ⟨x, rfl, hd, hg⟩
      exact ⟨_, rfl, hI.put 7 13 _ rfl (by omega) ⟨x.toNat, x.toNat_lt, rfl⟩ (hI.st.call hd hg) (keepg hg)⟩
    | 8, _ =>
      obtain rfl := Option.some.inj ho
      exact wpOp_of rfl rfl (wp_value (v := (.pointer (some ⟨g, 0, none⟩))) (by have e := hI.p0; go_simp) (hI.put 8 14 _ rfl (by omega) rfl hI.st (fun _ _ _ h => h)))
    | 9, _ =>
      obtain rfl := Option.some.inj ho
      obtain ⟨v8, hv8, hp8⟩ := hI.val 8 14 rfl (haf ⟨8, .data⟩ (by simp) rfl)
      have e8 := eval_of hv8
      obtain rfl : v8 = (.pointer (some ⟨g, 0, none⟩)) := hp8
      refine wpOp_of rfl rfl ?_
      refine wp_call (f := 31) (vs := #[(.pointer (some ⟨g, 0, none⟩))]) (by go_simp) ?_
      refine (hI.st.dz.byte).mono ?_
      rintro e w' ⟨x, rfl, hd, hg⟩
      exact ⟨_, rfl, hI.put 9 15 _ rfl (by omega) ⟨x.toNat, x.toNat_lt, rfl⟩ (hI.st.call hd hg) (keepg hg)⟩
    | 10, _ =>
      obtain rfl := Option.some.inj ho
      exact wpOp_of rfl rfl (wp_value (v := (.pointer (some ⟨g, 0, none⟩))) (by have e := hI.p0; go_simp) (hI.put 10 16 _ rfl (by omega) rfl hI.st (fun _ _ _ h => h)))
    | 11, _ =>
      obtain rfl := Option.some.inj ho
      obtain ⟨v10, hv10, hp10⟩ := hI.val 10 16 rfl (haf ⟨10, .data⟩ (by simp) rfl)
      have e10 := eval_of hv10
      obtain rfl : v10 = (.pointer (some ⟨g, 0, none⟩)) := hp10
      refine wpOp_of rfl rfl ?_
      refine wp_call (f := 16) (vs := #[(.pointer (some ⟨g, 0, none⟩)), .int .i64 4]) (by go_simp) ?_
      refine (hI.st.dz.next 4 (by omega) (by omega)).mono ?_
      rintro e w' ⟨q, hq, rfl, hd, hg⟩
      exact ⟨_, rfl, hI.put 11 17 _ rfl (by omega) ⟨q, hq, rfl⟩ (hI.st.call hd hg) (keepg hg)⟩
    | 12, _ =>
      obtain rfl := Option.some.inj ho
      obtain ⟨v11, hv11, hp11⟩ := hI.val 11 17 rfl (haf ⟨11, .data⟩ (by simp) rfl)
      have e11 := eval_of hv11
      obtain ⟨q, hq, rfl⟩ := hp11
      have e3 := hI.p3
      have q1 : ¬ 4 ≤ (q : Int) := by omega
      have q2 : (q : Int) < 4 := by omega
      exact wpOp_of rfl rfl (wp_value (v := .pointer (some ⟨w.heap.size + 1, q, none⟩)) (by go_simp) (hI.put 12 18 _ rfl (by omega) ⟨q, hq, rfl⟩ hI.st (fun _ _ _ h => h)))
    | 13, _ =>
      obtain rfl := Option.some.inj ho
      obtain ⟨v12, hv12, hp12⟩ := hI.val 12 18 rfl (haf ⟨12, .data⟩ (by simp) rfl)
      have e12 := eval_of hv12
      obtain ⟨q, hq, rfl⟩ := hp12
      have hc := ty_cell hI.st.ty q hq
      obtain ⟨x, hx, hc⟩ := hc
      exact wpOp_of rfl rfl (wp_value (v := .int .u8 (x : Int)) (by go_simp) (hI.put 13 19 _ rfl (by omega) ⟨x, hx, rfl⟩ hI.st (fun _ _ _ h => h)))
    | 14, _ =>
      obtain rfl := Option.some.inj ho
      exact wpOp_of rfl rfl (wp_value (v := (.pointer (some ⟨g, 0, none⟩))) (by have e := hI.p0; go_simp) (hI.put 14 20 _ rfl (by omega) rfl hI.st (fun _ _ _ h => h)))
    | 15, _ =>
      obtain rfl := Option.some.inj ho
      obtain ⟨v14, hv14, hp14⟩ := hI.val 14 20 rfl (haf ⟨14, .data⟩ (by simp) rfl)
      have e14 := eval_of hv14
      obtain rfl : v14 = (.pointer (some ⟨g, 0, none⟩)) := hp14
      refine wpOp_of rfl rfl ?_
      refine wp_call (f := 17) (vs := #[(.pointer (some ⟨g, 0, none⟩)), .int .i64 2]) (by go_simp) ?_
      refine (hI.st.dz.bool 2 (by omega) (by omega)).mono ?_
      rintro e w' ⟨b, rfl, hd, hg⟩
      exact ⟨_, rfl, hI.put 15 21 _ rfl (by omega) ⟨b, rfl⟩ (hI.st.call hd hg) (keepg hg)⟩
    | 16, _ =>
      obtain rfl := Option.some.inj ho
      exact wpOp_of rfl rfl (wp_value (v := (.pointer (some ⟨g, 0, none⟩))) (by have e := hI.p0; go_simp) (hI.put 16 22 _ rfl (by omega) rfl hI.st (fun _ _ _ h => h)))
    | 17, _ =>
      obtain rfl := Option.some.inj ho
      obtain ⟨v16, hv16, hp16⟩ := hI.val 16 22 rfl (haf ⟨16, .data⟩ (by simp) rfl)
      have e16 := eval_of hv16
      obtain rfl : v16 = (.pointer (some ⟨g, 0, none⟩)) := hp16
      refine wpOp_of rfl rfl ?_
      refine wp_call (f := 31) (vs := #[(.pointer (some ⟨g, 0, none⟩))]) (by go_simp) ?_
      refine (hI.st.dz.byte).mono ?_
      rintro e w' ⟨x, rfl, hd, hg⟩
      exact ⟨_, rfl, hI.put 17 23 _ rfl (by omega) ⟨x.toNat, x.toNat_lt, rfl⟩ (hI.st.call hd hg) (keepg hg)⟩
    | 18, _ =>
      obtain rfl := Option.some.inj ho
      exact wpOp_of rfl rfl (wp_value (v := (.pointer (some ⟨g, 0, none⟩))) (by have e := hI.p0; go_simp) (hI.put 18 24 _ rfl (by omega) rfl hI.st (fun _ _ _ h => h)))
    | 19, _ =>
      obtain rfl := Option.some.inj ho
      obtain ⟨v18, hv18, hp18⟩ := hI.val 18 24 rfl (haf ⟨18, .data⟩ (by simp) rfl)
      have e18 := eval_of hv18
      obtain rfl : v18 = (.pointer (some ⟨g, 0, none⟩)) := hp18
      refine wpOp_of rfl rfl ?_
      refine wp_call (f := 31) (vs := #[(.pointer (some ⟨g, 0, none⟩))]) (by go_simp) ?_
      refine (hI.st.dz.byte).mono ?_
      rintro e w' ⟨x, rfl, hd, hg⟩
      exact ⟨_, rfl, hI.put 19 25 _ rfl (by omega) ⟨x.toNat, x.toNat_lt, rfl⟩ (hI.st.call hd hg) (keepg hg)⟩
    | 20, _ =>
      obtain rfl := Option.some.inj ho
      exact wpOp_of rfl rfl (wp_value (v := (.pointer (some ⟨g, 0, none⟩))) (by have e := hI.p0; go_simp) (hI.put 20 26 _ rfl (by omega) rfl hI.st (fun _ _ _ h => h)))
    | 21, _ =>
      obtain rfl := Option.some.inj ho
      obtain ⟨v20, hv20, hp20⟩ := hI.val 20 26 rfl (haf ⟨20, .data⟩ (by simp) rfl)
      have e20 := eval_of hv20
      obtain rfl : v20 = (.pointer (some ⟨g, 0, none⟩)) := hp20
      refine wpOp_of rfl rfl ?_
      refine wp_call (f := 31) (vs := #[(.pointer (some ⟨g, 0, none⟩))]) (by go_simp) ?_
      refine (hI.st.dz.byte).mono ?_
      rintro e w' ⟨x, rfl, hd, hg⟩
      exact ⟨_, rfl, hI.put 21 27 _ rfl (by omega) ⟨x.toNat, x.toNat_lt, rfl⟩ (hI.st.call hd hg) (keepg hg)⟩
    | 22, _ =>
      obtain rfl := Option.some.inj ho
      obtain ⟨v17, hv17, hp17⟩ := hI.val 17 23 rfl (haf ⟨17, .data⟩ (by simp) rfl)
      have e17 := eval_of hv17
      obtain ⟨v19, hv19, hp19⟩ := hI.val 19 25 rfl (haf ⟨19, .data⟩ (by simp) rfl)
      have e19 := eval_of hv19
      obtain ⟨v21, hv21, hp21⟩ := hI.val 21 27 rfl (haf ⟨21, .data⟩ (by simp) rfl)
      have e21 := eval_of hv21
      obtain ⟨x, hx, rfl⟩ := hp17
      obtain ⟨y, hy, rfl⟩ := hp19
      obtain ⟨z, hz, rfl⟩ := hp21
      exact wpOp_of rfl rfl (wp_value (v := .agg #[.int .u8 (x : Int), .int .u8 (y : Int), .int .u8 (z : Int)]) (by go_simp) (hI.put 22 28 _ rfl (by omega) ⟨x, y, z, hx, hy, hz, rfl⟩ hI.st (fun _ _ _ h => h)))
    | 23, _ =>
      obtain rfl := Option.some.inj ho
      obtain ⟨v2, hv2, hp2⟩ := hI.val 2 8 rfl (haf ⟨2, .data⟩ (by simp) rfl)
      have e2 := eval_of hv2
      obtain ⟨v5, hv5, hp5⟩ := hI.val 5 11 rfl (haf ⟨5, .data⟩ (by simp) rfl)
      have e5 := eval_of hv5
      obtain ⟨v7, hv7, hp7⟩ := hI.val 7 13 rfl (haf ⟨7, .data⟩ (by simp) rfl)
      have e7 := eval_of hv7
      obtain ⟨v9, hv9, hp9⟩ := hI.val 9 15 rfl (haf ⟨9, .data⟩ (by simp) rfl)
      have e9 := eval_of hv9
      obtain ⟨v13, hv13, hp13⟩ := hI.val 13 19 rfl (haf ⟨13, .data⟩ (by simp) rfl)
      have e13 := eval_of hv13
      obtain ⟨v15, hv15, hp15⟩ := hI.val 15 21 rfl (haf ⟨15, .data⟩ (by simp) rfl)
      have e15 := eval_of hv15
      obtain ⟨v22, hv22, hp22⟩ := hI.val 22 28 rfl (haf ⟨22, .data⟩ (by simp) rfl)
      have e22 := eval_of hv22
      obtain ⟨tm, htm, rfl⟩ := hp2
      obtain ⟨gn, hgn, rfl⟩ := hp5
      obtain ⟨sx, hsx, rfl⟩ := hp7
      obtain ⟨sy, hsy, rfl⟩ := hp9
      obtain ⟨ty, hty, rfl⟩ := hp13
      obtain ⟨b, rfl⟩ := hp15
      obtain ⟨x, y, z, hx, hy, hz, rfl⟩ := hp22
      exact wpOp_of rfl rfl (wp_value (v := Ev.v ⟨0, tm, gn, sx, sy, ty, b, x, y, z⟩) (by unfold Ev.v Ev.cells; go_simp) (hI.put 23 29 _ rfl (by omega) ⟨_, ok_of htm hgn hsx hsy hty hx hy hz, rfl⟩ hI.st (fun _ _ _ h => h)))
    | 24, _ =>
      obtain rfl := Option.some.inj ho
      exact wpOp_of rfl rfl (wp_value (v := .pointer (some ⟨u.heap.size, 0, none⟩)) (w' := u.alloc (.cells Ev.none.cells 89)) (by go_simp; rfl) (hI.alloc hf'))
    | 25, _ =>
      obtain rfl := Option.some.inj ho
      obtain ⟨v23, hv23, hp23⟩ := hI.val 23 29 rfl (haf ⟨23, .data⟩ (by simp) rfl)
      have e23 := eval_of hv23
      obtain ⟨x, hx, rfl⟩ := hp23
      obtain ⟨F, hF, hlF, y, hy, -⟩ := hI.new (haf ⟨24, .data⟩ (by simp) rfl)
      refine wpOp_of rfl rfl (wp_store_row (P := Try.prog) 89 (.tmp 4) (.tmp 29) rfl F x.cells (eval_of hF) (eval_of hv23) _ _ hy (by kernel_rfl) rfl (one_cells x) ?_)
      exact hI.store (haf ⟨24, .data⟩ (by simp) rfl) hF hlF (setRow_heap u F _ _ _ _ hy) hx ⟨rfl, rfl, rfl, by simp, fun k _ hk => setRow_other u F k _ (fun he => hk (by rw [he]))⟩
  · intro listed a u hI hr
    have hall := all_listed (md := .any) (hI.ls.trans rfl) hr (fun i o ho e he _ => orderly_spec (by kernel_rfl) i o ho e he)
    obtain ⟨F, hF, hlF, x, hx, ho⟩ := hI.new (hall 24 (by decide))
    have hx2 := ho (hall 25 (by decide))
    have p0 := hI.p0; have p2 := hI.p2
    have hst := Lib.hid hI.st
    obtain ⟨⟨L⟩, df⟩ := a
    obtain rfl : df = [] := hI.df
    have hsz : L.length = 34 := hI.sz
    clear hI hr hall ho
    obtain ⟨y0, y1, y2, y3, y4, y5, y6, y7, y8, y9, y10, y11, y12, y13, y14, y15, y16, y17, y18, y19, y20, y21, y22, y23, y24, y25, y26, y27, y28, y29, y30, y31, y32, y33, rfl⟩ := list34 L hsz
    obtain rfl := Option.some.inj p0
    obtain rfl := Option.some.inj p2
    obtain rfl := Option.some.inj hF
    clear p0 p2 hF
    go_wp2_with fail
    refine (hst.out.dz.bool 8 (by omega) (by omega)).mono ?_
    rintro e w2 ⟨b, rfl, hd, hg⟩
    have hs2 := hst.out.call hd hg
    have hx3 := hx.grown hg (fun e => by injection e; have := hst.out.lo; omega)
    clear hst hx hd hg
    have hFl := hx3.lt
    cases b
    · go_wp2_with (first
        | (refine wpList_load_box rfl (.tmp 4) rfl F x rfl hx3 ?_)
        | (refine wpList_store_box rfl (.tmp 2) (.tmp 33) rfl w.heap.size x Ev.none rfl rfl hs2.rs ?_; intro w3 hB3 hg3))
      exact out_box (r := w.heap.size) Try.results44 rfl rfl hB3 ⟨x, rfl, hx2, hs2.dz.grown hg3 (fun e => by injection e; omega) (fun k e => by injection e; omega), grown_new hs2.gr hg3 (fun k e => by injection e; omega)⟩
    · have c1 := hx3.c1
      have f1 := hx3.fz 1
      obtain ⟨id, time, gen, st, sn, ty, de, d0, d1, d2⟩ := x
      have hx4 := hx3.set 1 (.int .u32 4294967294) ⟨id, 4294967294, gen, st, sn, ty, de, d0, d1, d2⟩ rfl
      have ok4 := hx2.late
      have hg4 := set_grown w2 F 1 (.int .u32 4294967294)
      have hs4 := hs2.far hg4 hlF (by omega)
      dsimp only at c1 ok4
      replace hx4 := Lib.hid hx4
      replace hs4 := Lib.hid hs4
      clear hx3 hs2 hg4
      go_wp2_with (first
        | (refine wpList_load_box rfl (.tmp 4) rfl F _ rfl hx4.out ?_)
        | (refine wpList_store_box rfl (.tmp 2) (.tmp 33) rfl w.heap.size _ Ev.none rfl rfl hs4.out.rs ?_; intro w3 hB3 hg3))
      exact out_box (r := w.heap.size) Try.results44 rfl rfl hB3 ⟨_, rfl, ok4, hs4.out.dz.grown hg3 (fun e => by injection e; omega) (fun k e => by injection e; omega), grown_new hs4.out.gr hg3 (fun k e => by injection e; omega)⟩
end Go.Proofs.Ytekhpcfggbegaaa.De
