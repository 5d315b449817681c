/- Walks: records that are looked for, and deleted. -/
import Derived.Test.YtekhpcfggbegaaaGf
import Derived.Lib.SliceRun
namespace Go.Proofs.Ytekhpcfggbegaaa.G9
open Go.RowKit Go.Proofs.Ytekhpcfggbegaaa.Mem Go.Proofs.Ytekhpcfggbegaaa.F2p Go.Proofs.Ytekhpcfggbegaaa.E5p Go.Proofs.Ytekhpcfggbegaaa.E5m Go.Proofs.Ytekhpcfggbegaaa.E5a Go.Proofs.Ytekhpcfggbegaaa.E5d Go.Proofs.Ytekhpcfggbegaaa.V7 Go.Proofs.Ytekhpcfggbegaaa.V9
set_option maxRecDepth 100000
set_option maxHeartbeats 1000000

/-- The index of the first record with p. -/
def ixOf (p : Rc → Bool) (l : List Rc) : Int := if l.any p then ((l.findIdx p : Nat) : Int) else -1
/-- A closure with one variable of its own says p of each record of l. -/
def Says (F : FuncId) (q : Value) (p : Rc → Bool) (l : List Rc) (w : World) : Prop := ∀ r ∈ l, ∀ u, Below w.heap.size w u → Calls Try.prog F #[r.v, q] u fun e u' => e = .returned (.bool (p r)) ∧ Below u.heap.size u u'
theorem index_p (F : FuncId) (q : Value) (p : Rc → Bool) (A : Option Addr) (n c : Nat) (l : List Rc) (w : World) (hFF : F = 174 ∨ F = 84) (hl : RSl w A n c l) (hF : Says F q p l w) :
    Calls Try.prog 83 #[.slice A n c, .func (.func F) #[] #[q]] w fun e w' => e = .returned (.int .i64 (ixOf p l)) ∧ Below w.heap.size w w' := by
  have HL := Lib.hid hl; have HN := Lib.hid hl.len
  have HF := Lib.hid hF
  have hcm : n ≤ 2 ^ 63 - 1 := Nat.le_trans hl.cap hl.max
  clear hl hF
  rcases hFF with rfl | rfl
  all_goals
    go_enter Try.func83, Try.ntmps83
    go_wp2_with fail
    go_loopw [8] (fun v wr => ∃ j : Nat, j ≤ n ∧ v = .int .i64 (j : Int) ∧ (l.take j).any p = false ∧ Below w.heap.size w wr) (fun v _ => n - (intOf v).toNat)
    case atStart => exact ⟨0, Nat.zero_le _, rfl, by simp, Below.refl _ _⟩
    case round =>
      obtain ⟨j, hj, rfl, hall, hbel⟩ := hrel
      by_cases hlt : j < n
      · have b0 : decide ((j : Int) < (n : Int)) = true := by simp; exact hlt
        have hjl : j < l.length := by have := HN.out; omega
        obtain ⟨a, rfl, hab, k0⟩ := rrow_at (HL.out.step hbel).row hjl
        have n1 : (j : Int) < (n : Int) := by omega
        have n2 : (0 : Int) ≤ (j : Int) := by omega
        have htk : (l.take (j + 1)).any p = p l[j] := by
          rw [List.take_succ_eq_append_getElem hjl, List.any_append, hall]; simp
        have hix : p l[j] = true → ixOf p l = (j : Int) := fun hp => by
          unfold ixOf
          have hany : l.any p = true := List.any_eq_true.2 ⟨_, List.getElem_mem hjl, hp⟩
          rw [if_pos hany]
          congr 1
          rw [List.findIdx_eq hjl]
          refine ⟨hp, fun i hi => ?_⟩
          have h1 : (l.take j).any p ≠ true := by rw [hall]; decide
          rcases hpi : p (l[i]'(Nat.lt_trans hi hjl)) with _ | _
          · rfl
          · exact absurd (List.any_eq_true.2 ⟨l[i]'(Nat.lt_trans hi hjl), List.mem_take_iff_getElem.2 ⟨i, by omega, rfl⟩, hpi⟩) h1
        have hcl := HF.out l[j] (List.getElem_mem hjl) wr hbel
        have HTK := Lib.hid htk
        have HIX := Lib.hid hix
        have HK := Lib.hid k0
        have HC := Lib.hid hcl
        clear hall k0 htk hix hcl
        generalize l[j] = x at *
        go_wp2_with (refine wpList_load_rc rfl (.tmp 14) rfl (a.add (j * 11)) x rfl HK.out ?_)
        refine HC.out.mono ?_
        rintro e w2 ⟨rfl, hb2⟩
        have hbel2 := hbel.trans (hb2.mono hbel.size)
        clear HC
        obtain ⟨b, hb⟩ : ∃ b, b = p x := ⟨_, rfl⟩
        rw [← hb] at HTK HIX ⊢
        clear hb
        cases b
        · go_wp2_with fail
          exact ⟨⟨j + 1, by omega, by push_cast; rfl, HTK.out, hbel2⟩, by simp [intOf]; omega⟩
        · go_wp2_with fail
          go_ret
          have hx := HIX.out (by first | rfl | trivial)
          exact ⟨by rw [hx]; rfl, hbel2⟩
      · have b0 : decide ((j : Int) < (n : Int)) = false := by simp; omega
        have htk : l.take j = l := List.take_of_length_le (by have := HN.out; omega)
        rw [htk] at hall
        have HA := Lib.hid hall
        clear htk hall
        go_wp2_with fail
        go_ret
        have hx : ixOf p l = -1 := by unfold ixOf; rw [HA.out]; rfl
        exact ⟨by rw [hx]; rfl, hbel⟩
theorem older_p (r : Rc) (t b : Nat) (u : World) (hq : r.q ≤ 4294967296) (hb : u.cell? ⟨b, 0, none⟩ = some (.int .i64 (t : Int))) (hbl : b < u.heap.size) :
    Calls Try.prog 174 #[r.v, .pointer (some ⟨b, 0, none⟩)] u fun e u' => e = .returned (.bool (decide (r.q < t))) ∧ Below u.heap.size u u' := by
  have hal : Below u.heap.size u (u.alloc (.cells r.cells 133)) := (Below.refl _ _).alloc (Nat.le_refl _) _
  have c0 : (u.alloc (.cells r.cells 133)).cell? ⟨u.heap.size, 0, none⟩ = some (.int .i64 (r.q : Int)) := cell_of_row _ _ 0 _ _ _ (heap_alloc_new u _)
  have c1 := (hal.cell (p := ⟨b, 0, none⟩) hbl).trans hb
  obtain ⟨q, id, time, gen, st, sn, ty, de, d0, d1, d2⟩ := r
  simp only [Rc.v, Rc.cells] at *
  replace hal := Lib.hid hal
  go_enter Try.func174, Try.ntmps174
  go_wp2_with fail
  go_ret
  exact ⟨rfl, hal.out⟩
def flatN (n : Nat) : List Value := (Builtin.zeroCells Rc.none.cells n).toList
theorem flat_len (n : Nat) : (flatN n).length = n * 11 := by
  unfold flatN Builtin.zeroCells
  simp [Rc.none, Rc.cells]
theorem run_clear_rc (w : World) (ty : TypeId) (b o n c : Nat) (ht : w.there b o (n * 11)) :
    (Builtin.clear_ #[128] ty #[.slice (some ⟨b, o, none⟩) n c]).run Try.prog w = .ok (.tuple #[]) (w.setCells b o (flatN n)) := by
  have hone : ∀ v ∈ flatN n, v.oneCell' = true := fun v hv => by
    unfold flatN Builtin.zeroCells at hv
    simp only [Array.toList_map, List.mem_map] at hv
    obtain ⟨i, -, rfl⟩ := hv
    have hlt : i % Rc.none.cells.size < Rc.none.cells.size := Nat.mod_lt _ (by decide)
    rw [getElem!_pos Rc.none.cells _ hlt]
    exact Array.all_eq_true_iff_forall_mem.1 (rc_one Rc.none) _ (Array.getElem_mem hlt)
  have hst := run_storeCells_cells (P := Try.prog) b o (flatN n) 0 w (by rw [flat_len]; exact fun j hj => by simpa using (ht j hj).1) (by rw [flat_len]; exact fun j hj => by simpa using (ht j hj).2) hone
  simp only [Nat.add_zero] at hst
  have hv : ∀ u : World, (zeroValue 133).run Try.prog u = .ok Rc.none.v u := fun u => by
    obtain ⟨i, hi, hz0, hz1, hz2⟩ := info_parts infoR
    simp [zeroValue, typeInfo, hi, hz0]
  have hzc : Rc.none.v.cells = Rc.none.cells := rfl
  rcases Nat.eq_zero_or_pos n with rfl | hn
  · have h0 : flatN 0 = [] := List.eq_nil_of_length_eq_zero (by rw [flat_len])
    rw [h0]
    simp [Builtin.clear_, run_underlying Try.underlying128]
    rfl
  · obtain ⟨m, rfl⟩ : ∃ m, n = m + 1 := ⟨n - 1, by omega⟩
    have hst' : (storeCells ⟨b, o, none⟩ (Builtin.zeroCells Rc.none.cells (m + 1)).toList).run Try.prog w = .ok () (w.setCells b o (flatN (m + 1))) := hst
    simp [Builtin.clear_, run_underlying Try.underlying128, hv, hzc, hst']
/-! Several cells of a row of the call's own. -/
def sets (xs : List Value) : Nat → List Value → List Value
  | _, [] => xs
  | o, v :: r => sets (xs.set o v) (o + 1) r
section
variable {base e size n g cap : Nat}
theorem grown_refl (w : World) (b : Option Nat) : w.grownBy w b := ⟨rfl, rfl, rfl, Nat.le_refl _, fun _ _ _ => rfl⟩
theorem own_sets : ∀ (vs : List Value) (o : Nat) (w : World) (xs : List Value), w.ownsRow base e size (.slice (some ⟨g, 0, none⟩) n cap) n xs →
    (w.setCells g o vs).ownsRow base e size (.slice (some ⟨g, 0, none⟩) n cap) n (sets xs o vs) ∧ w.grownBy (w.setCells g o vs) (some g)
  | [], _, w, _, h => ⟨h, grown_refl w _⟩
  | v :: r, o, w, xs, h => by
    obtain ⟨h1, h2⟩ := World.ownsRow.stored h o v
    obtain ⟨h3, h4⟩ := own_sets r (o + 1) _ _ h1
    exact ⟨h3, grown_trans h2 h4⟩
theorem own_there {w : World} {xs : List Value} (h : w.ownsRow base e size (.slice (some ⟨g, 0, none⟩) n cap) n xs) (o k : Nat) (hk : o + k ≤ xs.length) : w.there g o k := fun j hj => by
  refine ⟨?_, World.ownsRow.frozenAt h (o + j)⟩
  have := World.ownsRow.cells h (g := g) rfl (o + j) _ (List.getElem?_eq_getElem (by omega : o + j < xs.length))
  rw [show (⟨g, o + j, none⟩ : Addr) = (⟨g, 0, none⟩ : Addr).add (o + j) by rw [Addr.add_mid, Nat.zero_add], this]
  rfl
theorem own_trunc {w : World} {xs : List Value} (h : w.ownsRow base e size (.slice (some ⟨g, 0, none⟩) n cap) n xs) (i : Nat) (hi : i ≤ n) : w.ownsRow base e size (.slice (some ⟨g, 0, none⟩) i cap) i (xs.take (i * size)) := by
  have hle : i * size ≤ n * size := Nat.mul_le_mul_right _ hi
  rcases h.2 with ⟨hv, _⟩ | ⟨g', cap', cur, hv, h1, h2, h3, h4, h5, h6⟩
  · cases hv
  · injection hv with e1 e2 e3
    injection e1 with e1
    injection e1 with e1
    subst e1 e3
    refine ⟨by rw [List.length_take, h.1]; omega, .inr ⟨g, cap, cur, rfl, h1, h2, by omega, h4, h5, ?_⟩⟩
    rw [← h6, List.take_take, Nat.min_eq_left hle]
end
theorem sets_len : ∀ (vs : List Value) (xs : List Value) (o : Nat), (sets xs o vs).length = xs.length
  | [], _, _ => rfl
  | v :: r, xs, o => by rw [sets, sets_len r, List.length_set]
theorem sets_take : ∀ (vs : List Value) (xs : List Value) (o k : Nat), k ≤ o → (sets xs o vs).take k = xs.take k
  | [], _, _, _, _ => rfl
  | v :: r, xs, o, k, h => by rw [sets, sets_take r _ _ _ (by omega), List.take_set_of_le h]
theorem sets_shift : ∀ (vs : List Value) (a xs : List Value) (o : Nat), sets (a ++ xs) (a.length + o) vs = a ++ sets xs o vs
  | [], _, _, _ => rfl
  | v :: r, a, xs, o => by
    rw [sets, List.set_append_right _ _ (by omega), Nat.add_sub_cancel_left, Nat.add_assoc, sets_shift r, sets]
theorem sets_front : ∀ (vs : List Value) (a xs : List Value), a.length = vs.length → sets (a ++ xs) 0 vs = vs ++ xs
  | [], a, xs, h => by rw [List.length_eq_zero_iff.1 h]; rfl
  | v :: r, a, xs, h => by
    obtain ⟨b, a', rfl⟩ : ∃ b a', a = b :: a' := by
      cases a with
      | nil => cases h
      | cons b a' => exact ⟨b, a', rfl⟩
    rw [sets]
    show sets ((v :: a') ++ xs) (0 + 1) r = _
    have h1 := sets_shift r [v] (a' ++ xs) 0
    have h2 := sets_front r a' xs (by simpa using h)
    rw [h2] at h1
    exact h1
theorem rcs_set : ∀ (l : List Rc) (i : Nat) (_ : i < l.length) (r : Rc), sets (rcs l) (i * 11) r.cells.toList = rcs (l.set i r)
  | x :: l, 0, _, r => by
    rw [Nat.zero_mul, rcs, List.set_cons_zero, rcs]
    exact sets_front _ _ _ rfl
  | x :: l, i + 1, h, r => by
    rw [List.set_cons_succ, rcs, rcs, ← rcs_set l i (by simpa using h) r, ← sets_shift _ x.cells.toList, rc_len]
    congr 1
    omega
theorem rcs_take (l : List Rc) (k : Nat) (hk : k ≤ l.length) : (rcs l).take (k * 11) = rcs (l.take k) := by
  have h := rcs_app (l.take k) (l.drop k)
  rw [List.take_append_drop] at h
  rw [h, List.take_left' (by rw [rcs_len, List.length_take, Nat.min_eq_left hk])]
end Go.Proofs.Ytekhpcfggbegaaa.G9
