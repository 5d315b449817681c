/- A law that leaves what was there alone: from its walk to its row, whatever its parameters are. -/
import Derived.Test.YtekhpcfggbegaaaMem
import Derived.ProofKit
import Derived.OpenShut
import Derived.ChangeSlices
namespace Go.Proofs.Ytekhpcfggbegaaa.Law
open Go.RowKit Go.ChangeShapes Go.WideShapes Go.ChangeAt Go.Proofs.Ytekhpcfggbegaaa.Mem

section
variable {H : Type} {enc : TypeId × Value → H} {P : Program}
theorem all_stay (hl : laidOutB P = true) {W W' : World} {sp : Nat → Bool} (hb : Below W.heap.size W W') : ∀ (ts : List TypeId) (vs : List Value) (ds : List (DataW H)) (ps : List MemPlace),
    (∀ t ∈ ts, P.readableRec t = true ∧ t < P.types.size) → DataW.TrodAll enc P W 0 (fun _ => true) true ts vs ds ps → (∀ p ∈ ps, p.block < W.heap.size) → (∀ p ∈ ps, sp p.block = true) →
    DataW.TrodAll enc P W' 0 sp true ts vs ds ps
  | [], [], [], _, _, h, _, _ => h
  | t :: ts, v :: vs, d :: ds, _, hr, ⟨p, q, h1, h2, e⟩, hlt, hs => by
    subst e
    exact ⟨p, q, WideElems.Trod_stays hl (hr t (by simp)).1 (hr t (by simp)).2 h1 (fun x hx => hb.same (hlt x (List.mem_append_left _ hx))) (fun x hx => hs x (List.mem_append_left _ hx)),
      all_stay hl hb ts vs ds q (fun u hu => hr u (List.mem_cons_of_mem _ hu)) h2 (fun x hx => hlt x (List.mem_append_right _ hx)) (fun x hx => hs x (List.mem_append_right _ hx)), rfl⟩

theorem all_len {w : World} {base : Nat} {sp : Nat → Bool} {held : Bool} : ∀ (ts : List TypeId) (vs : List Value) (ds : List (DataW H)) (ps : List MemPlace), DataW.TrodAll enc P w base sp held ts vs ds ps → ds.length = ts.length
  | [], [], [], _, _ => rfl
  | _ :: ts, _ :: vs, _ :: ds, _, ⟨_, q, _, h2, _⟩ => by rw [List.length_cons, List.length_cons, all_len ts vs ds q h2]

/-- The row's post of a law: it returned true, and below the heap's old size nothing has turned. -/
theorem law_post {f : Func} {s : ChangeSpec} {W W' : World} {args : Array Value} {ds gs : List (DataW H)} {before : List MemPlace} {tb : TypeId}
    (hl : laidOutB P = true) (hts : ∀ t ∈ f.params.toList, P.readableRec t = true ∧ t < P.types.size) (hrt : f.resultTypes = #[tb]) (htb : P.underlying tb = some .bool)
    (hv : s.vars = []) (hfn : ∀ xs : List (DataW H), xs.length = f.params.size → s.fn H xs = { results := [.lit (.bool true)], args := xs })
    (hW : DataW.Whole enc P f.params.toList s.vars false W args.toList ds gs before) (hb : Below W.heap.size W W') :
    s.post enc P f false true false false W args (.bool true) W' := by
  have hlt : ∀ p ∈ before, p.block < W.heap.size := fun p hp => hW.lt p hp
  have hW' := hW
  obtain ⟨p, q, hA0, hV, rfl, _, _⟩ := hW
  have hA : DataW.TrodAll enc P W 0 (fun _ => true) true f.params.toList args.toList ds p := hA0
  rw [hv] at hV
  obtain ⟨rfl, rfl⟩ := trodVars_none hV
  have hlen : ds.length = f.params.size := by simpa using all_len _ _ _ _ hA
  have hf := hfn ds hlen
  have hsame : s.fn H (ds ++ []) = { results := [.lit (.bool true)], args := ds } := by rw [List.append_nil]; exact hf
  refine ⟨ds, [], p ++ [], [], p, [], hW', ?_, ?_, ?_, World.keptBut_mono (fun x hx => ⟨hx, .inr (.inl (by simpa using hx))⟩) (hb.frame _), fun h => by cases h⟩
  · rw [hsame, hrt]
    exact trodAll_cons_mk (shut_bool htb _) trodAll_mk0
  · rw [hsame]
    exact all_stay hl hb _ _ _ _ hts hA (fun x hx => hlt x (by simpa using hx)) (fun x hx => by simpa using hlt x (by simpa using hx))
  · rw [hsame, hv]
    rfl

theorem types_fit {f : Func} (h : (f.params.toList.all fun t => P.readableRec t && decide (t < P.types.size)) = true) : ∀ t ∈ f.params.toList, P.readableRec t = true ∧ t < P.types.size := fun t ht => by
  have := List.all_eq_true.1 h t ht
  simpa using this
theorem bounds_i64 {n : Int} (h : (Lit.int .i64 n).wf = true) : -9223372036854775808 ≤ n ∧ n ≤ 9223372036854775807 := by simpa [Lit.wf, IntKind.min, IntKind.max, IntKind.signed, IntKind.bits] using h
theorem bounds_u8 {n : Int} (h : (Lit.int .u8 n).wf = true) : 0 ≤ n ∧ n ≤ 255 := by simpa [Lit.wf, IntKind.min, IntKind.max, IntKind.signed, IntKind.bits] using h
theorem bounds_u32 {n : Int} (h : (Lit.int .u32 n).wf = true) : 0 ≤ n ∧ n ≤ 4294967295 := by simpa [Lit.wf, IntKind.min, IntKind.max, IntKind.signed, IntKind.bits] using h
theorem bounds_u64 {n : Int} (h : (Lit.int .u64 n).wf = true) : 0 ≤ n ∧ n ≤ 18446744073709551615 := by simpa [Lit.wf, IntKind.min, IntKind.max, IntKind.signed, IntKind.bits] using h
theorem open_bytes {w : World} {base : Nat} {t e : TypeId} {v : Value} {d : DataW H} {ps : List MemPlace} (ht : P.underlying t = some (.slice e)) (he : P.underlying e = some (.int .u8)) (hc : P.cellsOf e = 1)
    {r : Reach} {b0 : Nat} (hval : Value.okWide P w r b0 t v) (h : DataW.Trod enc P w base (fun _ => true) true t v d ps) :
    ∃ (A : Option Addr) (n c : Nat) (l : List UInt8), v = .slice A n c ∧ n = l.length ∧ Row w.heap.size w A l ∧ n ≤ c ∧ c ≤ maxLen ∧ (A = none → c = 0) := by
  obtain ⟨a0, len0, cap0, rfl⟩ := okWide_slice ht hval
  obtain ⟨m, hm⟩ := h
  rcases open_ints ht he hc hm with ⟨h1, h2⟩ | ⟨a, len, cap, zs, h1, -, h3, h4, h5, -, h7, h8⟩
  · have h1 : Value.slice a0 len0 cap0 = Value.slice none 0 0 := by simpa [Value.cells] using h1
    exact ⟨none, 0, 0, [], h1, rfl, Rd.nil, Nat.le_refl _, by unfold maxLen; omega, fun _ => rfl⟩
  · have h1 : Value.slice a0 len0 cap0 = Value.slice (some a) len cap := by simpa [Value.cells] using h1
    simp only [if_true] at h5
    refine ⟨some a, len, cap, (zs.take len).map (fun z => UInt8.ofNat z.toNat), h1, by simp; omega, fun hl => ⟨a, rfl, ?_, fun k hk => ?_⟩, h3, h4, fun hh => by cases hh⟩
    · have hz : 0 < zs.length := by simp [bvs] at hl; omega
      have hcell := h7 0 hz
      rw [← add_block a 0]
      rcases Nat.lt_or_ge (a.add 0).block w.heap.size with hh | hh
      · exact hh
      · simp [World.cell?, Array.getElem?_eq_none hh] at hcell
    · have hk' : k < zs.length := by simp [bvs] at hk; omega
      rw [h7 k hk']
      have hw := h8 _ (List.getElem_mem hk')
      have hx : 0 ≤ zs[k] ∧ zs[k] ≤ 255 := by simpa [Lit.wf, IntKind.min, IntKind.max, IntKind.signed, IntKind.bits] using hw
      have e1 : zs.getD k 0 = zs[k] := by rw [List.getD, List.getElem?_eq_getElem hk']; rfl
      have e2 : ((UInt8.ofNat zs[k].toNat).toNat : Int) = zs[k] := by rw [UInt8.toNat_ofNat']; omega
      rw [e1]
      simp only [bvs, List.getElem_map, List.getElem_take, bv, e2]
theorem open_int_list {w : World} {base : Nat} {t e : TypeId} {v : Value} {d : DataW H} {ps : List MemPlace} (ht : P.underlying t = some (.slice e)) (he : P.underlying e = some (.int .i64)) (hc : P.cellsOf e = 1)
    {r : Reach} {b0 : Nat} (hval : Value.okWide P w r b0 t v) (h : DataW.Trod enc P w base (fun _ => true) true t v d ps) :
    ∃ (A : Option Addr) (n c : Nat) (l : List Int), v = .slice A n c ∧ n = l.length ∧ IRow w.heap.size w A l ∧ (∀ x ∈ l, -9223372036854775808 ≤ x ∧ x ≤ 9223372036854775807) ∧ n ≤ c ∧ c ≤ maxLen ∧ (A = none → c = 0) := by
  obtain ⟨a0, len0, cap0, rfl⟩ := okWide_slice ht hval
  obtain ⟨m, hm⟩ := h
  rcases open_ints ht he hc hm with ⟨h1, h2⟩ | ⟨a, len, cap, zs, h1, -, h3, h4, h5, -, h7, h8⟩
  · have h1 : Value.slice a0 len0 cap0 = Value.slice none 0 0 := by simpa [Value.cells] using h1
    exact ⟨none, 0, 0, [], h1, rfl, Rd.nil, by simp, Nat.le_refl _, by unfold maxLen; omega, fun _ => rfl⟩
  · have h1 : Value.slice a0 len0 cap0 = Value.slice (some a) len cap := by simpa [Value.cells] using h1
    simp only [if_true] at h5
    refine ⟨some a, len, cap, zs.take len, h1, by simp; omega, fun hl => ⟨a, rfl, ?_, fun k hk => ?_⟩, fun x hx => bounds_i64 (h8 x (List.mem_of_mem_take hx)), h3, h4, fun hh => by cases hh⟩
    · have hz : 0 < zs.length := by simp [ivs] at hl; omega
      have hcell := h7 0 hz
      rw [← add_block a 0]
      rcases Nat.lt_or_ge (a.add 0).block w.heap.size with hh | hh
      · exact hh
      · simp [World.cell?, Array.getElem?_eq_none hh] at hcell
    · have hk' : k < zs.length := by simp [ivs] at hk; omega
      have e1 : zs.getD k 0 = zs[k] := by rw [List.getD, List.getElem?_eq_getElem hk']; rfl
      rw [h7 k hk', e1]
      simp only [ivs, List.getElem_map, List.getElem_take]
end
end Go.Proofs.Ytekhpcfggbegaaa.Law
