/- Lists of fields: words, appends; the program's EncodeList. -/
import Derived.Test.YtkhdldemhaifpaaFi
namespace Go.Proofs.Ytkhdldemhaifpaa.Fl
open Go.RowKit Go.Proofs.Ytkhdldemhaifpaa.Mem Go.Proofs.Ytkhdldemhaifpaa.F2p Go.Proofs.Ytkhdldemhaifpaa.Fa
set_option maxRecDepth 100000
set_option maxHeartbeats 1000000

abbrev Fi := Int × ByteArray
theorem add_next (p : Addr) : p.add 1 = ⟨p.block, p.off + 1, none⟩ := rfl
def fvs : List Fi → List Value
  | [] => []
  | x :: l => .int .i64 x.1 :: .string x.2 :: fvs l
theorem fvs_len (l : List Fi) : (fvs l).length = l.length * 2 := by
  induction l with
  | nil => rfl
  | cons x l ih => simp only [fvs, List.length_cons, ih]; omega
theorem fvs_app (a b : List Fi) : fvs (a ++ b) = fvs a ++ fvs b := by
  induction a with
  | nil => rfl
  | cons x a ih => simp only [List.cons_append, fvs, ih]
theorem fvs_one (l : List Fi) : ∀ u ∈ fvs l, u.oneCell' = true := by
  induction l with
  | nil => intro u hu; cases hu
  | cons x l ih =>
    intro u hu
    simp only [fvs, List.mem_cons] at hu
    rcases hu with rfl | rfl | hu
    · rfl
    · rfl
    · exact ih u hu
theorem fvs_get : ∀ (l : List Fi) (k : Nat) (h : k < l.length), (fvs l)[k * 2]? = some (.int .i64 l[k].1) ∧ (fvs l)[k * 2 + 1]? = some (.string l[k].2)
  | x :: l, 0, _ => ⟨rfl, rfl⟩
  | x :: l, k + 1, h => by
    have := fvs_get l k (by simpa using h)
    rw [show (k + 1) * 2 = k * 2 + 1 + 1 by omega]
    simpa [fvs] using this
abbrev FRow (B : Nat) (w : World) (A : Option Addr) (l : List Fi) : Prop := Rd B w A (fvs l)
theorem frow_at {B : Nat} {w : World} {A : Option Addr} {l : List Fi} (h : FRow B w A l) {k : Nat} (hk : k < l.length) :
    ∃ a, A = some a ∧ a.block < B ∧ w.cell? (a.add (k * 2)) = some (.int .i64 l[k].1) ∧ w.cell? (a.add (k * 2 + 1)) = some (.string l[k].2) := by
  obtain ⟨g0, g1⟩ := fvs_get l k hk
  obtain ⟨a, e, hb, hc⟩ := h (by rw [fvs_len]; omega)
  have h0 := hc (k * 2) (by rw [fvs_len]; omega)
  have h1 := hc (k * 2 + 1) (by rw [fvs_len]; omega)
  refine ⟨a, e, hb, ?_, ?_⟩
  · rw [h0]; rw [List.getElem?_eq_getElem (by rw [fvs_len]; omega)] at g0; exact g0
  · rw [h1]; rw [List.getElem?_eq_getElem (by rw [fvs_len]; omega)] at g1; exact g1
/-- A slice of fields that is read. -/
structure FSl (w : World) (A : Option Addr) (n c : Nat) (l : List Fi) : Prop where
  len : n = l.length
  row : FRow w.heap.size w A l
  cap : n ≤ c
  max : c ≤ maxLen
  nil : A = none → c = 0
theorem FSl.step {w w' : World} {A : Option Addr} {n c : Nat} {l : List Fi} (h : FSl w A n c l) (hb : Below w.heap.size w w') : FSl w' A n c l := ⟨h.len, (h.row.below hb).more hb.size, h.cap, h.max, h.nil⟩
theorem FSl.none {w : World} : FSl w none 0 0 [] := ⟨rfl, Rd.nil, Nat.le_refl _, by unfold maxLen; omega, fun _ => rfl⟩
/-- A slice of fields of the call's own. -/
def FOwn (base : Nat) (w : World) (v : Value) (l : List Fi) : Prop := w.ownsRow base 23 2 v l.length (fvs l)
theorem FOwn.nil {base : Nat} {w : World} : FOwn base w (.slice .none 0 0) [] := ⟨by simp [fvs], .inl ⟨rfl, by simp⟩⟩
theorem FOwn.sl {base : Nat} {w : World} {v : Value} {l : List Fi} (h : FOwn base w v l) : ∃ A n c, v = .slice A n c ∧ FSl w A n c l := by
  rcases h.2 with ⟨rfl, h0⟩ | ⟨g, cap, cur, rfl, hg, hh, h1, h2, _⟩
  · obtain rfl : l = [] := List.length_eq_zero_iff.1 h0
    exact ⟨_, _, _, rfl, FSl.none⟩
  · refine ⟨_, _, _, rfl, rfl, fun hl => ?_, h1, h2, fun e => by cases e⟩
    have hlt : g < w.heap.size := by
      rcases Nat.lt_or_ge g w.heap.size with h3 | h3
      · exact h3
      · rw [Array.getElem?_eq_none h3] at hh; cases hh
    exact ⟨_, rfl, hlt, fun k hk => World.ownsRow.cells h (g := g) rfl k _ (List.getElem?_eq_getElem hk)⟩
theorem infoF : (Try.prog.info? 23).map (fun i => (i.zero, i.size, i.bytes)) = some (some (.agg #[.int .i64 0, .string ⟨#[]⟩]), 2, 24) := by kernel_rfl
theorem run_append_f (w : World) (base : Nat) (ty : TypeId) (v : Value) (l : List Fi) (hown : FOwn base w v l) (k : Int) (s : ByteArray) (a : Addr) (c : Nat) (h0 : w.cell? a = some (.int .i64 k)) (h1 : w.cell? (a.add 1) = some (.string s))
    (hl : l.length ≤ 1000) (hbase : base ≤ w.heap.size) :
    ∃ v' w', (Builtin.append_ #[30, 30] ty #[v, .slice (some a) 1 c]).run Try.prog w = .ok v' w' ∧ FOwn base w' v' (l ++ [(k, s)]) ∧ w.grownBy w' v.ownBlock := by
  obtain ⟨i, hi, hz0, hz1, hz2⟩ := info_parts infoF
  have hn : ∀ (j : Nat) (u : Value), ([.int .i64 k, .string s] : List Value)[j]? = some u → w.cell? (a.add j) = some u := fun j u hu => by
    match j with
    | 0 => simp at hu; subst hu; simpa [Addr.add] using h0
    | 1 => simp at hu; subst hu; exact h1
    | j + 2 => simp at hu
  obtain ⟨v', w', hrun, h2, h3, _, _⟩ := run_append_own_at (P := Try.prog) w base 30 ty 23 i _ 2 24 Try.underlying30 hi hz0 hz1 hz2 rfl (by omega) v l.length (fvs l) hown a 1 c [.int .i64 k, .string s] rfl hn
    (fun u hu => fvs_one [(k, s)] u (by simpa [fvs] using hu)) (by unfold maxLen; omega) (by omega) hbase
  refine ⟨v', w', hrun, ?_, h3⟩
  unfold FOwn
  rw [fvs_app, List.length_append]
  exact h2
theorem wpList_append_f {ops : Array Oper} {rest : List Oper} {o : Oper} {a : Act} {Q : Exit → Act → World → Prop} (w : World) (hgd : o.guard = none) (s x : Operand)
    (ho : o.op = .call { callee := .builtin .append, args := #[s, x], argTypes := #[30, 30] })
    (base : Nat) (v : Value) (l : List Fi) (hs : a.eval s = v) (hown : FOwn base w v l) (k : Int) (t : ByteArray) (p : Addr) (c : Nat) (hx : a.eval x = .slice (some p) 1 c)
    (h0 : w.cell? p = some (.int .i64 k)) (h1 : w.cell? (p.add 1) = some (.string t)) (hl : l.length ≤ 1000) (hbase : base ≤ w.heap.size)
    (h : ∀ v' w', FOwn base w' v' (l ++ [(k, t)]) → w.grownBy w' v.ownBlock → wpList Try.prog ops Q rest (a.put o.dst v') w') : wpList Try.prog ops Q (o :: rest) a w := by
  refine wpList_plain hgd fun K hK => ?_
  obtain ⟨v', w', hrun, h2, h3⟩ := run_append_f w base o.type v l hown k t p c h0 h1 hl hbase
  unfold Oper.wp execOp
  simp only [ho, resolve, invoke, builtin, Sem.run_bind, Sem.run_pure, Result.andThen_ok, List.map_toArray, List.map_cons, List.map_nil, hs, hx, hrun]
  exact hK _ _ (h v' w' h2 h3)

/-- The encodings one after the other. -/
def encs (l : List Fi) : List UInt8 := l.flatMap fun x => enc x.1 (bl x.2)
def okf (l : List Fi) : Bool := l.all fun x => vld x.1 (bl x.2)
/-- What EncodeList answers: error, bytes. -/
def elist (l : List Fi) : Int × List UInt8 := if 16 < l.length then (3, []) else if okf l then (0, encs l ++ [193]) else (1, [])
theorem encs_snoc {l : List Fi} {k : Nat} (h : k < l.length) : encs (l.take (k + 1)) = encs (l.take k) ++ enc l[k].1 (bl l[k].2) := by
  rw [List.take_succ_eq_append_getElem h]; unfold encs; rw [List.flatMap_append]; simp
theorem okf_snoc {l : List Fi} {k : Nat} (h : k < l.length) : okf (l.take (k + 1)) = (okf (l.take k) && vld l[k].1 (bl l[k].2)) := by
  rw [List.take_succ_eq_append_getElem h]; unfold okf; rw [List.all_append]; simp
theorem okf_bad {l : List Fi} {k : Nat} (h : k < l.length) (hv : vld l[k].1 (bl l[k].2) = false) : okf l = false := by
  unfold okf
  rw [List.all_eq_false]
  exact ⟨l[k], List.getElem_mem h, by simp [hv]⟩
theorem enc_len64 {k : Int} {l : List UInt8} (h : vld k l = true) : (enc k l).length ≤ 64 := by
  have := (vld_dat h).1
  rw [enc_len]; omega
theorem elist_p (A : Option Addr) (n c : Nat) (l : List Fi) (w : World) (h : FSl w A n c l) (hl : ∀ x ∈ l, x.2.size ≤ 100000) (hn : n ≤ 1000) :
    Calls Try.prog 29 #[.slice A n c] w fun e w' => ∃ A' n' c', e = .returned (.tuple #[.slice A' n' c', .int .i64 (elist l).1]) ∧ Sl w' A' n' c' (elist l).2 ∧ Below w.heap.size w w' := by
  obtain ⟨i0, hi, hz0, hz1, hzq⟩ := info_parts info5
  have sl0 : ∀ u : World, Sl u none 0 0 [] := fun u => ⟨rfl, Rd.nil, Nat.le_refl _, by unfold maxLen; omega, fun _ => rfl⟩
  have HL := Lib.hid h.len
  have HH := Lib.hid hl
  have hrow := h.row
  by_cases h16 : n ≤ 16
  · have he : elist l = if okf l then (0, encs l ++ [193]) else (1, []) := by unfold elist; rw [if_neg (by rw [← h.len]; omega)]
    generalize elist l = R at *
    have HE := Lib.hid he
    clear he h hl
    go_enter Try.func29, Try.ntmps29
    go_wp2_with fail
    go_loopw [4, 14] (fun v i wr => ∃ j : Nat, j ≤ n ∧ i = .int .i64 j ∧ okf (l.take j) = true ∧ Own w.heap.size wr v (encs (l.take j)) ∧ (encs (l.take j)).length ≤ 64 * j ∧ Below w.heap.size w wr) (fun _ i _ => n - (intOf i).toNat)
    case atStart => exact ⟨0, Nat.zero_le _, rfl, rfl, Own.nil, Nat.zero_le _, Below.refl _ _⟩
    case round =>
      obtain ⟨j, hj, rfl, hok, hown, hlen, hbel⟩ := hrel
      have HOK := Lib.hid hok
      have HLE := Lib.hid hlen
      clear hok hlen
      have hz := hbel.size
      by_cases hlt : j < n
      · have hjl : j < l.length := by rw [← HL.out]; exact hlt
        obtain ⟨a, rfl, hab, hc0, hc1⟩ := frow_at (Rd.below hrow hbel) hjl
        have hsz := HH.out _ (List.getElem_mem hjl)
        have hcs := Lib.hid (encs_snoc hjl)
        have hos := Lib.hid (okf_snoc hjl)
        have hbd := Lib.hid (fun hv => okf_bad hjl hv)
        generalize hx : l[j] = x at *
        obtain ⟨k, s⟩ := x
        simp only at hc0 hc1 hsz hcs hos hbd
        clear hx
        have hc1' : wr.cell? ⟨(a.add (j * 2)).block, (a.add (j * 2)).off + 1, none⟩ = some (.string s) := by rw [← add_next, add_add]; exact hc1
        have hst6 : (wr.alloc (.cells #[.int .i64 k, .string s] 23)).heap[wr.heap.size]? = some (.cells #[.int .i64 k, .string s] 23 (0, 0)) := heap_alloc_new wr _
        have hb6 : Below w.heap.size w (wr.alloc (.cells #[.int .i64 k, .string s] 23)) := hbel.alloc hz _
        have hown6 : Own w.heap.size (wr.alloc (.cells #[.int .i64 k, .string s] 23)) u4 (encs (l.take j)) := World.ownsRow.alloc hown _
        go_wp2_with fail
        have hst7 := hst6
        generalize wr.alloc (.cells #[.int .i64 k, .string s] 23) = w6 at *
        generalize wr.heap.size = F at *
        clear hc0 hc1 hc1' hown hst7
        rcases hv : vld k (bl s) with _ | _
        · have hno := Lib.hid (hbd.out hv)
          refine (enc_no k s w6 hv hsz).mono ?_
          rintro e w7 ⟨rfl, hb7⟩
          clear hv
          go_wp2_with fail
          go_ret2
          refine ⟨none, 0, 0, ?_, ?_, hb6.trans (hb7.mono hb6.size)⟩
          · rw [HE.out, if_neg (by rw [hno.out]; simp)]; rfl
          · rw [HE.out, if_neg (by rw [hno.out]; simp)]; exact sl0 _
        · refine (enc_yes k s w6 hv hsz).mono ?_
          rintro e w7 ⟨A7, n7, c7, rfl, -, s7, hb7⟩
          have hown7 : Own w.heap.size w7 u4 (encs (l.take j)) := hown6.below (hb7) (Nat.le_refl _)
          have hbw7 : Below w.heap.size w w7 := hb6.trans (hb7.mono hb6.size)
          have HV := Lib.hid hv
          have hn7 : n7 ≤ 64 := by rw [s7.len]; exact enc_len64 hv
          have HS7 := Lib.hid s7
          clear hown6 hv hb7 s7
          go_wp2_with (at_builtin; (refine wpList_append_rd _ rfl _ _ _ rfl w.heap.size 5 i0 _ 1 Try.underlying31 hi hz0 hz1 hzq rfl _ _ _ rfl hown7 _ A7 n7 c7 (bvs (enc k (bl s))) rfl ((len_bvs _).trans HS7.out.len.symm) HS7.out.row HS7.out.nil (bvs_one _) (by have := HLE.out; unfold maxLen; omega) (by have := HLE.out; omega) hbw7.size ?_); intro v8 w8 hown8 hg8)
          have hl7 := HS7.out.len
          have own9 : Own w.heap.size w8 v8 (encs (l.take (j + 1))) := own_of hown8 (by rw [hcs.out, List.length_append, ← hl7]) (by rw [hcs.out, bvs_app])
          refine ⟨⟨j + 1, by omega, by go_num, ?_, own9, ?_, below_grown hbw7 hown7 hg8 hbw7.size⟩, by simp [intOf]; omega⟩
          · rw [hos.out, HOK.out, HV.out]; rfl
          · have := HLE.out
            rw [hcs.out, List.length_append, ← hl7]; omega
      · obtain rfl : j = n := by omega
        have e1 : l.take j = l := by rw [HL.out, List.take_length]
        have hok := HOK.out
        have hle := HLE.out
        rw [e1] at hown hok hle
        have HO := Lib.hid hok
        have HLL := Lib.hid hle
        clear hok hle e1
        go_wp2_with (at_builtin; (refine wpList_append_rd _ rfl _ _ _ rfl w.heap.size 5 i0 _ 1 Try.underlying31 hi hz0 hz1 hzq rfl _ _ _ rfl (World.ownsRow.alloc hown _) _ _ 1 1 (bvs [193]) rfl rfl (Rd.new wr _ _) (fun hh => by cases hh) (bvs_one _) (by have := HLL.out; unfold maxLen; omega) (by have := HLL.out; omega) (by simp; omega) ?_); intro v8 w8 hown8 hg8)
        have own9 : Own w.heap.size w8 v8 (encs l ++ [193]) := own_app hown8
        obtain ⟨A9, n9, c9, rfl, s9⟩ := Sl.of_own own9
        go_ret2
        refine ⟨A9, n9, c9, ?_, ?_, below_grown (hbel.alloc hz _) (World.ownsRow.alloc hown _) hg8 (by simp; omega)⟩
        · rw [HE.out, if_pos HO.out]; rfl
        · rw [HE.out, if_pos HO.out]; exact s9
  · have he : elist l = (3, []) := by unfold elist; rw [if_pos (by rw [← h.len]; omega)]
    rw [he]
    clear he h hl hrow
    go_enter Try.func29, Try.ntmps29
    go_wp2_with fail
    go_ret2
    exact ⟨none, 0, 0, rfl, sl0 _, Below.refl _ _⟩
end Go.Proofs.Ytkhdldemhaifpaa.Fl
