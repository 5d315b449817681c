/- FieldsLists holds for every input: the bytes of lists, and what any bytes are decoded to. No condition. -/
import Derived.Test.YtkhdldemhaifpaaF2l
import Derived.Test.YtkhdldemhaifpaaFo
import Derived.Test.YtkhdldemhaifpaaLaw3
namespace Go.Proofs.Ytkhdldemhaifpaa.fieldsLists
open Go.RowKit Go.ChangeShapes Go.WideShapes Go.ChangeAt Go.Proofs.Ytkhdldemhaifpaa.Mem Go.Proofs.Ytkhdldemhaifpaa.F2p Go.Proofs.Ytkhdldemhaifpaa.Fa Go.Proofs.Ytkhdldemhaifpaa.Fl Go.Proofs.Ytkhdldemhaifpaa.Same Go.Proofs.Ytkhdldemhaifpaa.Law
set_option maxRecDepth 100000
set_option maxHeartbeats 2000000

theorem dl_len (b : List UInt8) (f at_ : Nat) (acc : List Fi) : (dl b f at_ acc).2.2.length ≤ acc.length + f := by
  induction f generalizing at_ acc with
  | zero =>
    unfold dl
    split
    · split <;> simp
    · simp
  | succ f ih =>
    unfold dl
    split
    · split
      · simp
      · refine Nat.le_trans (ih _ _) ?_
        simp; omega
    · simp

theorem walk (A : Option Addr) (n c : Nat) (l : List Fi) (hn : n = l.length) (_hw : ∀ x ∈ l, x.2.size ≤ maxLen) (hc : n ≤ c) (hm : c ≤ maxLen) (hA : A = none → c = 0)
    (A' : Option Addr) (n' c' : Nat) (l' : List UInt8) (hn' : n' = l'.length) (hc' : n' ≤ c') (hm' : c' ≤ maxLen) (hA' : A' = none → c' = 0)
    (w : World) (hr : FRow w.heap.size w A l) (hr' : Row w.heap.size w A' l') :
    Calls Try.prog 9 #[.slice A n c, .slice A' n' c'] w fun e w' => e = .returned (.bool true) ∧ Below w.heap.size w w' := by
  have hs : FSl w A n c l := ⟨hn, hr, hc, hm, hA⟩
  have hs' : Sl w A' n' c' l' := ⟨hn', hr', hc', hm', hA'⟩
  have hnm : n ≤ 9223372036854775807 := by unfold maxLen at hm; omega
  have hnm' : n' ≤ 9223372036854775807 := by unfold maxLen at hm'; omega
  have HN := Lib.hid hn
  have HS := Lib.hid hs
  have HT := Lib.hid hs'
  have HWM := Lib.hid _hw
  clear hn hc hm hA hn' hc' hm' hA' hr' hs hs' _hw
  by_cases h30 : n ≤ 30
  · by_cases h600 : n' ≤ 600
    · go_enter Try.func9, Try.ntmps9
      go_wp2_with fail
      go_loop [5] (fun i => ∃ j : Nat, j ≤ n ∧ i = .int .i64 j ∧ ∀ k (hk : k < l.length), k < j → l[k].2.size ≤ 200) (fun i => n - (intOf i).toNat)
      case atStart => exact ⟨0, Nat.zero_le _, rfl, fun k hk h => by omega⟩
      case round =>
        obtain ⟨j, hj, rfl, hall⟩ := hrel
        have HALL := Lib.hid hall
        clear hall
        by_cases hlt : j < n
        · have hjl : j < l.length := by rw [← HN.out]; exact hlt
          obtain ⟨a, rfl, hab, hc0, hc1⟩ := frow_at hr hjl
          have hc1' : w.cell? ((a.add (j * 2)).add 1) = some (.string l[j].2) := by rw [add_add]; exact hc1
          have hc2' : w.cell? ⟨(a.add (j * 2)).block, (a.add (j * 2)).off + 1, none⟩ = some (.string l[j].2) := by rw [← add_next]; exact hc1'
          have hmx := HWM.out _ (List.getElem_mem hjl)
          have HSZ := Lib.hid (show l[j].2 = l[j].2 from rfl)
          have hnx : l[j].2.size ≤ 200 → ∀ k (hk : k < l.length), k < j + 1 → l[k].2.size ≤ 200 := fun h k hk h2 => by
            by_cases e : k = j
            · subst e; exact h
            · exact HALL.out k hk (by omega)
          have HNX := Lib.hid hnx
          unfold maxLen at hmx
          clear hc0 hc1 hnx HSZ
          by_cases h200 : l[j].2.size ≤ 200
          · have h2 := HNX.out h200
            have H2 := Lib.hid h2
            clear h2
            go_wp2_with fail
            exact ⟨⟨j + 1, by omega, by go_num, H2.out⟩, by simp [intOf]; omega⟩
          · go_wp2_with fail
            refine (awake_any _).mono ?_
            rintro e w2 ⟨rfl, hb2⟩
            go_wp2_with fail
            go_ret
            exact ⟨rfl, hb2⟩
        · have hsz : ∀ x ∈ l, x.2.size ≤ 100000 := fun x hx => by
            obtain ⟨i, hi, rfl⟩ := List.mem_iff_getElem.1 hx
            have := HALL.out i hi (by have := HN.out; omega)
            omega
          have hep := Lib.hid (fun u (hu : FSl u A n c l) => elist_p A n c l u hu hsz (by omega))
          have heq := Lib.hid (fun u (hu : FSl u A n c l) => elist_r A n c l u hu hsz (by omega))
          have hdp := Lib.hid (fun u (hu : Sl u A' n' c' l') => dlist_p A' n' c' l' u hu (by omega))
          have hdq := Lib.hid (fun u (hu : Sl u A' n' c' l') => dlist_r A' n' c' l' u hu (by omega))
          have hlen := dl_len l' 16 0 []
          generalize elist l = X at *
          generalize dl l' 16 0 [] = R at *
          obtain ⟨x, xs⟩ := X
          obtain ⟨r, m, rs⟩ := R
          simp only [List.length_nil, Nat.zero_add] at hlen
          have hxx : (x == x) = true := by simp
          have hrr : (r == r) = true := by simp
          clear hsz hr
          go_wp2_with fail
          refine (hep.out w HS.out).mono ?_
          rintro e w1 ⟨A1, n1, c1, rfl, s1, hb1⟩
          go_wp2_with fail
          refine (heq.out w1 (HS.out.step hb1)).mono ?_
          rintro e w2 ⟨A2, n2, c2, rfl, s2, hb2⟩
          have hw2 : Below w.heap.size w w2 := hb1.trans (hb2.mono hb1.size)
          have s1' := s1.step hb2
          clear s1 hb1 hb2
          go_wp2_with fail
          refine (hdp.out w2 (HT.out.step hw2)).mono ?_
          rintro e w3 ⟨A3, n3, c3, rfl, s3, hb3⟩
          have hw3 : Below w.heap.size w w3 := hw2.trans (hb3.mono hw2.size)
          go_wp2_with fail
          refine (hdq.out w3 (HT.out.step hw3)).mono ?_
          rintro e w4 ⟨A4, n4, c4, rfl, s4, hb4⟩
          have hw4 : Below w.heap.size w w4 := hw3.trans (hb4.mono hw3.size)
          have t1 := Lib.hid ((s1'.step hb3).step hb4)
          have t2 := Lib.hid ((s2.step hb3).step hb4)
          have t3 := Lib.hid (s3.step hb4)
          have t4 := Lib.hid s4
          have hn3 : n3 ≤ 16 := by rw [s3.len]; exact hlen
          clear s1' s2 s3 s4 hb3 hb4 hw2 hw3
          go_wp2_with fail
          refine (same_yes t1.out t2.out).mono ?_
          rintro e w5 ⟨rfl, hb5⟩
          go_wp2_with fail
          refine (fsame_list (t3.out.step hb5) (t4.out.step hb5) (by omega)).mono ?_
          rintro e w6 ⟨rfl, hb6⟩
          have hw6 : Below w.heap.size w w6 := hw4.trans ((hb5.trans (hb6.mono hb5.size)).mono hw4.size)
          go_wp2_with fail
          refine (awake_any _).mono ?_
          rintro e w7 ⟨rfl, hb7⟩
          go_wp2_with fail
          go_ret
          exact ⟨rfl, hw6.trans (hb7.mono hw6.size)⟩
    · go_enter Try.func9, Try.ntmps9
      go_wp2_with fail
      refine (awake_any _).mono ?_
      rintro e w2 ⟨rfl, hb2⟩
      go_wp2_with fail
      go_ret
      exact ⟨rfl, hb2⟩
  · go_enter Try.func9, Try.ntmps9
    go_wp2_with fail
    refine (awake_any _).mono ?_
    rintro e w2 ⟨rfl, hb2⟩
    go_wp2_with fail
    go_ret
    exact ⟨rfl, hb2⟩

theorem cells_u8 : Try.prog.cellsOf 5 = 1 := by kernel_rfl
theorem own : ownKnob Try.prog.godebug = none := by kernel_rfl
theorem laidOut : laidOutB Try.prog = true := by kernel_rfl
theorem contract (H : Type) (enc : TypeId × Value → H) (W : World) (base : Nat) (args : Array Value) (ds gs : List (DataW H)) (before : List MemPlace)
    (hval : ∀ (j : Nat) t v, Try.f9.params[j]? = some t → args[j]? = some v → Value.okWide Try.prog W .any base t v)
    (hW : DataW.Whole enc Try.prog Try.f9.params.toList Rows.fieldsListsSpec.vars false W args.toList ds gs before) :
    Calls Try.prog 9 args W fun e W' => ∃ v, e = .returned v ∧ Rows.fieldsListsSpec.post enc Try.prog Try.f9 false true false false W args v W' := by
  have hW' := hW
  obtain ⟨p, q, hA0, hV, rfl, hfz, hnd⟩ := hW
  have hA : DataW.TrodAll enc Try.prog W 0 (fun _ => true) true Try.f9.params.toList args.toList ds p := hA0
  rw [Try.params9] at hA hval
  obtain ⟨v0, vs0, d0, ds0, p0, q0, hargs, rfl, rfl, h0, r0⟩ := trodAll_cons hA
  obtain ⟨v1, vs1, d1, ds1, p1, q1, rfl, rfl, rfl, h1, r1⟩ := trodAll_cons r0
  obtain ⟨rfl, rfl, rfl⟩ := trodAll_nil r1
  obtain rfl : args = #[v0, v1] := by cases args; simp_all
  obtain ⟨A0, n0, c0, l0, rfl, hn0, hr0, hw0, hc0, hm0, hk0⟩ := open_fields Try.underlying30 Try.underlying23 (by kernel_rfl) rfl rfl (by kernel_rfl) (by kernel_rfl) Try.underlying3 Try.underlying9 (hval 0 30 v0 rfl rfl) h0
  obtain ⟨A1, n1, c1, l1, rfl, hn1, hr1, hc1, hm1, hk1⟩ := open_bytes Try.underlying31 Try.underlying5 cells_u8 (hval 1 31 v1 rfl rfl) h1
  clear hA0
  refine (walk A0 n0 c0 l0 hn0 hw0 hc0 hm0 hk0 A1 n1 c1 l1 hn1 hc1 hm1 hk1 W hr0 hr1).mono fun e W' ⟨he, hb⟩ => ?_
  subst he
  exact ⟨_, rfl, law_post laidOut (types_fit (by kernel_rfl)) (by kernel_rfl) Try.underlying4 rfl (fun xs hx => by
    match xs, hx with
    | [_, _], _ => rfl) hW' hb⟩

theorem lifted (os : Os) (started : os.Started) (H : Type) (enc : TypeId × Value → H) :
    ReturnsInHanded {} Try.checked os 9 .any (Rows.fieldsListsSpec.pre6 enc Try.prog Try.f9 Rows.fieldsListsRow.domain false) (Rows.fieldsListsSpec.post enc Try.prog Try.f9 false true false false) := by
  refine returnsInHanded_of_change (C := Try.checked) own started (by kernel_rfl) Try.func9
    (ChangeSpec.witness6 (enc := enc) (C := Try.checked) false ⟨#[], #[.slice none 0 0, .slice none 0 0], []⟩ 8 (by kernel_rfl) (by kernel_rfl) (by kernel_rfl) (by kernel_rfl)) ?_
  intro W base args ds gs before hval hW _ _
  exact contract H enc W base args ds gs before hval hW

theorem proved : Rows.FieldsListsSaid :=
  OpenClaim.holds_of_wide 9 Try.f9 rfl rfl rfl rfl rfl rfl rfl ⟨rfl, rfl, rfl, rfl, rfl⟩ rfl rfl rfl rfl rfl (by kernel_rfl) Try.func9 (by kernel_rfl)
    (of_decide_eq_true (by kernel_rfl)) (by unfold Func.isWrapper; first | (rw [if_pos (by decide +kernel)]; kernel_rfl) | (rw [if_neg (by decide +kernel)]; exact ⟨rfl, rfl⟩))
    (fun os started H enc _ => lifted os started H enc)
end Go.Proofs.Ytkhdldemhaifpaa.fieldsLists
