/- FieldsMany holds for every input: what happens at the limit of the number of fields. No condition. -/
import Derived.Test.YtkhdldemhaifpaaFn
import Derived.Test.YtkhdldemhaifpaaFq
import Derived.Test.YtkhdldemhaifpaaLaw
namespace Go.Proofs.Ytkhdldemhaifpaa.fieldsMany
open Go.RowKit Go.ChangeShapes Go.WideShapes Go.ChangeAt Go.Proofs.Ytkhdldemhaifpaa.Mem Go.Proofs.Ytkhdldemhaifpaa.F2p Go.Proofs.Ytkhdldemhaifpaa.Fa Go.Proofs.Ytkhdldemhaifpaa.Fl Go.Proofs.Ytkhdldemhaifpaa.Made Go.Proofs.Ytkhdldemhaifpaa.Law
set_option maxRecDepth 100000
set_option maxHeartbeats 3000000

def Dj (a b : Option Nat) : Prop := ∀ x, a = some x → b = some x → False
theorem Dj.far {a b : Option Nat} (h : Dj a b) : b = none ∨ b ≠ a := by
  rcases b with _ | x
  · exact .inl rfl
  · exact .inr fun e => h x e.symm rfl
theorem Dj.far' {a b : Option Nat} (h : Dj a b) : a = none ∨ a ≠ b := by
  rcases a with _ | x
  · exact .inl rfl
  · exact .inr fun e => h x rfl e.symm
theorem elist_rep (x : Fi) (n : Nat) (h : vld x.1 (bl x.2) = true) : elist (List.replicate n x) = if 16 < n then (3, []) else (0, encs (List.replicate n x) ++ [193]) := by
  unfold elist
  rw [List.length_replicate, okf_rep x n h]
  simp
theorem dl_rep (x : Fi) (n : Nat) (h : vld x.1 (bl x.2) = true) : dl (encs (List.replicate n x) ++ [193]) 16 0 [] = if n ≤ 16 then (0, n * (enc x.1 (bl x.2)).length + 1, List.replicate n x) else (3, 0, []) := by
  have := dl_whole (List.replicate n x) [] (okf_rep x n h)
  rw [List.append_nil, List.length_replicate, encs_rep] at this
  exact this

theorem walk (A : Option Addr) (n c : Nat) (l : List Int) (hn : n = l.length) (hw : ∀ x ∈ l, -9223372036854775808 ≤ x ∧ x ≤ 9223372036854775807) (hc : n ≤ c) (hm : c ≤ maxLen) (_hA : A = none → c = 0)
    (y : Int) (hy : -9223372036854775808 ≤ y ∧ y ≤ 9223372036854775807)
    (w : World) (hr : IRow w.heap.size w A l) :
    Calls Try.prog 11 #[.slice A n c, .int .i64 y] w fun e w' => e = .returned (.bool true) ∧ Below w.heap.size w w' := by
  have hnm : n ≤ maxLen := by omega
  have HN := Lib.hid hn
  have HW := Lib.hid hw
  clear hn hw hc hm _hA
  by_cases h6 : n ≤ 600
  · have d6 : decide (n ≤ 600) = true := decide_eq_true h6
    obtain ⟨i0, hi0, hz0, hz1, hzq⟩ := info_parts info5
    go_enter Try.func11, Try.ntmps11
    go_wp2_with fail
    refine (lightmade_any A n c _ hnm).mono ?_
    rintro e w' ⟨rfl, rfl⟩
    rw [d6]
    go_wp2_with fail
    refine (roll_any A n c w).mono ?_
    rintro e w1 ⟨rfl, rfl⟩
    obtain ⟨hdz, hb1⟩ := irow_light (c := c) HN.out hr HW.out h6
    go_wp2_with fail
    refine hdz.field.mono ?_
    rintro e w2 ⟨k, s, rfl, hv, hd2, hg2⟩
    have hb2 : Below w.heap.size w w2 := hb1.trans (grown_lo hg2 (Nat.le_refl _) hdz.lt)
    have hs5 : s.size ≤ 100000 := by have := vld_size hv; omega
    have hst3 : (w2.alloc (.cells #[.int .i64 k, .string s] 23)).heap[w2.heap.size]? = some (.cells #[.int .i64 k, .string s] 23 (0, 0)) := heap_alloc_new w2 _
    have hb3 : Below w.heap.size w (w2.alloc (.cells #[.int .i64 k, .string s] 23)) := hb2.alloc hb2.size _
    clear hd2 hg2 hdz hb1 hr
    go_wp2_with fail
    generalize w2.alloc (.cells #[.int .i64 k, .string s] 23) = w3 at *
    generalize w2.heap.size = F at *
    refine (mod_at y 4 4 w3 rfl hy.1 hy.2 (by omega) (by omega)).mono ?_
    rintro e w' ⟨m, hm4, rfl, rfl⟩
    obtain ⟨c0, c1, -⟩ := pair_cells hst3
    go_wp2_with fail
    refine (enc_yes k s w3 hv hs5).mono ?_
    rintro e W ⟨A9, n9, c9, rfl, -, s9, hb4⟩
    have hst4 := (hb4.block F (lt_of_some hst3)).trans hst3
    have hbW : Below w.heap.size w W := hb3.trans (hb4.mono hb3.size)
    have hn9 : n9 ≤ 64 := by rw [s9.len]; exact enc_len64 hv
    have HV := Lib.hid hv
    have HS9 := Lib.hid s9
    have hFW := lt_of_some hst4
    clear hst3 hb3 hb4 c0 c1 hb2 s9 hv
    go_wp2_with fail
    go_loopw [7, 8, 11] (fun v7 v8 i wr => ∃ j : Nat, j ≤ 15 + m ∧ i = .int .i64 j ∧ FOwn W.heap.size wr v7 (List.replicate j (k, s)) ∧ Own W.heap.size wr v8 (encs (List.replicate j (k, s))) ∧ Dj v7.ownBlock v8.ownBlock ∧ Below W.heap.size W wr) (fun _ _ i _ => 15 + m - (intOf i).toNat)
    case atStart => exact ⟨0, by omega, rfl, FOwn.nil, Own.nil, (fun x h _ => (by cases h)), Below.refl _ _⟩
    case round =>
      obtain ⟨j, hj, rfl, hown7, hown8, hdj, hbel⟩ := hrel
      have HD := Lib.hid hdj
      clear hdj
      have hz := hbel.size
      by_cases hlt : j < 15 + m
      · have hst5 := (hbel.block F hFW).trans hst4
        obtain ⟨c0, c1, -⟩ := pair_cells hst5
        have hre := Lib.hid (encs_rep (k, s) j)
        have hb6 : Below W.heap.size W (wr.alloc (.cells #[.int .i64 k, .string s] 23)) := hbel.alloc hz _
        have hlb : (encs (List.replicate j (k, s))).length ≤ 64 * 18 := by
          rw [encs_rep]
          exact Nat.le_trans (Nat.mul_le_mul (by omega : j ≤ 18) (enc_len64 HV.out)) (by omega)
        have HLB := Lib.hid hlb
        clear hlb hst5
        go_wp2_with (first
          | (at_builtin; (refine wpList_append_f2 _ rfl (.tmp 37) (.tmp 39) rfl W.heap.size _ (List.replicate j (k, s)) rfl (World.ownsRow.alloc hown7 _) k s _ 1 rfl (new_pair _ _ rfl _ _ _).1 (new_pair _ _ rfl _ _ _).2 (by rw [List.length_replicate]; omega) hb6.size ?_); intro v1 w5 hown1 hg1 hbk1; have hk8 : Own W.heap.size w5 u8 (encs (List.replicate j (k, s))) := World.ownsRow.kept (World.ownsRow.alloc hown8 _) hg1 HD.out.far; have hb7 := below_grown' hb6 (World.ownsRow.alloc hown7 _) hg1 hb6.size)
          | (at_builtin; (refine wpList_append_rd2 _ rfl (.tmp 41) (.tmp 42) 31 rfl W.heap.size 5 i0 _ 1 Try.underlying31 hi0 hz0 hz1 hzq rfl _ _ _ rfl hk8 _ A9 n9 c9 (bvs (enc k (bl s))) rfl ((len_bvs _).trans HS9.out.len.symm) ((HS9.out.row).below hb7) HS9.out.nil (bvs_one _) (by have := HLB.out; unfold maxLen; omega) (by have := HLB.out; omega) hb7.size ?_); intro v2 w6 hown2 hg2 hbk2))
        have hd18 : Dj v1.ownBlock (Value.ownBlock u8) := by
          intro x h1 h2
          rcases hbk1 with hbk | hbk
          · exact HD.out x (hbk ▸ h1) h2
          · have h3 := (World.ownsRow.lt hown8 x h2).2
            rw [hbk] at h1
            injection h1 with h1
            simp at h1
            omega
        have hd12 : Dj v1.ownBlock v2.ownBlock := by
          intro x h1 h2
          rcases hbk2 with hbk | hbk
          · exact hd18 x h1 (hbk ▸ h2)
          · have h3 := (World.ownsRow.lt hown1 x h1).2
            rw [hbk] at h2
            injection h2 with h2
            omega
        have hk1 : FOwn W.heap.size w6 v1 (List.replicate j (k, s) ++ [(k, s)]) := World.ownsRow.kept hown1 hg2 hd18.far'
        have hk2 : Own W.heap.size w6 v2 (encs (List.replicate j (k, s)) ++ enc k (bl s)) := own_of hown2 (by rw [List.length_append, HS9.out.len]) (by rw [bvs_app])
        rw [← List.replicate_succ'] at hk1
        rw [← encs_rep_snoc (k, s) j] at hk2
        exact ⟨⟨j + 1, by omega, by go_num, hk1, hk2, hd12, below_grown hb7 hk8 hg2 hb7.size⟩, by simp [intOf]; omega⟩
      · obtain rfl : j = 15 + m := by omega
        obtain ⟨A7, n7, c7, rfl, fs7⟩ := hown7.sl
        have hn7 : n7 = 15 + m := by have := fs7.len; rwa [List.length_replicate] at this
        subst hn7
        obtain ⟨P, hP⟩ : ∃ P, P = (15 + m) * n9 := ⟨_, rfl⟩
        have hPI : (15 + (m : Int)) * (n9 : Int) = (P : Int) := by rw [hP]; push_cast; rfl
        have hP64 : P ≤ 18 * 64 := by rw [hP]; exact Nat.mul_le_mul (by omega) hn9
        have he := elist_rep (k, s) (15 + m) HV.out
        have hdl := dl_rep (k, s) (15 + m) HV.out
        have hep := elist_p A7 (15 + m) c7 _ wr fs7 (fun x hx => by rw [(List.mem_replicate.1 hx).2]; exact hs5) (by omega)
        have hL8 : (encs (List.replicate (15 + m) (k, s))).length = P := by rw [encs_rep, hP, HS9.out.len]
        have hL9 : (15 + m) * (enc k (bl s)).length = P := by rw [hP, HS9.out.len]
        rw [he] at hep
        simp only [hL9] at hdl
        have HL8 := Lib.hid hL8
        have HK8 := Lib.hid hown8
        clear he hP hL8 hL9 fs7
        by_cases h16 : 16 < 15 + m
        · skip
          rw [if_pos h16] at hep
          rw [if_neg (by omega)] at hdl
          have HEP := Lib.hid hep
          have HDL := Lib.hid hdl
          clear hep hdl hown8 hown7
          go_wp2_with fail
          refine HEP.out.mono ?_
          rintro e w5 ⟨A5, n5, c5, rfl, s5, hb5⟩
          have hk8 : Own W.heap.size w5 u8 (encs (List.replicate (15 + m) (k, s))) := HK8.out.below hb5 (Nat.le_refl _)
          have hbw5 : Below W.heap.size W w5 := hbel.trans (hb5.mono hz)
          have hn5 := s5.len
          obtain rfl : n5 = 0 := hn5
          clear s5
          go_wp2_with (at_builtin; (refine wpList_append_rd _ rfl _ _ _ rfl W.heap.size 5 i0 _ 1 Try.underlying31 hi0 hz0 hz1 hzq rfl _ _ _ rfl (World.ownsRow.alloc hk8 _) _ _ 1 1 (bvs [193]) rfl rfl (Rd.new w5 _ _) (fun hh => by cases hh) (bvs_one _) (by rw [HL8.out]; unfold maxLen; omega) (by rw [HL8.out]; omega) (by have := hbw5.size; simp; omega) ?_); intro v6 w6 hown6 hg6)
          have own6 : Own W.heap.size w6 v6 (encs (List.replicate (15 + m) (k, s)) ++ [193]) := own_app hown6
          have hb6 : Below W.heap.size W w6 := below_grown (hbw5.alloc hbw5.size _) (World.ownsRow.alloc hk8 _) hg6 (by have := hbw5.size; simp; omega)
          obtain ⟨A6, n6, c6, rfl, s6⟩ := Sl.of_own own6
          have hn6 : n6 = P + 1 := by rw [s6.len, List.length_append, HL8.out]; rfl
          clear hown6 hg6 hk8
          refine (dlist_p A6 n6 c6 _ w6 s6 (by omega)).mono ?_
          rw [HDL.out]
          rintro e w7 ⟨A8, n8, c8, rfl, s8, hb7⟩
          have hbw7 : Below w.heap.size w w7 := hbW.trans ((hb6.trans (hb7.mono hb6.size)).mono hbW.size)
          have hn8 := s8.len
          obtain rfl : n8 = 0 := hn8
          clear s8 s6 own6 hn6 hb7 hb6 hbw5 hb5
          go_wp2_with fail
          refine (awake_any _).mono ?_
          rintro e w8 ⟨rfl, hb9⟩
          go_wp2_with fail
          go_ret
          exact ⟨rfl, hbw7.trans (hb9.mono hbw7.size)⟩
        · skip
          rw [if_neg (by omega)] at hep
          rw [if_pos (by omega)] at hdl
          have HEP := Lib.hid hep
          have HDL := Lib.hid hdl
          clear hep hdl hown8 hown7
          go_wp2_with fail
          refine HEP.out.mono ?_
          rintro e w5 ⟨A5, n5, c5, rfl, s5, hb5⟩
          have hk8 : Own W.heap.size w5 u8 (encs (List.replicate (15 + m) (k, s))) := HK8.out.below hb5 (Nat.le_refl _)
          have hbw5 : Below W.heap.size W w5 := hbel.trans (hb5.mono hz)
          have hn5 := s5.len
          rw [List.length_append, HL8.out] at hn5
          obtain rfl : n5 = P + 1 := hn5
          clear s5
          go_wp2_with (at_builtin; (refine wpList_append_rd _ rfl _ _ _ rfl W.heap.size 5 i0 _ 1 Try.underlying31 hi0 hz0 hz1 hzq rfl _ _ _ rfl (World.ownsRow.alloc hk8 _) _ _ 1 1 (bvs [193]) rfl rfl (Rd.new w5 _ _) (fun hh => by cases hh) (bvs_one _) (by rw [HL8.out]; unfold maxLen; omega) (by rw [HL8.out]; omega) (by have := hbw5.size; simp; omega) ?_); intro v6 w6 hown6 hg6)
          have own6 : Own W.heap.size w6 v6 (encs (List.replicate (15 + m) (k, s)) ++ [193]) := own_app hown6
          have hb6 : Below W.heap.size W w6 := below_grown (hbw5.alloc hbw5.size _) (World.ownsRow.alloc hk8 _) hg6 (by have := hbw5.size; simp; omega)
          obtain ⟨A6, n6, c6, rfl, s6⟩ := Sl.of_own own6
          have hn6 : n6 = P + 1 := by rw [s6.len, List.length_append, HL8.out]; rfl
          clear hown6 hg6 hk8
          refine (dlist_p A6 n6 c6 _ w6 s6 (by omega)).mono ?_
          rw [HDL.out]
          rintro e w7 ⟨A8, n8, c8, rfl, s8, hb7⟩
          have hbw7 : Below w.heap.size w w7 := hbW.trans ((hb6.trans (hb7.mono hb6.size)).mono hbW.size)
          have hn8 := s8.len
          rw [List.length_replicate] at hn8
          obtain rfl : n8 = 15 + m := hn8
          clear s8 s6 own6 hn6 hb7 hb6 hbw5 hb5
          go_wp2_with fail
          refine (awake_any _).mono ?_
          rintro e w8 ⟨rfl, hb9⟩
          go_wp2_with fail
          go_ret
          exact ⟨rfl, hbw7.trans (hb9.mono hbw7.size)⟩
  · have d6 : decide (n ≤ 600) = false := decide_eq_false h6
    go_enter Try.func11, Try.ntmps11
    go_wp2_with fail
    refine (lightmade_any A n c _ hnm).mono ?_
    rintro e w' ⟨rfl, rfl⟩
    rw [d6]
    go_wp2_with fail
    refine (awake_any _).mono ?_
    rintro e w2 ⟨rfl, hb2⟩
    go_wp2_with fail
    go_ret
    exact ⟨rfl, hb2⟩

theorem cells_u8 : Try.prog.cellsOf 5 = 1 := by kernel_rfl
theorem cells_int : Try.prog.cellsOf 3 = 1 := by kernel_rfl
theorem own : ownKnob Try.prog.godebug = none := by kernel_rfl
theorem laidOut : laidOutB Try.prog = true := by kernel_rfl
theorem contract (H : Type) (enc : TypeId × Value → H) (W : World) (base : Nat) (args : Array Value) (ds gs : List (DataW H)) (before : List MemPlace)
    (hval : ∀ (j : Nat) t v, Try.f11.params[j]? = some t → args[j]? = some v → Value.okWide Try.prog W .any base t v)
    (hW : DataW.Whole enc Try.prog Try.f11.params.toList Rows.fieldsManySpec.vars false W args.toList ds gs before) :
    Calls Try.prog 11 args W fun e W' => ∃ v, e = .returned v ∧ Rows.fieldsManySpec.post enc Try.prog Try.f11 false true false false W args v W' := by
  have hW' := hW
  obtain ⟨p, q, hA0, hV, rfl, hfz, hnd⟩ := hW
  have hA : DataW.TrodAll enc Try.prog W 0 (fun _ => true) true Try.f11.params.toList args.toList ds p := hA0
  rw [Try.params11] at hA hval
  obtain ⟨v0, vs0, d0, ds0, p0, q0, hargs, rfl, rfl, h0, r0⟩ := trodAll_cons hA
  obtain ⟨v1, vs1, d1, ds1, p1, q1, rfl, rfl, rfl, h1, r1⟩ := trodAll_cons r0
  obtain ⟨rfl, rfl, rfl⟩ := trodAll_nil r1
  obtain rfl : args = #[v0, v1] := by cases args; simp_all
  obtain ⟨A0, n0, c0, l0, rfl, hn0, hr0, hw0, hc0, hm0, hk0⟩ := open_int_list Try.underlying24 Try.underlying3 cells_int (hval 0 24 v0 rfl rfl) h0
  obtain ⟨a1, rfl, -, -, w1⟩ := open_int Try.underlying3 (hval 1 3 v1 rfl rfl) h1
  clear hA0
  refine (walk A0 n0 c0 l0 hn0 hw0 hc0 hm0 hk0 a1 (bounds_i64 w1) W hr0).mono fun e W' ⟨he, hb⟩ => ?_
  subst he
  exact ⟨_, rfl, law_post laidOut (types_fit (by kernel_rfl)) (by kernel_rfl) Try.underlying4 rfl (fun xs hx => by
    match xs, hx with
    | [_, _], _ => rfl) hW' hb⟩

theorem lifted (os : Os) (started : os.Started) (H : Type) (enc : TypeId × Value → H) :
    ReturnsInHanded {} Try.checked os 11 .any (Rows.fieldsManySpec.pre6 enc Try.prog Try.f11 Rows.fieldsManyRow.domain false) (Rows.fieldsManySpec.post enc Try.prog Try.f11 false true false false) := by
  refine returnsInHanded_of_change (C := Try.checked) own started (by kernel_rfl) Try.func11
    (ChangeSpec.witness6 (enc := enc) (C := Try.checked) false ⟨#[], #[.slice none 0 0, .int .i64 0], []⟩ 8 (by kernel_rfl) (by kernel_rfl) (by kernel_rfl) (by kernel_rfl)) ?_
  intro W base args ds gs before hval hW _ _
  exact contract H enc W base args ds gs before hval hW

theorem proved : Rows.FieldsManySaid :=
  OpenClaim.holds_of_wide 11 Try.f11 rfl rfl rfl rfl rfl rfl rfl ⟨rfl, rfl, rfl, rfl, rfl⟩ rfl rfl rfl rfl rfl (by kernel_rfl) Try.func11 (by kernel_rfl)
    (of_decide_eq_true (by kernel_rfl)) (by unfold Func.isWrapper; first | (rw [if_pos (by decide +kernel)]; kernel_rfl) | (rw [if_neg (by decide +kernel)]; exact ⟨rfl, rfl⟩))
    (fun os started H enc _ => lifted os started H enc)
end Go.Proofs.Ytkhdldemhaifpaa.fieldsMany
