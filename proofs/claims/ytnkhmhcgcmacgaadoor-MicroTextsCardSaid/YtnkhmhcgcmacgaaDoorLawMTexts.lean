/- MicroTexts holds for every input: what any text is parsed to, and the text of any number, are those of the document. Condition: the tables of the standard library that the row lists hold what the program lays in them, which the card ties to its text. -/
import Derived.Test.YtnkhmhcgcmacgaaDoorLaid
import Derived.Test.YtnkhmhcgcmacgaaDoorAw3
import Derived.Test.YtnkhmhcgcmacgaaDoorDm
import Derived.Test.YtnkhmhcgcmacgaaDoorM3t
import Derived.Test.YtnkhmhcgcmacgaaDoorM3z
import Derived.Test.YtnkhmhcgcmacgaaDoorM4c
namespace Go.Proofs.YtnkhmhcgcmacgaaDoor.microTexts
open Go.RowKit Go.ChangeShapes Go.WideShapes Go.ChangeAt Go.Proofs.YtnkhmhcgcmacgaaDoor.Mem Go.Proofs.YtnkhmhcgcmacgaaDoor.M3p Go.Proofs.YtnkhmhcgcmacgaaDoor.M3r Go.Proofs.YtnkhmhcgcmacgaaDoor.M3w Go.Proofs.YtnkhmhcgcmacgaaDoor.F2p Go.Proofs.YtnkhmhcgcmacgaaDoor.Made Go.Proofs.YtnkhmhcgcmacgaaDoor.Law Go.Proofs.YtnkhmhcgcmacgaaDoor.Laid
set_option maxRecDepth 100000
set_option maxHeartbeats 4000000

theorem irow_light {w : World} {A : Option Addr} {n c : Nat} {l : List Int} (hn : n = l.length) (hr : IRow w.heap.size w A l) (hw : ∀ x ∈ l, -9223372036854775808 ≤ x ∧ x ≤ 9223372036854775807) (h6 : n ≤ 600) :
    Dz (w.alloc (.cells #[.slice A n c, .int .i64 0] 52)) w.heap.size A n c l ∧ Below w.heap.size w (w.alloc (.cells #[.slice A n c, .int .i64 0] 52)) :=
  ⟨Dz.start A n c l w hr hn hw (by omega), (Below.refl _ _).alloc (Nat.le_refl _) _⟩
theorem lt_of_some {w : World} {i : Nat} {o : Obj} (h : w.heap[i]? = some o) : i < w.heap.size := by
  rcases Nat.lt_or_ge i w.heap.size with h1 | h1
  · exact h1
  · rw [Array.getElem?_eq_none h1] at h; cases h
theorem pairs (l : List UInt8) : ∃ p x : Int, psr l = (p, x) := ⟨_, _, rfl⟩
theorem walk (s : ByteArray) (hs : s.size ≤ maxLen) (v : Int) (_hv : -9223372036854775808 ≤ v ∧ v ≤ 9223372036854775807) (A : Option Addr) (n c : Nat) (l : List Int) (hn : n = l.length) (hwl : ∀ x ∈ l, -9223372036854775808 ≤ x ∧ x ≤ 9223372036854775807) (hc : n ≤ c) (hm : c ≤ maxLen) (_hA : A = none → c = 0) (w : World) (hr : IRow w.heap.size w A l) (htab : PowTab w) :
    Calls Tryd.prog 5 #[.string s, .int .i64 v, .slice A n c] w fun e w' => e = .returned (.bool true) ∧ Below w.heap.size w w' := by
  have hnm : n ≤ maxLen := by omega
  have hsm : s.size ≤ 9223372036854775807 := by unfold maxLen at hs; exact hs
  have HN := Lib.hid hn
  have HW := Lib.hid hwl
  have haw := Lib.hid (fun u hu => awake_any u hu)
  clear hn hwl hc hm _hA hs
  by_cases hs2 : 200 < s.size
  · skip
    go_enter Tryd.func5, Tryd.ntmps5
    go_wp2_with fail
    refine (haw.out _ htab).mono ?_
    rintro e w' ⟨rfl, hbA⟩
    go_wp2_with fail
    go_ret
    exact ⟨rfl, hbA⟩
  by_cases h6 : n ≤ 600
  · have d6 : decide (n ≤ 600) = true := decide_eq_true h6
    go_enter Tryd.func5, Tryd.ntmps5
    go_wp2_with fail
    refine (lightmade_any A n c _ hnm).mono ?_
    rintro e w' ⟨rfl, rfl⟩
    rw [d6]
    go_wp2_with fail
    refine (roll_any A n c w).mono ?_
    rintro e w1 ⟨rfl, rfl⟩
    obtain ⟨hd0, hb0⟩ := irow_light (c := c) HN.out hr HW.out h6
    go_wp2_with fail
    refine (hd0.next 2 (by omega) (by omega)).mono ?_
    rintro e w1 ⟨k1, hk1, rfl, hd1, hg1⟩
    have hb1 : Below w.heap.size w w1 := hb0.trans (grown_lo hg1 (Nat.le_refl _) hd0.lt)
    clear hd0 hb0 hg1
    go_wp2_with fail
    refine (hd1.text _ k1 (by decide) (by decide) (by omega)).mono ?_
    rintro e w2 ⟨t1, rfl, ht1, -, hd2, hg2⟩
    have hb2 : Below w.heap.size w w2 := hb1.trans (grown_lo hg2 (Nat.le_refl _) hd1.lt)
    have HT1 := Lib.hid ht1
    have hz1 : t1.size ≤ 1 := by omega
    clear hd1 hb1 hg2 ht1
    go_wp2_with fail
    refine (hd2.next 9 (by omega) (by omega)).mono ?_
    rintro e w3 ⟨k2, hk2, rfl, hd3, hg3⟩
    have hb3 : Below w.heap.size w w3 := hb2.trans (grown_lo hg3 (Nat.le_refl _) hd2.lt)
    clear hd2 hb2 hg3
    go_wp2_with fail
    refine (hd3.text _ k2 (by decide) (by decide) (by omega)).mono ?_
    rintro e w4 ⟨t2, rfl, ht2, -, hd4, hg4⟩
    have hb4 : Below w.heap.size w w4 := hb3.trans (grown_lo hg4 (Nat.le_refl _) hd3.lt)
    have hz2 : t2.size ≤ 8 := by omega
    clear hd3 hb3 hg4 ht2
    go_wp2_with fail
    refine (hd4.next 2 (by omega) (by omega)).mono ?_
    rintro e w5 ⟨k3, hk3, rfl, hd5, hg5⟩
    have hb5 : Below w.heap.size w w5 := hb4.trans (grown_lo hg5 (Nat.le_refl _) hd4.lt)
    clear hd4 hb4 hg5
    go_wp2_with fail
    refine (hd5.text _ k3 (by decide) (by decide) (by omega)).mono ?_
    rintro e w6 ⟨t3, rfl, ht3, -, hd6, hg6⟩
    have hb6 : Below w.heap.size w w6 := hb5.trans (grown_lo hg6 (Nat.le_refl _) hd5.lt)
    have hz3 : t3.size ≤ 1 := by omega
    clear hd5 hb5 hg6 ht3
    go_wp2_with fail
    refine (hd6.next 8 (by omega) (by omega)).mono ?_
    rintro e w7 ⟨k4, hk4, rfl, hd7, hg7⟩
    have hb7 : Below w.heap.size w w7 := hb6.trans (grown_lo hg7 (Nat.le_refl _) hd6.lt)
    clear hd6 hb6 hg7
    go_wp2_with fail
    refine (hd7.text _ k4 (by decide) (by decide) (by omega)).mono ?_
    rintro e w8 ⟨t4, rfl, ht4, -, hd8, hg8⟩
    have hb8 : Below w.heap.size w w8 := hb7.trans (grown_lo hg8 (Nat.le_refl _) hd7.lt)
    have hz4 : t4.size ≤ 7 := by omega
    have hlt8 := hd8.lt
    clear hd7 hb7 hg8 ht4 HT1
    obtain ⟨T, hT⟩ : ∃ T : ByteArray, t1 ++ t2 ++ t3 ++ t4 = T := ⟨_, rfl⟩
    have hTs : T.size ≤ 17 := by rw [← hT, ByteArray.size_append, ByteArray.size_append, ByteArray.size_append]; omega
    clear hk1 hk2 hk3 hk4
    have hb9 : Below w.heap.size w (w8.alloc (.cells #[.string s, .string T] 9)) := hb8.alloc hb8.size _
    have hst : (w8.alloc (.cells #[.string s, .string T] 9)).heap[w8.heap.size]? = some (.cells #[.string s, .string T] 9 (0, 0)) := heap_alloc_new w8 _
    have hd9 : Dz (w8.alloc (.cells #[.string s, .string T] 9)) w.heap.size A n c l := hd8.below ((Below.refl w8.heap.size w8).alloc (Nat.le_refl _) _) hlt8
    have HAW := Lib.hid (fun u (hu : Below w.heap.size w u) => awake_any u (htab.start.at_ hu))
    have HFO := Lib.hid (fun u z (hu : Below w.heap.size w u) => format_p z u (htab.start.at_ hu))
    clear haw hb8 hd8
    go_wp2_with fail
    go_loopw [50] (fun i wr => ∃ k : Nat, k ≤ 2 ∧ i = .int .i64 k ∧ Below w.heap.size w wr ∧ wr.heap[w8.heap.size]? = some (.cells #[.string s, .string T] 9 (0, 0)) ∧ Dz wr w.heap.size A n c l) (fun i _ => 2 - (intOf i).toNat)
    case atStart => exact ⟨0, Nat.zero_le _, rfl, hb9, hst, hd9⟩
    case round =>
      obtain ⟨k, hk, rfl, hb, hst1, hd⟩ := hrel
      clear hb9 hst hd9
      have HB := Lib.hid hb
      by_cases hlt : k < 2
      · obtain ⟨z, hz, hzs⟩ : ∃ z : ByteArray, wr.cell? ⟨w8.heap.size, k, none⟩ = some (.string z) ∧ z.size ≤ 200 := by
          rw [cell_of_row wr w8.heap.size _ _ _ _ hst1]
          match k, hlt with
          | 0, _ => exact ⟨s, rfl, by omega⟩
          | 1, _ => exact ⟨T, rfl, by omega⟩
        have HS := Lib.hid hst1
        have hsz : w8.heap.size < wr.heap.size := lt_of_some hst1
        obtain ⟨p, px, hp⟩ := pairs (bl z)
        have c1 := Lib.hid (fun u => by have := parse_p z u (by omega); rw [hp] at this; exact this)
        have c2 := Lib.hid (fun u => by have := parse_r z u (by omega); rw [hp] at this; exact this)
        have HD := Lib.hid hd
        clear hst1 hb hp hd
        go_wp2_with fail
        refine (c1.out _).mono ?_
        rintro e w' ⟨rfl, hb2⟩
        go_wp2_with fail
        refine (c2.out _).mono ?_
        rintro e w'' ⟨rfl, rfl⟩
        go_wp2_with fail
        exact ⟨⟨k + 1, by omega, by go_num, HB.out.trans (hb2.mono HB.out.size), (hb2.block _ hsz).trans HS.out, HD.out.below hb2 HD.out.lt⟩, by simp [intOf]; omega⟩
      · clear hst1
        go_wp2_with fail
        refine (hd.micro).mono ?_
        rintro e w' ⟨y, rfl, -, -, hg⟩
        have hb2 : Below w.heap.size w w' := HB.out.trans (grown_lo hg (Nat.le_refl _) hd.lt)
        obtain ⟨F, hF⟩ : ∃ F : ByteArray, F = ⟨(fmt (clp v)).toArray⟩ := ⟨_, rfl⟩
        obtain ⟨G, hG⟩ : ∃ G : ByteArray, G = ⟨(fmt (clp y)).toArray⟩ := ⟨_, rfl⟩
        have f1 := Lib.hid (fun u (hu : Below w.heap.size w u) => by have := HFO.out u v hu; rw [← hF] at this; exact this)
        have f2 := Lib.hid (fun u => by have := format_r v u; rw [← hF] at this; exact this)
        have f3 := Lib.hid (fun u (hu : Below w.heap.size w u) => by have := HFO.out u y hu; rw [← hG] at this; exact this)
        have f4 := Lib.hid (fun u => by have := format_r y u; rw [← hG] at this; exact this)
        clear hF hG HFO hd hg hb
        go_wp2_with fail
        refine (f1.out _ hb2).mono ?_
        rintro e w3 ⟨rfl, hb3⟩
        have hb3 : Below w.heap.size w w3 := hb2.trans (hb3.mono hb2.size)
        go_wp2_with fail
        refine (f2.out _).mono ?_
        rintro e w4 ⟨rfl, rfl⟩
        go_wp2_with fail
        refine (f3.out _ hb3).mono ?_
        rintro e w5 ⟨rfl, hb5⟩
        have hb5 : Below w.heap.size w w5 := hb3.trans (hb5.mono hb3.size)
        go_wp2_with fail
        refine (f4.out _).mono ?_
        rintro e w6 ⟨rfl, rfl⟩
        go_wp2_with fail
        refine (HAW.out _ hb5).mono ?_
        rintro e w' ⟨rfl, hbA⟩
        go_wp2_with fail
        go_ret
        exact ⟨rfl, hb5.trans (hbA.mono hb5.size)⟩
  · have d6 : decide (n ≤ 600) = false := decide_eq_false h6
    go_enter Tryd.func5, Tryd.ntmps5
    go_wp2_with fail
    refine (lightmade_any A n c _ hnm).mono ?_
    rintro e w' ⟨rfl, rfl⟩
    rw [d6]
    go_wp2_with fail
    refine (haw.out _ htab).mono ?_
    rintro e w' ⟨rfl, hbA⟩
    go_wp2_with fail
    go_ret
    exact ⟨rfl, hbA⟩

theorem cells_u8 : Tryd.prog.cellsOf 5 = 1 := by kernel_rfl
theorem cells_int : Tryd.prog.cellsOf 3 = 1 := by kernel_rfl
theorem own : ownKnob Tryd.prog.godebug = none := by kernel_rfl
theorem laidOut : laidOutB Tryd.prog = true := by kernel_rfl
theorem contract (H : Type) (enc : TypeId × Value → H) (W : World) (base : Nat) (args : Array Value) (ds gs : List (DataW H)) (before : List MemPlace)
    (hval : ∀ (j : Nat) t v, Tryd.f5.params[j]? = some t → args[j]? = some v → Value.okWide Tryd.prog W .any base t v)
    (hW : DataW.Whole enc Tryd.prog Tryd.f5.params.toList Rows.microTextsSpec.vars false W args.toList ds gs before) (htab : M3w.PowTab W) :
    Calls Tryd.prog 5 args W fun e W' => ∃ v, e = .returned v ∧ Rows.microTextsSpec.post enc Tryd.prog Tryd.f5 false true false false W args v W' := by
  have hW' := hW
  obtain ⟨p, q, hA0, hV, rfl, hfz, hnd⟩ := hW
  have hA : DataW.TrodAll enc Tryd.prog W 0 (fun _ => true) true Tryd.f5.params.toList args.toList ds p := hA0
  rw [Tryd.params5] at hA hval
  obtain ⟨v0, vs0, d0, ds0, p0, q0, hargs, rfl, rfl, h0, r0⟩ := trodAll_cons hA
  obtain ⟨v1, vs1, d1, ds1, p1, q1, rfl, rfl, rfl, h1, r1⟩ := trodAll_cons r0
  obtain ⟨v2, vs2, d2, ds2, p2, q2, rfl, rfl, rfl, h2, r2⟩ := trodAll_cons r1
  obtain ⟨rfl, rfl, rfl⟩ := trodAll_nil r2
  obtain rfl : args = #[v0, v1, v2] := by cases args; simp_all
  obtain ⟨s0, rfl, hs0⟩ := open_str Tryd.underlying9 (hval 0 9 v0 rfl rfl) h0
  obtain ⟨a1, rfl, -, -, w1⟩ := open_int Tryd.underlying2 (hval 1 2 v1 rfl rfl) h1
  obtain ⟨A2, n2, c2, l2, rfl, hn2, hr2, hw2, hc2, hm2, hk2⟩ := open_int_list Tryd.underlying22 Tryd.underlying3 cells_int (hval 2 22 v2 rfl rfl) h2
  clear hA0
  refine (walk s0 hs0 a1 (bounds_i64 w1) A2 n2 c2 l2 hn2 hw2 hc2 hm2 hk2 W hr2 htab).mono fun e W' ⟨he, hb⟩ => ?_
  subst he
  exact ⟨_, rfl, law_post laidOut (types_fit (by kernel_rfl)) (by kernel_rfl) Tryd.underlying4 rfl (fun xs hx => by
    match xs, hx with
    | [_, _, _], _ => rfl) hW' hb⟩

theorem lifted (os : Os) (started : os.Started) (H : Type) (enc : TypeId × Value → H) :
    ReturnsInHanded {} Tryd.checked os 5 .any (fun w args => (Rows.microTextsSpec.pre enc Tryd.prog Tryd.f5 Rows.microTextsRow.domain false w args ∧ laidMetH Tryd.prog Laid.laid3 w) ∧ sizedMet enc Tryd.prog Tryd.f5 (OpenSpec.ofChange Rows.microTextsSpec) false w args) (Rows.microTextsSpec.post enc Tryd.prog Tryd.f5 false true false false) := by
  refine returnsInHanded_of_change_and (C := Tryd.checked) (X := fun w _ => laidMetH Tryd.prog Laid.laid3 w) (fun _ _ _ hh h => h.of_heap hh) own started (by kernel_rfl) Tryd.func5
    (ChangeSpec.witness_shaped (enc := enc) (C := Tryd.checked) (os := os) (X := fun w _ => laidMetH Tryd.prog Laid.laid3 w) false (World.doorLaid Tryd.prog 400 os) #[.string ⟨#[]⟩, .int .i64 0, .slice none 0 0] 8 rfl (World.shaped_of_RefB (by kernel_rfl) (by kernel_rfl)) (by kernel_rfl) (by kernel_rfl) (by kernel_rfl) (Laid.door_met os _)) ?_
  intro W base args ds gs before hval hW _ _ hL _
  exact contract H enc W base args ds gs before hval hW (Laid.tab_of hL)

theorem bare : Rows.MicroTextsSaid :=
  OpenClaim.holds_of_wide 5 Tryd.f5 rfl rfl rfl rfl rfl rfl rfl ⟨rfl, rfl, rfl, rfl, rfl⟩ rfl rfl rfl rfl rfl (by kernel_rfl) Tryd.func5 (by kernel_rfl)
    (of_decide_eq_true (by kernel_rfl)) (by unfold Func.isWrapper; first | (rw [if_pos (by decide +kernel)]; kernel_rfl) | (rw [if_neg (by decide +kernel)]; exact ⟨rfl, rfl⟩))
    (fun os started H enc _ => lifted os started H enc)
theorem proved : Rows.MicroTextsCardSaid :=
  Claim7.holds_tied_plain_at .later [] [.data, .data, .data] true (true, Rows.microTextsCard.stood.harness.2) false
    bare (fun _ h => by cases h) (by kernel_rfl) (fun _ h => by cases h) microTexts_row_tie rfl ⟨rfl, rfl⟩ (by kernel_rfl) rfl
    (fun f fn hf hfn => by
      obtain rfl : f = 5 := Option.some.inj ((show Tryd.prog.funcNamed "baseboard/baseboardlaw03.MicroTexts" = some 5 by kernel_rfl).symm.trans hf) |>.symm
      obtain rfl : fn = Tryd.f5 := (Option.some.inj (Tryd.func5.symm.trans hfn)).symm
      exact ⟨by kernel_rfl, fun j t ht => by
        rw [Tryd.params5] at ht
        have hm : t ∈ [9, 2, 22] := by simpa using Array.mem_of_getElem? ht
        have hall : ([9, 2, 22].all fun u => !Tryd.prog.wantsStandIn u) = true := by kernel_rfl
        exact (show Tryd.prog.wantsStandIn t = false by simpa using List.all_eq_true.1 hall t hm)⟩)
    (by kernel_rfl)
end Go.Proofs.YtnkhmhcgcmacgaaDoor.microTexts
