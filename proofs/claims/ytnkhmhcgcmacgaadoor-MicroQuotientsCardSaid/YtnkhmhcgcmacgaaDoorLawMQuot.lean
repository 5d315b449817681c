/- MicroQuotients holds for every input: quotients and roots of any numbers are those of the document. Condition: the tables of the standard library that the row lists hold what the program lays in them, which the card ties to its text. -/
import Derived.Test.YtnkhmhcgcmacgaaDoorLaid
import Derived.Test.YtnkhmhcgcmacgaaDoorAw3
import Derived.Test.YtnkhmhcgcmacgaaDoorDm
namespace Go.Proofs.YtnkhmhcgcmacgaaDoor.microQuotients
open Go.RowKit Go.ChangeShapes Go.WideShapes Go.ChangeAt Go.Proofs.YtnkhmhcgcmacgaaDoor.Mem Go.Proofs.YtnkhmhcgcmacgaaDoor.M3p Go.Proofs.YtnkhmhcgcmacgaaDoor.M3r Go.Proofs.YtnkhmhcgcmacgaaDoor.M3w Go.Proofs.YtnkhmhcgcmacgaaDoor.F2p Go.Proofs.YtnkhmhcgcmacgaaDoor.Made Go.Proofs.YtnkhmhcgcmacgaaDoor.Law Go.Proofs.YtnkhmhcgcmacgaaDoor.Laid
set_option maxRecDepth 100000
set_option maxHeartbeats 4000000

theorem irow_light {w : World} {A : Option Addr} {n c : Nat} {l : List Int} (hn : n = l.length) (hr : IRow w.heap.size w A l) (hw : ∀ x ∈ l, -9223372036854775808 ≤ x ∧ x ≤ 9223372036854775807) (h6 : n ≤ 600) :
    Dz (w.alloc (.cells #[.slice A n c, .int .i64 0] 52)) w.heap.size A n c l ∧ Below w.heap.size w (w.alloc (.cells #[.slice A n c, .int .i64 0] 52)) :=
  ⟨Dz.start A n c l w hr hn hw (by omega), (Below.refl _ _).alloc (Nat.le_refl _) _⟩
/-- What Root answers, the program's and the reference's alike. -/
theorem roots (a : Int) : ∃ r x : Int, (∀ u, Calls Tryd.prog 27 #[.int .i64 a] u fun e w' => e = .returned (.tuple #[.int .i64 r, .int .i64 x]) ∧ u = w') ∧ (∀ u, Calls Tryd.prog 28 #[.int .i64 a] u fun e w' => e = .returned (.tuple #[.int .i64 r, .int .i64 x]) ∧ u = w') := by
  by_cases h : a < 0
  · exact ⟨0, 2, fun u => rootn_p a u h, fun u => root_neg a u h⟩
  · obtain ⟨r, hr⟩ : ∃ r : Nat, isRoot (clp a * 1000000).toNat r := by
      have key : ∀ n : Nat, ∃ r : Nat, isRoot n r := by
        intro n
        induction n with
        | zero => exact ⟨0, by unfold isRoot; omega⟩
        | succ n ih =>
          obtain ⟨r, h1, h2⟩ := ih
          by_cases hs : (r + 1) * (r + 1) ≤ n + 1
          · refine ⟨r + 1, hs, ?_⟩
            have : (r + 1 + 1) * (r + 1 + 1) = (r + 1) * (r + 1) + (r + 1) + (r + 1) + 1 := by rw [Nat.add_mul (r + 1) 1, Nat.mul_add (r + 1) (r + 1) 1, Nat.one_mul, Nat.mul_one]; omega
            omega
          · exact ⟨r, by omega, by omega⟩
      exact key _
    refine ⟨r, 0, fun u => ?_, fun u => ?_⟩
    · refine (root_p a u (by omega)).mono ?_
      rintro e w' ⟨⟨q, rfl, hq, -⟩, rfl⟩
      exact ⟨by rw [root_one hq hr], rfl⟩
    · refine (root_r a u (by omega)).mono ?_
      rintro e w' ⟨⟨q, rfl, hq, -⟩, rfl⟩
      exact ⟨by rw [root_one hq hr], rfl⟩
theorem douts (a b : Int) : ∃ q x : Int, dout a b = .returned (.tuple #[.int .i64 q, .int .i64 x]) := ⟨_, _, rfl⟩
theorem lt_of_some {w : World} {i : Nat} {o : Obj} (h : w.heap[i]? = some o) : i < w.heap.size := by
  rcases Nat.lt_or_ge i w.heap.size with h1 | h1
  · exact h1
  · rw [Array.getElem?_eq_none h1] at h; cases h
theorem walk (a : Int) (_ha : -9223372036854775808 ≤ a ∧ a ≤ 9223372036854775807) (b : Int) (_hb : -9223372036854775808 ≤ b ∧ b ≤ 9223372036854775807) (A : Option Addr) (n c : Nat) (l : List Int) (hn : n = l.length) (hwl : ∀ x ∈ l, -9223372036854775808 ≤ x ∧ x ≤ 9223372036854775807) (hc : n ≤ c) (hm : c ≤ maxLen) (_hA : A = none → c = 0) (w : World) (hr : IRow w.heap.size w A l) (htab : PowTab w) :
    Calls Tryd.prog 4 #[.int .i64 a, .int .i64 b, .slice A n c] w fun e w' => e = .returned (.bool true) ∧ Below w.heap.size w w' := by
  have hnm : n ≤ maxLen := by omega
  have HN := Lib.hid hn
  have HW := Lib.hid hwl
  have haw := Lib.hid (fun u hu => awake_any u hu)
  clear hn hwl hc hm _hA
  by_cases h6 : n ≤ 600
  · have d6 : decide (n ≤ 600) = true := decide_eq_true h6
    go_enter Tryd.func4, Tryd.ntmps4
    go_wp2_with fail
    refine (lightmade_any A n c _ hnm).mono ?_
    rintro e w' ⟨rfl, rfl⟩
    rw [d6]
    go_wp2_with fail
    refine (roll_any A n c w).mono ?_
    rintro e w1 ⟨rfl, rfl⟩
    obtain ⟨hdz, hb1⟩ := irow_light (c := c) HN.out hr HW.out h6
    go_wp2_with fail
    refine (hdz.micro).mono ?_
    rintro e w2 ⟨x, rfl, hx, hd2, hg2⟩
    have hb2 : Below w.heap.size w w2 := hb1.trans (grown_lo hg2 (Nat.le_refl _) hdz.lt)
    go_wp2_with fail
    refine (hd2.micro).mono ?_
    rintro e w3 ⟨y, rfl, hy, hd3, hg3⟩
    have hb3 : Below w.heap.size w w3 := hb2.trans (grown_lo hg3 (Nat.le_refl _) hd2.lt)
    clear hx hy hd2 hd3 hg2 hg3 hdz hb1 hb2
    have hb4 : Below w.heap.size w (w3.alloc (.cells #[.int .i64 a, .int .i64 b, .int .i64 x, .int .i64 y, .int .i64 a, .int .i64 y, .int .i64 x, .int .i64 0] 31)) := hb3.alloc hb3.size _
    have hst : (w3.alloc (.cells #[.int .i64 a, .int .i64 b, .int .i64 x, .int .i64 y, .int .i64 a, .int .i64 y, .int .i64 x, .int .i64 0] 31)).heap[w3.heap.size]? = some (.cells #[.int .i64 a, .int .i64 b, .int .i64 x, .int .i64 y, .int .i64 a, .int .i64 y, .int .i64 x, .int .i64 0] 31 (0, 0)) := heap_alloc_new w3 _
    go_wp2_with fail
    have HAW := Lib.hid (fun u (hu : Below w.heap.size w u) => awake_any u (htab.start.at_ hu))
    clear haw
    go_loopw [43] (fun i wr => ∃ k : Nat, k ≤ 4 ∧ i = .int .i64 k ∧ Below w.heap.size w wr ∧ wr.heap[w3.heap.size]? = some (.cells #[.int .i64 a, .int .i64 b, .int .i64 x, .int .i64 y, .int .i64 a, .int .i64 y, .int .i64 x, .int .i64 0] 31 (0, 0))) (fun i _ => 4 - (intOf i).toNat)
    case atStart => exact ⟨0, Nat.zero_le _, rfl, hb4, hst⟩
    case round =>
      obtain ⟨k, hk, rfl, hb, hs⟩ := hrel
      clear hb4 hst
      have HB := Lib.hid hb
      by_cases hlt : k < 4
      · obtain ⟨u, v, hu, hv⟩ : ∃ u v : Int, wr.cell? ⟨w3.heap.size, k * 2, none⟩ = some (.int .i64 u) ∧ wr.cell? ⟨w3.heap.size, k * 2 + 1, none⟩ = some (.int .i64 v) := by
          rw [cell_of_row wr w3.heap.size _ _ _ _ hs, cell_of_row wr w3.heap.size _ _ _ _ hs]
          match k, hlt with
          | 0, _ => exact ⟨a, b, rfl, rfl⟩
          | 1, _ => exact ⟨x, y, rfl, rfl⟩
          | 2, _ => exact ⟨a, y, rfl, rfl⟩
          | 3, _ => exact ⟨x, 0, rfl, rfl⟩
        have HS := Lib.hid hs
        have hsz : w3.heap.size < wr.heap.size := lt_of_some hs
        have hsz2 := hb.size
        obtain ⟨q, qx, hq⟩ := douts u v
        have c1 := Lib.hid (fun z => by have := div_p u v z; rw [hq] at this; exact this)
        have c2 := Lib.hid (fun z => by have := div_r u v z; rw [hq] at this; exact this)
        obtain ⟨r, rx, r1, r2⟩ := roots u
        have c3 := Lib.hid r1
        have c4 := Lib.hid r2
        clear hs hb hq r1 r2
        go_wp2_with fail
        refine (c1.out _).mono ?_
        rintro e w' ⟨rfl, rfl⟩
        go_wp2_with fail
        refine (c2.out _).mono ?_
        rintro e w' ⟨rfl, rfl⟩
        go_wp2_with fail
        refine (c3.out _).mono ?_
        rintro e w' ⟨rfl, rfl⟩
        go_wp2_with fail
        refine (c4.out _).mono ?_
        rintro e w' ⟨rfl, rfl⟩
        go_wp2_with fail
        refine ⟨⟨k + 1, by omega, by go_num, HB.out.alloc HB.out.size _, ?_⟩, by simp [intOf]; omega⟩
        exact (Below.heap_alloc wr _ _ hsz).trans HS.out
      · clear hs hb
        go_wp2_with fail
        refine (HAW.out _ HB.out).mono ?_
        rintro e w' ⟨rfl, hbA⟩
        go_wp2_with fail
        go_ret
        exact ⟨rfl, HB.out.trans (hbA.mono HB.out.size)⟩
  · have d6 : decide (n ≤ 600) = false := decide_eq_false h6
    go_enter Tryd.func4, Tryd.ntmps4
    go_wp2_with fail
    refine (lightmade_any A n c _ hnm).mono ?_
    rintro e w' ⟨rfl, rfl⟩
    rw [d6]
    go_wp2_with fail
    refine (haw.out _ htab).mono ?_
    rintro e w' ⟨rfl, hbA⟩
    go_wp2_with fail
    go_ret
    exact ⟨rfl, hbA⟩

theorem cells_u8 : Tryd.prog.cellsOf 5 = 1 := by kernel_rfl
theorem cells_int : Tryd.prog.cellsOf 3 = 1 := by kernel_rfl
theorem own : ownKnob Tryd.prog.godebug = none := by kernel_rfl
theorem laidOut : laidOutB Tryd.prog = true := by kernel_rfl
theorem contract (H : Type) (enc : TypeId × Value → H) (W : World) (base : Nat) (args : Array Value) (ds gs : List (DataW H)) (before : List MemPlace)
    (hval : ∀ (j : Nat) t v, Tryd.f4.params[j]? = some t → args[j]? = some v → Value.okWide Tryd.prog W .any base t v)
    (hW : DataW.Whole enc Tryd.prog Tryd.f4.params.toList Rows.microQuotientsSpec.vars false W args.toList ds gs before) (htab : M3w.PowTab W) :
    Calls Tryd.prog 4 args W fun e W' => ∃ v, e = .returned v ∧ Rows.microQuotientsSpec.post enc Tryd.prog Tryd.f4 false true false false W args v W' := by
  have hW' := hW
  obtain ⟨p, q, hA0, hV, rfl, hfz, hnd⟩ := hW
  have hA : DataW.TrodAll enc Tryd.prog W 0 (fun _ => true) true Tryd.f4.params.toList args.toList ds p := hA0
  rw [Tryd.params4] at hA hval
  obtain ⟨v0, vs0, d0, ds0, p0, q0, hargs, rfl, rfl, h0, r0⟩ := trodAll_cons hA
  obtain ⟨v1, vs1, d1, ds1, p1, q1, rfl, rfl, rfl, h1, r1⟩ := trodAll_cons r0
  obtain ⟨v2, vs2, d2, ds2, p2, q2, rfl, rfl, rfl, h2, r2⟩ := trodAll_cons r1
  obtain ⟨rfl, rfl, rfl⟩ := trodAll_nil r2
  obtain rfl : args = #[v0, v1, v2] := by cases args; simp_all
  obtain ⟨a0, rfl, -, -, w0⟩ := open_int Tryd.underlying2 (hval 0 2 v0 rfl rfl) h0
  obtain ⟨a1, rfl, -, -, w1⟩ := open_int Tryd.underlying2 (hval 1 2 v1 rfl rfl) h1
  obtain ⟨A2, n2, c2, l2, rfl, hn2, hr2, hw2, hc2, hm2, hk2⟩ := open_int_list Tryd.underlying22 Tryd.underlying3 cells_int (hval 2 22 v2 rfl rfl) h2
  clear hA0
  refine (walk a0 (bounds_i64 w0) a1 (bounds_i64 w1) A2 n2 c2 l2 hn2 hw2 hc2 hm2 hk2 W hr2 htab).mono fun e W' ⟨he, hb⟩ => ?_
  subst he
  exact ⟨_, rfl, law_post laidOut (types_fit (by kernel_rfl)) (by kernel_rfl) Tryd.underlying4 rfl (fun xs hx => by
    match xs, hx with
    | [_, _, _], _ => rfl) hW' hb⟩

theorem lifted (os : Os) (started : os.Started) (H : Type) (enc : TypeId × Value → H) :
    ReturnsInHanded {} Tryd.checked os 4 .any (fun w args => (Rows.microQuotientsSpec.pre enc Tryd.prog Tryd.f4 Rows.microQuotientsRow.domain false w args ∧ laidMetH Tryd.prog Laid.laid3 w) ∧ sizedMet enc Tryd.prog Tryd.f4 (OpenSpec.ofChange Rows.microQuotientsSpec) false w args) (Rows.microQuotientsSpec.post enc Tryd.prog Tryd.f4 false true false false) := by
  refine returnsInHanded_of_change_and (C := Tryd.checked) (X := fun w _ => laidMetH Tryd.prog Laid.laid3 w) (fun _ _ _ hh h => h.of_heap hh) own started (by kernel_rfl) Tryd.func4
    (ChangeSpec.witness_shaped (enc := enc) (C := Tryd.checked) (os := os) (X := fun w _ => laidMetH Tryd.prog Laid.laid3 w) false (World.doorLaid Tryd.prog 400 os) #[.int .i64 0, .int .i64 0, .slice none 0 0] 8 rfl (World.shaped_of_RefB (by kernel_rfl) (by kernel_rfl)) (by kernel_rfl) (by kernel_rfl) (by kernel_rfl) (Laid.door_met os _)) ?_
  intro W base args ds gs before hval hW _ _ hL _
  exact contract H enc W base args ds gs before hval hW (Laid.tab_of hL)

theorem bare : Rows.MicroQuotientsSaid :=
  OpenClaim.holds_of_wide 4 Tryd.f4 rfl rfl rfl rfl rfl rfl rfl ⟨rfl, rfl, rfl, rfl, rfl⟩ rfl rfl rfl rfl rfl (by kernel_rfl) Tryd.func4 (by kernel_rfl)
    (of_decide_eq_true (by kernel_rfl)) (by unfold Func.isWrapper; first | (rw [if_pos (by decide +kernel)]; kernel_rfl) | (rw [if_neg (by decide +kernel)]; exact ⟨rfl, rfl⟩))
    (fun os started H enc _ => lifted os started H enc)
theorem proved : Rows.MicroQuotientsCardSaid :=
  Claim7.holds_tied_plain_at .later [] [.data, .data, .data] true (true, Rows.microQuotientsCard.stood.harness.2) false
    bare (fun _ h => by cases h) (by kernel_rfl) (fun _ h => by cases h) microQuotients_row_tie rfl ⟨rfl, rfl⟩ (by kernel_rfl) rfl
    (fun f fn hf hfn => by
      obtain rfl : f = 4 := Option.some.inj ((show Tryd.prog.funcNamed "baseboard/baseboardlaw03.MicroQuotients" = some 4 by kernel_rfl).symm.trans hf) |>.symm
      obtain rfl : fn = Tryd.f4 := (Option.some.inj (Tryd.func4.symm.trans hfn)).symm
      exact ⟨by kernel_rfl, fun j t ht => by
        rw [Tryd.params4] at ht
        have hm : t ∈ [2, 2, 22] := by simpa using Array.mem_of_getElem? ht
        have hall : ([2, 2, 22].all fun u => !Tryd.prog.wantsStandIn u) = true := by kernel_rfl
        exact (show Tryd.prog.wantsStandIn t = false by simpa using List.all_eq_true.1 hall t hm)⟩)
    (by kernel_rfl)
end Go.Proofs.YtnkhmhcgcmacgaaDoor.microQuotients
