/- The statement EventIndexes: the index of an event that was made is found again, with its severity, and the event is valid. For every type and number of a sensor, every index, asserted or not, every reading and limit. The tables that the row lists start asd the program's text lays them. -/
import Derived.Test.YtgbnigbjnbcfeaaDoorLaidV
import Derived.Test.YtgbnigbjnbcfeaaDoorV7f
import Derived.Test.YtgbnigbjnbcfeaaDoorMade
namespace Go.Proofs.YtgbnigbjnbcfeaaDoor.eventIndexes
open Go.RowKit Go.ChangeShapes Go.WideShapes Go.ChangeAt Go.Proofs.YtgbnigbjnbcfeaaDoor.Mem Go.Proofs.YtgbnigbjnbcfeaaDoor.Law Go.Proofs.YtgbnigbjnbcfeaaDoor.F2p Go.Proofs.YtgbnigbjnbcfeaaDoor.V7 Go.Proofs.YtgbnigbjnbcfeaaDoor.Laid Go.Proofs.YtgbnigbjnbcfeaaDoor.Made
set_option maxRecDepth 100000
set_option maxHeartbeats 4000000

theorem ofs_off (i : Nat) (h : i < 6) : ofs (80 + off i) = some i := by
  match i, h with
  | 0, _ => rfl
  | 1, _ => rfl
  | 2, _ => rfl
  | 3, _ => rfl
  | 4, _ => rfl
  | 5, _ => rfl
theorem off_le (i : Nat) (h : i < 6) : off i ≤ 11 := by unfold off; split <;> omega
theorem sev_th (st sn i rd lm : Nat) (de : Bool) (h : i < 6) : sev ⟨0, 0, 32, st, sn, 1, de, 80 + off i, rd, lm⟩ = if de = false then i % 3 + 1 else 0 := by
  cases de <;> simp [sev, idx, ofs_off i h]
theorem walk (st : Int) (hst : 0 ≤ st ∧ st ≤ 255) (sn : Int) (hsn : 0 ≤ sn ∧ sn ≤ 255) (ix : Int) (hix : -9223372036854775808 ≤ ix ∧ ix ≤ 9223372036854775807) (asd : Bool) (rd : Int) (hrd : 0 ≤ rd ∧ rd ≤ 255) (lm : Int) (hlm : 0 ≤ lm ∧ lm ≤ 255) (W : World) (htab : Tabs W) :
    Calls Tryd.prog 7 #[.int .u8 st, .int .u8 sn, .int .i64 ix, .bool asd, .int .u8 rd, .int .u8 lm] W fun e W' => e = .returned (.bool true) ∧ Below W.heap.size W W' := by
  obtain ⟨st, rfl⟩ := nat_of hst.1
  obtain ⟨sn, rfl⟩ := nat_of hsn.1
  obtain ⟨rd, rfl⟩ := nat_of hrd.1
  obtain ⟨lm, rfl⟩ := nat_of hlm.1
  have haw := Lib.hid (fun u hu => awake_any u hu)
  have hm6 := Lib.hid (fun u => mod_at ix 6 6 u rfl hix.1 hix.2 (by omega) (by omega))
  have hm15 := Lib.hid (fun u => mod_at ix 15 15 u rfl hix.1 hix.2 (by omega) (by omega))
  go_enter Tryd.func7, Tryd.ntmps7
  go_wp2_with fail
  refine (hm6.out _).mono ?_
  rintro e w0 ⟨i, hi, rfl, rfl⟩
  go_wp2_with fail
  refine (hm15.out _).mono ?_
  rintro e w0 ⟨k, hk, rfl, rfl⟩
  have ho := off_le i hi
  obtain ⟨A, hA⟩ : ∃ A : Ev, A = ⟨0, 0, 32, st, sn, 1, !asd, 80 + off i, rd, lm⟩ := ⟨_, rfl⟩
  obtain ⟨B, hB⟩ : ∃ B : Ev, B = ⟨0, 0, 32, st, sn, 111, !asd, k, 255, 255⟩ := ⟨_, rfl⟩
  have fA : A.Fit := by rw [hA]; exact ⟨by show 0 < 65536; omega, by show 0 < 4294967296; omega, by show 32 < 65536; omega, by show st < 256; omega, by show sn < 256; omega, by show 1 < 256; omega, by show 80 + off i < 256; omega, by show rd < 256; omega, by show lm < 256; omega⟩
  have fB : B.Fit := by rw [hB]; exact ⟨by show 0 < 65536; omega, by show 0 < 4294967296; omega, by show 32 < 65536; omega, by show st < 256; omega, by show sn < 256; omega, by show 111 < 256; omega, by show k < 256; omega, by show 255 < 256; omega, by show 255 < 256; omega⟩
  have ht := Lib.hid (fun u hu => (by have := threshold_p st sn i asd rd lm u hi hu; rw [← hA] at this; exact this))
  have hs := Lib.hid (fun u => (by have := state_p st sn k asd u (by omega); rw [← hB] at this; exact this))
  have hia := Lib.hid (fun u hu => (by have := index_p A fA u hu; rw [show idx A = (i, true, true) by rw [hA]; simp [idx, ofs_off i hi]] at this; exact this))
  have hib := Lib.hid (fun u hu => (by have := index_p B fB u hu; rw [show idx B = (k, false, true) by rw [hB]; simp [idx, show k ≤ 14 by omega]] at this; exact this))
  have hva := Lib.hid (fun u => (by have := valid_p A u; rw [show vld A = true by rw [hA]; rfl] at this; exact this))
  have hvb := Lib.hid (fun u => (by have := valid_p B u; rw [show vld B = true by rw [hB]; rfl] at this; exact this))
  have hsa := Lib.hid (fun u hu => (by have := severity_p A fA u hu; rw [hA, sev_th st sn i rd lm (!asd) hi, ← hA] at this; exact this))
  have hsb := Lib.hid (fun u hu => (by have := severity_p B fB u hu; rw [show sev B = 0 by rw [hB]; simp [sev, idx, show k ≤ 14 by omega]] at this; exact this))
  have e3 : ∀ w r, Box w r A → w.cell? ⟨r, 3, none⟩ = some (.int .u8 (st : Int)) := fun w r h => by have := h.c3; rw [hA] at this; exact this
  have e6 : ∀ w r, Box w r A → w.cell? ⟨r, 6, none⟩ = some (.bool (!asd)) := fun w r h => by have := h.c6; rw [hA] at this; exact this
  have e8 : ∀ w r, Box w r A → w.cell? ⟨r, 8, none⟩ = some (.int .u8 (rd : Int)) := fun w r h => by have := h.c8; rw [hA] at this; exact this
  have e9 : ∀ w r, Box w r A → w.cell? ⟨r, 9, none⟩ = some (.int .u8 (lm : Int)) := fun w r h => by have := h.c9; rw [hA] at this; exact this
  have i4 : ∀ w r, Box w r B → w.cell? ⟨r, 4, none⟩ = some (.int .u8 (sn : Int)) := fun w r h => by have := h.c4; rw [hB] at this; exact this
  have i6 : ∀ w r, Box w r B → w.cell? ⟨r, 6, none⟩ = some (.bool (!asd)) := fun w r h => by have := h.c6; rw [hB] at this; exact this
  have E := Lib.hid (And.intro e3 (And.intro e6 (And.intro e8 (And.intro e9 (And.intro i4 i6)))))
  clear e3 e6 e8 e9 i4 i6 hA hB fA fB ho hm6 hm15
  cases asd
  · go_wp2_with fail
    refine (ht.out _ htab.off).mono ?_
    rintro e w1 ⟨rfl, hb1⟩
    go_wp2_with (refine wpList_store_box rfl (.tmp 15) (.tmp 38) rfl w1.heap.size A Ev.none rfl rfl (Box.new w1 Ev.none) ?_; intro w2 hB2 hg2)
    have hb2 := (hb1.alloc hb1.size (.cells Ev.none.cells 26)).grown hg2 (by have := hb1.size; simp; omega) (fun k hk => by injection hk; have := hb1.size; omega)
    refine (hs.out _).mono ?_
    rintro e w3 ⟨rfl, hb3⟩
    have hB3 := hB2.below hb3 hB2.lt
    have hb3' := hb2.trans (hb3.mono hb2.size)
    go_wp2_with (first
      | (refine wpList_store_box rfl (.tmp 17) (.tmp 46) rfl w3.heap.size B Ev.none rfl rfl (Box.new w3 Ev.none) ?_; intro w4 hB4 hg4; refine Hid.out ?_))
    refine Lib.hid ?_
    have B1 := (hB3.alloc (.cells Ev.none.cells 26)).grown hg4 (fun e => by injection e; have := hB3.lt; omega)
    have hb4 := (hb3'.alloc hb3'.size (.cells Ev.none.cells 26)).grown hg4 (by have := hb3'.size; simp; omega) (fun k hk => by injection hk; have := hb3'.size; omega)
    have l1 := B1.lt
    have l3 := hB4.lt
    clear hB2 hg2 hB3 hg4 hb1 hb2 hb3 hb3'
    replace B1 := Lib.hid B1
    replace hB4 := Lib.hid hB4
    replace hb4 := Lib.hid hb4
    go_wp2_with (first | (refine wpList_load_box_w (by go_simp) (.tmp 15) rfl w1.heap.size A rfl B1.out ?_) | (refine wpList_load_box_w (by go_simp) (.tmp 17) rfl w3.heap.size B rfl hB4.out ?_))
    refine (hia.out _ (htab.below hb4.out).off).mono ?_
    rintro e w5 ⟨rfl, hb5⟩
    have B1 := Lib.hid (B1.out.below hb5 (by first | exact l1 | exact B1.out.lt))
    have hB4 := Lib.hid (hB4.out.below hb5 (by exact hB4.out.lt))
    have hb4 := Lib.hid (hb4.out.trans (hb5.mono hb4.out.size))
    dsimp only [idxV]
    go_wp2_with (first | (refine wpList_load_box_w (by go_simp) (.tmp 15) rfl w1.heap.size A rfl B1.out ?_) | (refine wpList_load_box_w (by go_simp) (.tmp 17) rfl w3.heap.size B rfl hB4.out ?_))
    refine (hib.out _ (htab.below hb4.out).off).mono ?_
    rintro e w6 ⟨rfl, hb6⟩
    have B1 := Lib.hid (B1.out.below hb6 (by first | exact l1 | exact B1.out.lt))
    have hB4 := Lib.hid (hB4.out.below hb6 (by exact hB4.out.lt))
    have hb4 := Lib.hid (hb4.out.trans (hb6.mono hb4.out.size))
    dsimp only [idxV]
    go_wp2_with (first | (refine wpList_load_box_w (by go_simp) (.tmp 15) rfl w1.heap.size A rfl B1.out ?_) | (refine wpList_load_box_w (by go_simp) (.tmp 17) rfl w3.heap.size B rfl hB4.out ?_))
    refine (hva.out _).mono ?_
    rintro e w7 ⟨rfl, hb7⟩
    have B1 := Lib.hid (B1.out.below hb7 (by first | exact l1 | exact B1.out.lt))
    have hB4 := Lib.hid (hB4.out.below hb7 (by exact hB4.out.lt))
    have hb4 := Lib.hid (hb4.out.trans (hb7.mono hb4.out.size))
    go_wp2_with (first | (refine wpList_load_box_w (by go_simp) (.tmp 15) rfl w1.heap.size A rfl B1.out ?_) | (refine wpList_load_box_w (by go_simp) (.tmp 17) rfl w3.heap.size B rfl hB4.out ?_))
    refine (hvb.out _).mono ?_
    rintro e w8 ⟨rfl, hb8⟩
    have B1 := Lib.hid (B1.out.below hb8 (by first | exact l1 | exact B1.out.lt))
    have hB4 := Lib.hid (hB4.out.below hb8 (by exact hB4.out.lt))
    have hb4 := Lib.hid (hb4.out.trans (hb8.mono hb4.out.size))
    have c3 := E.out.1 _ _ B1.out
    have c6 := E.out.2.1 _ _ B1.out
    have c8 := E.out.2.2.1 _ _ B1.out
    have c9 := E.out.2.2.2.1 _ _ B1.out
    have d4 := E.out.2.2.2.2.1 _ _ hB4.out
    have d6 := E.out.2.2.2.2.2 _ _ hB4.out
    go_wp2_with (first | (refine wpList_load_box_w (by go_simp) (.tmp 15) rfl w1.heap.size A rfl B1.out ?_) | (refine wpList_load_box_w (by go_simp) (.tmp 17) rfl w3.heap.size B rfl hB4.out ?_))
    refine (hsa.out _ (htab.below hb4.out).off).mono ?_
    rintro e w9 ⟨rfl, hb9⟩
    have B1 := Lib.hid (B1.out.below hb9 (by first | exact l1 | exact B1.out.lt))
    have hB4 := Lib.hid (hB4.out.below hb9 (by exact hB4.out.lt))
    have hb4 := Lib.hid (hb4.out.trans (hb9.mono hb4.out.size))
    go_wp2_with (first | (refine wpList_load_box_w (by go_simp) (.tmp 15) rfl w1.heap.size A rfl B1.out ?_) | (refine wpList_load_box_w (by go_simp) (.tmp 17) rfl w3.heap.size B rfl hB4.out ?_))
    refine (hsb.out _ (htab.below hb4.out).off).mono ?_
    rintro e w10 ⟨rfl, hb10⟩
    have B1 := Lib.hid (B1.out.below hb10 (by first | exact l1 | exact B1.out.lt))
    have hB4 := Lib.hid (hB4.out.below hb10 (by exact hB4.out.lt))
    have hb4 := Lib.hid (hb4.out.trans (hb10.mono hb4.out.size))
    go_wp2_with fail
    refine (haw.out _ (htab.below hb4.out)).mono ?_
    rintro e w11 ⟨rfl, hb11⟩
    go_wp2_with fail
    go_ret
    exact ⟨by first | rfl | exact ret_bool (by simp; omega), hb4.out.trans (hb11.mono hb4.out.size)⟩
  · go_wp2_with fail
    refine (ht.out _ htab.off).mono ?_
    rintro e w1 ⟨rfl, hb1⟩
    go_wp2_with (refine wpList_store_box rfl (.tmp 15) (.tmp 38) rfl w1.heap.size A Ev.none rfl rfl (Box.new w1 Ev.none) ?_; intro w2 hB2 hg2)
    have hb2 := (hb1.alloc hb1.size (.cells Ev.none.cells 26)).grown hg2 (by have := hb1.size; simp; omega) (fun k hk => by injection hk; have := hb1.size; omega)
    refine (hs.out _).mono ?_
    rintro e w3 ⟨rfl, hb3⟩
    have hB3 := hB2.below hb3 hB2.lt
    have hb3' := hb2.trans (hb3.mono hb2.size)
    go_wp2_with (first
      | (refine wpList_store_box rfl (.tmp 17) (.tmp 46) rfl w3.heap.size B Ev.none rfl rfl (Box.new w3 Ev.none) ?_; intro w4 hB4 hg4; refine Hid.out ?_))
    refine Lib.hid ?_
    have B1 := (hB3.alloc (.cells Ev.none.cells 26)).grown hg4 (fun e => by injection e; have := hB3.lt; omega)
    have hb4 := (hb3'.alloc hb3'.size (.cells Ev.none.cells 26)).grown hg4 (by have := hb3'.size; simp; omega) (fun k hk => by injection hk; have := hb3'.size; omega)
    have l1 := B1.lt
    have l3 := hB4.lt
    clear hB2 hg2 hB3 hg4 hb1 hb2 hb3 hb3'
    replace B1 := Lib.hid B1
    replace hB4 := Lib.hid hB4
    replace hb4 := Lib.hid hb4
    go_wp2_with (first | (refine wpList_load_box_w (by go_simp) (.tmp 15) rfl w1.heap.size A rfl B1.out ?_) | (refine wpList_load_box_w (by go_simp) (.tmp 17) rfl w3.heap.size B rfl hB4.out ?_))
    refine (hia.out _ (htab.below hb4.out).off).mono ?_
    rintro e w5 ⟨rfl, hb5⟩
    have B1 := Lib.hid (B1.out.below hb5 (by first | exact l1 | exact B1.out.lt))
    have hB4 := Lib.hid (hB4.out.below hb5 (by exact hB4.out.lt))
    have hb4 := Lib.hid (hb4.out.trans (hb5.mono hb4.out.size))
    dsimp only [idxV]
    go_wp2_with (first | (refine wpList_load_box_w (by go_simp) (.tmp 15) rfl w1.heap.size A rfl B1.out ?_) | (refine wpList_load_box_w (by go_simp) (.tmp 17) rfl w3.heap.size B rfl hB4.out ?_))
    refine (hib.out _ (htab.below hb4.out).off).mono ?_
    rintro e w6 ⟨rfl, hb6⟩
    have B1 := Lib.hid (B1.out.below hb6 (by first | exact l1 | exact B1.out.lt))
    have hB4 := Lib.hid (hB4.out.below hb6 (by exact hB4.out.lt))
    have hb4 := Lib.hid (hb4.out.trans (hb6.mono hb4.out.size))
    dsimp only [idxV]
    go_wp2_with (first | (refine wpList_load_box_w (by go_simp) (.tmp 15) rfl w1.heap.size A rfl B1.out ?_) | (refine wpList_load_box_w (by go_simp) (.tmp 17) rfl w3.heap.size B rfl hB4.out ?_))
    refine (hva.out _).mono ?_
    rintro e w7 ⟨rfl, hb7⟩
    have B1 := Lib.hid (B1.out.below hb7 (by first | exact l1 | exact B1.out.lt))
    have hB4 := Lib.hid (hB4.out.below hb7 (by exact hB4.out.lt))
    have hb4 := Lib.hid (hb4.out.trans (hb7.mono hb4.out.size))
    go_wp2_with (first | (refine wpList_load_box_w (by go_simp) (.tmp 15) rfl w1.heap.size A rfl B1.out ?_) | (refine wpList_load_box_w (by go_simp) (.tmp 17) rfl w3.heap.size B rfl hB4.out ?_))
    refine (hvb.out _).mono ?_
    rintro e w8 ⟨rfl, hb8⟩
    have B1 := Lib.hid (B1.out.below hb8 (by first | exact l1 | exact B1.out.lt))
    have hB4 := Lib.hid (hB4.out.below hb8 (by exact hB4.out.lt))
    have hb4 := Lib.hid (hb4.out.trans (hb8.mono hb4.out.size))
    have c3 := E.out.1 _ _ B1.out
    have c6 := E.out.2.1 _ _ B1.out
    have c8 := E.out.2.2.1 _ _ B1.out
    have c9 := E.out.2.2.2.1 _ _ B1.out
    have d4 := E.out.2.2.2.2.1 _ _ hB4.out
    have d6 := E.out.2.2.2.2.2 _ _ hB4.out
    go_wp2_with (first | (refine wpList_load_box_w (by go_simp) (.tmp 15) rfl w1.heap.size A rfl B1.out ?_) | (refine wpList_load_box_w (by go_simp) (.tmp 17) rfl w3.heap.size B rfl hB4.out ?_))
    refine (hsa.out _ (htab.below hb4.out).off).mono ?_
    rintro e w9 ⟨rfl, hb9⟩
    have B1 := Lib.hid (B1.out.below hb9 (by first | exact l1 | exact B1.out.lt))
    have hB4 := Lib.hid (hB4.out.below hb9 (by exact hB4.out.lt))
    have hb4 := Lib.hid (hb4.out.trans (hb9.mono hb4.out.size))
    go_wp2_with (first | (refine wpList_load_box_w (by go_simp) (.tmp 15) rfl w1.heap.size A rfl B1.out ?_) | (refine wpList_load_box_w (by go_simp) (.tmp 17) rfl w3.heap.size B rfl hB4.out ?_))
    refine (hsb.out _ (htab.below hb4.out).off).mono ?_
    rintro e w10 ⟨rfl, hb10⟩
    have B1 := Lib.hid (B1.out.below hb10 (by first | exact l1 | exact B1.out.lt))
    have hB4 := Lib.hid (hB4.out.below hb10 (by exact hB4.out.lt))
    have hb4 := Lib.hid (hb4.out.trans (hb10.mono hb4.out.size))
    go_wp2_with fail
    refine (haw.out _ (htab.below hb4.out)).mono ?_
    rintro e w11 ⟨rfl, hb11⟩
    go_wp2_with fail
    go_ret
    exact ⟨by first | rfl | exact ret_bool (by simp; omega), hb4.out.trans (hb11.mono hb4.out.size)⟩

theorem cells_u8 : Tryd.prog.cellsOf 5 = 1 := by kernel_rfl
theorem own : ownKnob Tryd.prog.godebug = none := by kernel_rfl
theorem laidOut : laidOutB Tryd.prog = true := by kernel_rfl
theorem contract (H : Type) (enc : TypeId × Value → H) (W : World) (base : Nat) (args : Array Value) (ds gs : List (DataW H)) (before : List MemPlace)
    (hval : ∀ (j : Nat) t v, Tryd.f7.params[j]? = some t → args[j]? = some v → Value.okWide Tryd.prog W .any base t v)
    (hW : DataW.Whole enc Tryd.prog Tryd.f7.params.toList Rows.eventIndexesSpec.vars false W args.toList ds gs before) (htab : V7.Tabs W) :
    Calls Tryd.prog 7 args W fun e W' => ∃ v, e = .returned v ∧ Rows.eventIndexesSpec.post enc Tryd.prog Tryd.f7 false true false false W args v W' := by
  have hW' := hW
  obtain ⟨p, q, hA0, hV, rfl, hfz, hnd⟩ := hW
  have hA : DataW.TrodAll enc Tryd.prog W 0 (fun _ => true) true Tryd.f7.params.toList args.toList ds p := hA0
  rw [Tryd.params7] at hA hval
  obtain ⟨v0, vs0, d0, ds0, p0, q0, hargs, rfl, rfl, h0, r0⟩ := trodAll_cons hA
  obtain ⟨v1, vs1, d1, ds1, p1, q1, rfl, rfl, rfl, h1, r1⟩ := trodAll_cons r0
  obtain ⟨v2, vs2, d2, ds2, p2, q2, rfl, rfl, rfl, h2, r2⟩ := trodAll_cons r1
  obtain ⟨v3, vs3, d3, ds3, p3, q3, rfl, rfl, rfl, h3, r3⟩ := trodAll_cons r2
  obtain ⟨v4, vs4, d4, ds4, p4, q4, rfl, rfl, rfl, h4, r4⟩ := trodAll_cons r3
  obtain ⟨v5, vs5, d5, ds5, p5, q5, rfl, rfl, rfl, h5, r5⟩ := trodAll_cons r4
  obtain ⟨rfl, rfl, rfl⟩ := trodAll_nil r5
  obtain rfl : args = #[v0, v1, v2, v3, v4, v5] := by cases args; simp_all
  obtain ⟨a0, rfl, -, -, w0⟩ := open_int Tryd.underlying5 (hval 0 5 v0 rfl rfl) h0
  obtain ⟨a1, rfl, -, -, w1⟩ := open_int Tryd.underlying5 (hval 1 5 v1 rfl rfl) h1
  obtain ⟨a2, rfl, -, -, w2⟩ := open_int Tryd.underlying3 (hval 2 3 v2 rfl rfl) h2
  obtain ⟨b3, rfl, -, -⟩ := open_bool Tryd.underlying4 (hval 3 4 v3 rfl rfl) h3
  obtain ⟨a4, rfl, -, -, w4⟩ := open_int Tryd.underlying5 (hval 4 5 v4 rfl rfl) h4
  obtain ⟨a5, rfl, -, -, w5⟩ := open_int Tryd.underlying5 (hval 5 5 v5 rfl rfl) h5
  clear hA0
  refine (walk a0 (bounds_u8 w0) a1 (bounds_u8 w1) a2 (bounds_i64 w2) b3 a4 (bounds_u8 w4) a5 (bounds_u8 w5) W  htab).mono fun e W' ⟨he, hb⟩ => ?_
  subst he
  exact ⟨_, rfl, law_post laidOut (types_fit (by kernel_rfl)) (by kernel_rfl) Tryd.underlying4 rfl (fun xs hx => by
    match xs, hx with
    | [_, _, _, _, _, _], _ => rfl) hW' hb⟩

theorem lifted (os : Os) (started : os.Started) (H : Type) (enc : TypeId × Value → H) :
    ReturnsInHanded {} Tryd.checked os 7 .any (fun w args => (Rows.eventIndexesSpec.pre enc Tryd.prog Tryd.f7 Rows.eventIndexesRow.domain false w args ∧ laidMetH Tryd.prog Laid.laid4 w) ∧ sizedMet enc Tryd.prog Tryd.f7 (OpenSpec.ofChange Rows.eventIndexesSpec) false w args) (Rows.eventIndexesSpec.post enc Tryd.prog Tryd.f7 false true false false) := by
  refine returnsInHanded_of_change_and (C := Tryd.checked) (X := fun w _ => laidMetH Tryd.prog Laid.laid4 w) (fun _ _ _ hh h => h.of_heap hh) own started (by kernel_rfl) Tryd.func7
    (ChangeSpec.witness_shaped (enc := enc) (C := Tryd.checked) (os := os) (X := fun w _ => laidMetH Tryd.prog Laid.laid4 w) false (World.doorLaid Tryd.prog 400 os) #[.int .u8 0, .int .u8 0, .int .i64 0, .bool false, .int .u8 0, .int .u8 0] 8 rfl (World.shaped_of_RefB (by kernel_rfl) (by kernel_rfl)) (by kernel_rfl) (by kernel_rfl) (by kernel_rfl) (Laid.door_met os _)) ?_
  intro W base args ds gs before hval hW _ _ hL _
  exact contract H enc W base args ds gs before hval hW (Laid.tab_of hL)

theorem bare : Rows.EventIndexesSaid :=
  OpenClaim.holds_of_wide 7 Tryd.f7 rfl rfl rfl rfl rfl rfl rfl ⟨rfl, rfl, rfl, rfl, rfl⟩ rfl rfl rfl rfl rfl (by kernel_rfl) Tryd.func7 (by kernel_rfl)
    (of_decide_eq_true (by kernel_rfl)) (by unfold Func.isWrapper; first | (rw [if_pos (by decide +kernel)]; kernel_rfl) | (rw [if_neg (by decide +kernel)]; exact ⟨rfl, rfl⟩))
    (fun os started H enc _ => lifted os started H enc)
theorem proved : Rows.EventIndexesCardSaid :=
  Claim7.holds_tied_plain_at .later [] [.data, .data, .data, .data] true (true, Rows.eventIndexesCard.stood.harness.2) false
    bare (fun _ h => by cases h) (by kernel_rfl) (fun _ h => by cases h) eventIndexes_row_tie rfl ⟨rfl, rfl⟩ (by kernel_rfl) rfl
    (fun f fn hf hfn => by
      obtain rfl : f = 7 := Option.some.inj ((show Tryd.prog.funcNamed "baseboard/baseboardlaw07.EventIndexes" = some 7 by kernel_rfl).symm.trans hf) |>.symm
      obtain rfl : fn = Tryd.f7 := (Option.some.inj (Tryd.func7.symm.trans hfn)).symm
      exact ⟨by kernel_rfl, fun j t ht => by
        rw [Tryd.params7] at ht
        have hm : t ∈ [5, 5, 3, 4, 5, 5] := by simpa using Array.mem_of_getElem? ht
        have hall : ([5, 5, 3, 4, 5, 5].all fun u => !Tryd.prog.wantsStandIn u) = true := by kernel_rfl
        exact (show Tryd.prog.wantsStandIn t = false by simpa using List.all_eq_true.1 hall t hm)⟩)
    (by kernel_rfl)
end Go.Proofs.YtgbnigbjnbcfeaaDoor.eventIndexes
