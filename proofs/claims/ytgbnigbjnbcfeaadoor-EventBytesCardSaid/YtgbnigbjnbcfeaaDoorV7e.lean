/- Walks: the examples of the chapter on events, which each statement asks beside its own. -/
import Derived.Test.YtgbnigbjnbcfeaaDoorV7d
namespace Go.Proofs.YtgbnigbjnbcfeaaDoor.V7
open Go.RowKit Go.Proofs.YtgbnigbjnbcfeaaDoor.Mem Go.Proofs.YtgbnigbjnbcfeaaDoor.F2p
set_option maxRecDepth 100000
set_option maxHeartbeats 4000000

/-- The listed variables that the statements' functions read. -/
structure Tabs (w : World) : Prop where
  off : OffTab w
  pow : PowTab w
theorem Tabs.below {w w' : World} (h : Tabs w) (hb : Below w.heap.size w w') : Tabs w' := ⟨h.off.start.at_ hb, h.pow.start.at_ hb⟩
def exE : Ev := ⟨0, 0, 32, 1, 5, 1, false, 89, 87, 80⟩
theorem ex_fmt : (⟨(fmtE exE).toArray⟩ : ByteArray) = ⟨#[48, 32, 48, 32, 51, 50, 32, 49, 32, 53, 32, 49, 32, 43, 32, 53, 57, 53, 55, 53, 48, 32, 116, 104, 114, 101, 115, 104, 111, 108, 100]⟩ := by decide +kernel
theorem ex_fit : exE.Fit := ⟨by decide, by decide, by decide, by decide, by decide, by decide, by decide, by decide, by decide⟩
theorem awake_any (w : World) (htab : Tabs w) :
    Calls Tryd.prog 11 #[] w fun e w' => e = .returned (.bool true) ∧ Below w.heap.size w w' := by
  have ht := Lib.hid (fun u hu => by have := threshold_p 1 5 4 true 87 80 u (by decide) hu; rw [show (⟨0, 0, 32, 1, 5, 1, !true, 80 + off 4, 87, 80⟩ : Ev) = exE from rfl] at this; exact this)
  have hf := Lib.hid (fun u hu => by have := format_p exE ex_fit rfl u hu; rw [ex_fmt] at this; exact this)
  have hs := Lib.hid (fun u hu => severity_p exE ex_fit u hu)
  go_enter Tryd.func11, Tryd.ntmps11
  go_wp2_with fail
  refine (ht.out _ htab.off).mono ?_
  rintro e w1 ⟨rfl, hb1⟩
  go_wp2_with (first
    | (refine wpList_store_box rfl (.tmp 1) (.tmp 7) rfl w1.heap.size exE Ev.none rfl rfl (Box.new w1 Ev.none) ?_; intro w2 hB2 hg2)
    | (refine wpList_load_box rfl (.tmp 1) rfl w1.heap.size exE rfl hB2 ?_))
  have hb2 := (hb1.alloc hb1.size (.cells Ev.none.cells 26)).grown hg2 (by have := hb1.size; simp; omega) (fun k hk => by injection hk; have := hb1.size; omega)
  refine (hf.out _ (htab.below hb2).pow).mono ?_
  rintro e w3 ⟨rfl, hb3⟩
  have hB3 := hB2.below hb3 hB2.lt
  have hb3' := hb2.trans (hb3.mono hb2.size)
  have c0 : w3.cell? ⟨w1.heap.size, 0, none⟩ = some (.int .u16 0) := hB3.c0
  have c1 : w3.cell? ⟨w1.heap.size, 1, none⟩ = some (.int .u32 0) := hB3.c1
  have c2 : w3.cell? ⟨w1.heap.size, 2, none⟩ = some (.int .u16 32) := hB3.c2
  have c3 : w3.cell? ⟨w1.heap.size, 3, none⟩ = some (.int .u8 1) := hB3.c3
  have c4 : w3.cell? ⟨w1.heap.size, 4, none⟩ = some (.int .u8 5) := hB3.c4
  have c5 : w3.cell? ⟨w1.heap.size, 5, none⟩ = some (.int .u8 1) := hB3.c5
  have c6 : w3.cell? ⟨w1.heap.size, 6, none⟩ = some (.bool false) := hB3.c6
  have c7 : w3.cell? ⟨w1.heap.size, 7, none⟩ = some (.int .u8 89) := hB3.c7
  have c8 : w3.cell? ⟨w1.heap.size, 8, none⟩ = some (.int .u8 87) := hB3.c8
  have c9 : w3.cell? ⟨w1.heap.size, 9, none⟩ = some (.int .u8 80) := hB3.c9
  go_wp2_with fail
  refine (hs.out _ (htab.below hb3').off).mono ?_
  rintro e w4 ⟨rfl, hb4⟩
  have hb4' := hb3'.trans (hb4.mono hb3'.size)
  have hsv : ((sev exE : Nat) : Int) = 2 := by decide
  go_wp2_with fail
  go_ret
  exact ⟨rfl, hb4'⟩
end Go.Proofs.YtgbnigbjnbcfeaaDoor.V7
