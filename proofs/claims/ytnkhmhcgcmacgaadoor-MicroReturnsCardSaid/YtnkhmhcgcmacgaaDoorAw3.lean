/- Walks: the examples of the chapter, which each statement asks beside its own. -/
import Derived.Test.YtnkhmhcgcmacgaaDoorM3x
namespace Go.Proofs.YtnkhmhcgcmacgaaDoor.M3w
open Go.RowKit Go.Proofs.YtnkhmhcgcmacgaaDoor.Mem Go.Proofs.YtnkhmhcgcmacgaaDoor.M3p Go.Proofs.YtnkhmhcgcmacgaaDoor.M3r Go.Proofs.YtnkhmhcgcmacgaaDoor.F2p
set_option maxRecDepth 100000
set_option maxHeartbeats 1000000

theorem awake_any (w : World) (htab : PowTab w) :
    Calls Tryd.prog 14 #[] w fun e w' => e = .returned (.bool true) ∧ Below w.heap.size w w' := by
  have hd := Lib.hid (fun u => by have := div_p (-1000000) 3000000 u; rw [show dout (-1000000) 3000000 = .returned (.tuple #[.int .i64 (-333334), .int .i64 0]) by rfl] at this; exact this)
  have hr := Lib.hid (fun u => root_p 2000000 u (by decide))
  have hm := Lib.hid (fun u => by have := mul_p 1500000 (-1) u; rw [show mulS 1500000 (-1) = -2 by rfl] at this; exact this)
  have hf := Lib.hid (fun u hu => by have := format_p (-500000) u hu; rw [show (⟨(fmt (clp (-500000))).toArray⟩ : ByteArray) = ⟨#[45, 48, 46, 53]⟩ by decide +kernel] at this; exact this)
  go_enter Tryd.func14, Tryd.ntmps14
  go_wp2_with fail
  refine (hd.out _).mono ?_
  rintro e w1 ⟨rfl, rfl⟩
  go_wp2_with fail
  refine (hr.out _).mono ?_
  rintro e w1 ⟨⟨r, rfl, hroot, -⟩, rfl⟩
  obtain rfl : r = 1414213 := root_one hroot ⟨by decide, by decide⟩
  go_wp2_with fail
  refine (hm.out _).mono ?_
  rintro e w1 ⟨rfl, rfl⟩
  go_wp2_with fail
  refine (hf.out _ htab).mono ?_
  rintro e w1 ⟨rfl, hb⟩
  go_wp2_with fail
  go_ret
  exact ⟨rfl, hb⟩
end Go.Proofs.YtnkhmhcgcmacgaaDoor.M3w
