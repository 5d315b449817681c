/- Walks: a flash device of the reference: reading, a new one; the program's device and the reference's are the same. -/
import Derived.Test.YtkmkpidoajfhmaaE5w
import Derived.Test.YtkmkpidoajfhmaaE5f
namespace Go.Proofs.Ytkmkpidoajfhmaa.E5v
open Go.RowKit Go.Proofs.Ytkmkpidoajfhmaa.Mem Go.Proofs.Ytkmkpidoajfhmaa.E5p Go.Proofs.Ytkmkpidoajfhmaa.E5m Go.Proofs.Ytkmkpidoajfhmaa.E5a Go.Proofs.Ytkmkpidoajfhmaa.E5d Go.Proofs.Ytkmkpidoajfhmaa.Same
set_option maxRecDepth 100000
set_option maxHeartbeats 1000000
section
variable {base : Nat} {w : World} {d : Sh} {s : Fl}
theorem Dev.drew_ {T : TypeId} (h : Dev T base w d s) : Dev T base w.drew d s := ⟨h.head, h.bytes, h.wear, h.low, h.n1, h.n2, h.n3⟩
/-- The program's device and the reference's in the same state. -/
theorem same_dev {f : Sh} {b2 m : Nat} (h : PDev base w d s) (h' : RDev b2 w f s) (ok : s.Ok m) :
    Calls Try.prog 16 #[.pointer (some ⟨d.g, 0, none⟩), .pointer (some ⟨f.g, 0, none⟩)] w fun e w' => e = .returned (.bool true) ∧ Below w.heap.size w w' := by
  have hD := Dev.drew_ h
  have hR := Dev.drew_ h'
  have HSEC := Lib.hid (sectors_p hD); have HSIZ := Lib.hid (size_p hD); have HDN := Lib.hid (down_p hD); have HST := Lib.hid (steps_p hD)
  have HWR := Lib.hid (wear_p hD ok)
  have hbb : (s.down != s.down) = false := by simp
  have hmost := ok.most
  have hblen := ok.bytes_le
  have hbd : Below w.heap.size w w.drew := ⟨rfl, rfl, rfl, Nat.le_refl _, fun _ _ => rfl⟩
  have HALL := Lib.hid (fun wr (hr : Below w.heap.size w wr) => (⟨hr, (h'.below hr (Nat.le_refl _)).c0, (h'.below hr (Nat.le_refl _)).c2, (h'.below hr (Nat.le_refl _)).c3, (h'.below hr (Nat.le_refl _)).c6⟩ : (fun w' => Below w.heap.size w w' ∧ w'.cell? ⟨f.g, 0, none⟩ = some (.int .i64 (s.size : Int)) ∧ w'.cell? ⟨f.g, 2, none⟩ = some (.slice (some ⟨f.gw, 0, none⟩) s.wear.length f.cw) ∧ w'.cell? ⟨f.g, 3, none⟩ = some (.int .i64 (s.steps : Int)) ∧ w'.cell? ⟨f.g, 6, none⟩ = some (.bool s.down)) wr))
  have HIN := Lib.hid (fun (u : World) (hr : Below w.heap.size w u) V1 n1 q1 (hv : ISl u V1 n1 q1 s.wear) => ints_any V1 (some ⟨f.gw, 0, none⟩) n1 s.wear.length q1 f.cw s.wear s.wear u hv (h'.below hr (Nat.le_refl _)).isl)
  go_enter Try.func16, Try.ntmps16
  go_wp2_with fail
  go_region_held3 (fun w' => Below w.heap.size w w' ∧ w'.cell? ⟨f.g, 0, none⟩ = some (.int .i64 (s.size : Int)) ∧ w'.cell? ⟨f.g, 2, none⟩ = some (.slice (some ⟨f.gw, 0, none⟩) s.wear.length f.cw) ∧ w'.cell? ⟨f.g, 3, none⟩ = some (.int .i64 (s.steps : Int)) ∧ w'.cell? ⟨f.g, 6, none⟩ = some (.bool s.down)) (first | exact HALL.out _ hbd | exact HALL.out _ hb1 | exact HALL.out _ hb2 | go_keep)
    (first
      | (go_at_call 41; (with_reducible refine (HSEC.out).mono ?_); rintro e w' ⟨rfl, rfl⟩)
      | (go_at_call 42; (with_reducible refine (HSIZ.out).mono ?_); rintro e w' ⟨rfl, rfl⟩)
      | (go_at_call 35; (with_reducible refine (HDN.out).mono ?_); rintro e w' ⟨rfl, rfl⟩)
      | (go_at_call 34; (with_reducible refine (HST.out).mono ?_); rintro e w' ⟨rfl, rfl⟩)
      | (go_at_call 36; (with_reducible refine (HWR.out).mono ?_); rintro e w1 ⟨v1, rfl, ho1, hb1'⟩; obtain ⟨V1, n1, q1, rfl, hv1⟩ := ISl.of_own ho1; have hb1 := hbd.trans hb1')
      | (go_at_call 43; (with_reducible refine (HIN.out _ hb1 _ _ _ hv1).mono ?_); rintro e w2 ⟨rfl, qq, rfl⟩; have hb2 := below_drewN (k := qq) hb1))
  have hdec : decide (s.wear = s.wear) = true := by simp
  have hrd : s.down = false → s.read 0 (s.bytes.length : Int) = (s.bytes, 0) := by
    intro hd
    have e1 : s.fits 0 (s.bytes.length : Int) = true := by simp [Fl.fits]
    unfold Fl.read
    rw [hd, e1]
    simp
  have hrp : s.down = true → s.read 0 (s.bytes.length : Int) = ([], 10) := by
    intro hd
    simp [Fl.read, hd]
  have HRD := Lib.hid hrd; have HRP := Lib.hid hrp; clear hrd hrp
  have h3 := h.below hb2 (Nat.le_refl _)
  have h3' := h'.below hb2 (Nat.le_refl _)
  generalize w1.drewN qq = w3 at *
  clear hb1 hv1 ho1 hb1' HALL HIN HSEC HSIZ HDN HST HWR hbd
  have c1 := h3'.c1
  have hr := read_p h3 ok 0 (s.bytes.length : Int) (by omega) (by omega) (by omega) (by omega)
  have HR := Lib.hid hr; clear hr
  go_wp2_with fail
  refine HR.out.mono ?_
  rintro e w4 ⟨v, rfl, ho, hb4⟩
  obtain ⟨X, xn, xc, rfl, hxs⟩ := Sl.of_own ho
  have h4' := h3'.below hb4 (Nat.le_refl _)
  have c6 := h4'.c6
  have c1' := h4'.c1
  have hB4 := hb2.trans (hb4.mono hb2.size)
  clear HR c1
  cases hd : s.down
  · rw [HRD.out hd] at hxs ⊢
    rw [hd] at c6
    dsimp only at hxs
    have HD := Lib.hid hd; clear hd
    have hsl := h4'.sl
    go_wp2_with fail
    refine (same_yes hxs hsl).mono ?_
    rintro e w5 ⟨rfl, hb5⟩
    go_wp2_with fail
    go_ret
    exact ⟨rfl, hB4.trans (hb5.mono hB4.size)⟩
  · rw [HRP.out hd] at hxs ⊢
    rw [hd] at c6
    have HD := Lib.hid hd; clear hd
    have hxn : xn = 0 := hxs.len
    subst hxn
    go_wp2_with fail
    go_ret
    exact ⟨rfl, hB4⟩
end
end Go.Proofs.Ytkmkpidoajfhmaa.E5v
