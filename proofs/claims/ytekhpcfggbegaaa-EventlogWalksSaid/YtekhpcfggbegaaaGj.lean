/- Walks: room for a record; a record is written; Add. -/
import Derived.Test.YtekhpcfggbegaaaGi
namespace Go.Proofs.Ytekhpcfggbegaaa.G9
open Go.RowKit Go.Proofs.Ytekhpcfggbegaaa.Mem Go.Proofs.Ytekhpcfggbegaaa.F2p Go.Proofs.Ytekhpcfggbegaaa.E5p Go.Proofs.Ytekhpcfggbegaaa.E5m Go.Proofs.Ytekhpcfggbegaaa.E5a Go.Proofs.Ytekhpcfggbegaaa.E5d Go.Proofs.Ytekhpcfggbegaaa.V7 Go.Proofs.Ytekhpcfggbegaaa.V9
set_option maxRecDepth 100000
set_option maxHeartbeats 4000000

section
variable {B : Nat} {W w w' : World} {d : Sh} {s s' : Fl} {m m' g n n' : Nat} {rv rv' : Value} {L L' : Lg}
/-- What a call that may turn the log leaves. -/
def Out (B : Nat) (W w : World) (d : Sh) (m g : Nat) (rv : Value) (n : Nat) (r : Fl × Lg × Int) (x : Ending) (w' : World) : Prop :=
  ∃ rv', x = .returned (.int .i64 r.2.2) ∧ LA B W w' d r.1 m g rv' r.2.1 n ∧ Kp d g rv rv' w w'
theorem open_o (h : LA B W w d s m g rv L n) (hm : m ≤ 800000) (t : Nat) (ht1 : 1 ≤ t) (ht2 : t ≤ L.newest + 2) (hn : n ≤ 900) :
    Calls Try.prog 148 #[.pointer (some ⟨g, 0, none⟩), .int .i64 (t : Int)] w (Out B W w d (m + 20) g rv n (Lg.openSec s L t)) := (open_p h hm t ht1 ht2 hn).mono fun _ _ h => h
theorem room_p (h : LA B W w d s m g rv L n) (hm : m ≤ 800000) (hn : n ≤ 900) :
    Calls Try.prog 115 #[.pointer (some ⟨g, 0, none⟩)] w (Out B W w d (m + 20) g rv n (Lg.room s L)) := by
  have hlg := h.lg
  have c0 := h.c0; have c2 := h.c2; have c3 := h.c3; have c4 := h.c4; have c5 := h.c5; have c6 := h.c6
  have hnw := h.ok.newest; have ht0 := h.ok.tail0; have ht1 := h.ok.tail1; have hu := h.ok.used; have hS := h.ok.two
  have hS2 : L.S ≤ 16 := by have := h.ok.fits; have := h.dev.ok.most; omega
  have hsz := h.dev.ok.size1; have hsz2 := h.dev.ok.size2
  have HZ := Lib.hid (fun k => size_p (h.dev.dev.drewN k))
  have HSL := Lib.hid (fun u => slots_p s.size (by omega) (by omega) u)
  have H := Lib.hid h
  have HOP := Lib.hid (fun k t ht1 ht2 => open_o (h.drewN k) hm t ht1 ht2 hn)
  have HK := Lib.hid (fun k => (Kp.refl (d := d) (g := g) (rv := rv) (w := w)).drewN k)
  have hsl : slots s = (s.size - 11) / 17 := rfl
  have hsl59 : slots s ≤ 59 := (slots_le h.dev.ok).1
  rw [← hsl] at HSL
  clear h hm hn
  go_enter Try.func115, Try.ntmps115
  go_wp2_with fail
  go_quiet (first | (go_at_call 109; exact quiet_same (HZ.out _)) | (go_at_call 82; exact quiet_same (HSL.out _)))
  rcases Nat.lt_or_ge L.used (slots s) with hlt | hge
  · have hr : Lg.room s L = (s, L, 0) := by unfold Lg.room; rw [if_pos hlt]
    have HR := Lib.hid hr
    have n1 : (L.used : Int) < ((slots s : Nat) : Int) := by omega
    clear hr
    go_wp2_with fail
    go_ret
    rw [HR.out]
    exact ⟨rv, rfl, (H.out.drewN _).m_ (Nat.le_add_right m 20), HK.out _⟩
  · have n1 : ¬ (L.used : Int) < ((slots s : Nat) : Int) := by omega
    go_wp2_with fail
    go_quiet (fail)
    rcases Classical.em ((L.S : Int) - 2 < (L.newest : Int) + 1 - (L.tail : Int)) with hfull | hfull
    · rcases hw : L.ow with _ | _
      · have hr : Lg.room s L = (s, L, 9) := by unfold Lg.room; rw [if_neg (Nat.not_lt.2 hge), if_pos hfull, hw]; rfl
        have HR := Lib.hid hr
        rw [hw] at c3
        clear hr hw
        go_wp2_with fail
        go_ret
        rw [HR.out]
        exact ⟨rv, rfl, (H.out.drewN _).m_ (Nat.le_add_right m 20), HK.out _⟩
      · have hr : Lg.room s L = Lg.openSec s L (L.tail + 1) := by unfold Lg.room; rw [if_neg (Nat.not_lt.2 hge), if_pos hfull, hw]; rfl
        have HR := Lib.hid hr
        have HT1 := Lib.hid (show L.tail + 1 ≤ L.newest + 2 by omega)
        have HC : ((L.tail + 1 : Nat) : Int) = (L.tail : Int) + 1 := by omega
        have HO := Lib.hid (fun k => HOP.out k (L.tail + 1) (Nat.le_add_left 1 _) HT1.out)
        rw [HC] at HO
        rw [hw] at c3
        clear hr hw HC
        go_wp2_with fail
        refine (HO.out _).mono ?_
        rintro x w2 ⟨rv2, rfl, h2, k2⟩
        have H2 := Lib.hid h2
        have K2 := Lib.hid ((HK.out _).trans k2)
        clear h2 k2
        go_wp2_with fail
        go_ret
        rw [HR.out]
        exact ⟨rv2, rfl, H2.out, K2.out⟩
    · have hr : Lg.room s L = Lg.openSec s L L.tail := by unfold Lg.room; rw [if_neg (Nat.not_lt.2 hge), if_neg hfull]
      have HR := Lib.hid hr
      have HO := Lib.hid (fun k => HOP.out k L.tail ht0 (Nat.le_trans ht1 (Nat.le_succ _)))
      clear hr
      go_wp2_with fail
      refine (HO.out _).mono ?_
      rintro x w2 ⟨rv2, rfl, h2, k2⟩
      have H2 := Lib.hid h2
      have K2 := Lib.hid ((HK.out _).trans k2)
      clear h2 k2
      go_wp2_with fail
      go_ret
      rw [HR.out]
      exact ⟨rv2, rfl, H2.out, K2.out⟩
end
end Go.Proofs.Ytekhpcfggbegaaa.G9
