/- FlashPlays holds for every input: a device that is told anything has the bytes, the wear and the steps that the chapter says, and returns what it says. No condition. -/
import Derived.Test.YtkmkpidoajfhmaaE5x
import Derived.Test.YtkmkpidoajfhmaaE5y
import Derived.Test.YtkmkpidoajfhmaaLaw5
namespace Go.Proofs.Ytkmkpidoajfhmaa.flashPlays
open Go.RowKit Go.ChangeShapes Go.WideShapes Go.ChangeAt Go.Proofs.Ytkmkpidoajfhmaa.Mem Go.Proofs.Ytkmkpidoajfhmaa.E5p Go.Proofs.Ytkmkpidoajfhmaa.E5m Go.Proofs.Ytkmkpidoajfhmaa.E5a Go.Proofs.Ytkmkpidoajfhmaa.E5v Go.Proofs.Ytkmkpidoajfhmaa.E5d Go.Proofs.Ytkmkpidoajfhmaa.Made Go.Proofs.Ytkmkpidoajfhmaa.Same Go.Proofs.Ytkmkpidoajfhmaa.Law
set_option maxRecDepth 100000
set_option maxHeartbeats 2000000

/-- The variable that holds one thing. -/
def Bx (w : World) (F : Nat) (x : Do1) : Prop := w.heap[F]? = some (.cells #[.int .i64 x.kind, .int .i64 x.a, .int .i64 x.b, .int .u8 (x.torn.toNat : Int), .slice x.A x.n x.c] 37 (0, 0))
section
variable {B : Nat} {W w w' : World} {d f : Sh} {s s0 : Fl} {m F : Nat} {x : Do1}
theorem Bx.lt (h : Bx w F x) : F < w.heap.size := lt_of_some h
theorem Bx.c0 (h : Bx w F x) : w.cell? ⟨F, 0, none⟩ = some (.int .i64 x.kind) := by rw [cell_of_row w F 0 _ _ _ h]; rfl
theorem Bx.c1 (h : Bx w F x) : w.cell? ⟨F, 1, none⟩ = some (.int .i64 x.a) := by rw [cell_of_row w F 1 _ _ _ h]; rfl
theorem Bx.c2 (h : Bx w F x) : w.cell? ⟨F, 2, none⟩ = some (.int .i64 x.b) := by rw [cell_of_row w F 2 _ _ _ h]; rfl
theorem Bx.c3 (h : Bx w F x) : w.cell? ⟨F, 3, none⟩ = some (.int .u8 (x.torn.toNat : Int)) := by rw [cell_of_row w F 3 _ _ _ h]; rfl
theorem Bx.c4 (h : Bx w F x) : w.cell? ⟨F, 4, none⟩ = some (.slice x.A x.n x.c) := by rw [cell_of_row w F 4 _ _ _ h]; rfl
theorem Bx.kept (h : Bx w F x) (k : Kept d w w') (h1 : F ≠ d.g) (h2 : F ≠ d.gb) (h3 : F ≠ d.gw) : Bx w' F x := (k.block F h.lt h1 h2 h3).trans h
theorem Bx.step (h : Bx w F x) (k : Below w.heap.size w w') : Bx w' F x := (k.block F h.lt).trans h
theorem Bx.drew (h : Bx w F x) : Bx w.drew F x := h
theorem keptR (h : At B W w d s m) (k : Kept f w w') (hR : RDev B w f s0) (ap : Apart f d) : At B W w' d s m := ⟨h.dev.kept k ap, h.ok, k.below h.low hR⟩
end
theorem geometry_any (a b : Int) (ha : -9223372036854775808 ≤ a ∧ a ≤ 9223372036854775807) (hb : -9223372036854775808 ≤ b ∧ b ≤ 9223372036854775807) (w : World) :
    Calls Try.prog 15 #[.int .i64 a, .int .i64 b] w fun e w' => (∃ N M : Nat, 1 ≤ N ∧ N ≤ 4 ∧ 64 ≤ M ∧ M ≤ 133 ∧ e = .returned (.tuple #[.int .i64 (N : Int), .int .i64 (M : Int)])) ∧ w = w' := by
  have h4 := mod_any a 4 w ha.1 ha.2 (by omega) (by omega)
  have h70 := mod_any b 70 w hb.1 hb.2 (by omega) (by omega)
  have H4 := Lib.hid h4; have H70 := Lib.hid h70; clear h4 h70
  go_enter Try.func15, Try.ntmps15
  go_wp2_with fail
  refine H4.out.mono ?_
  rintro e w' ⟨⟨p, hp, rfl, -⟩, rfl⟩
  go_wp2_with fail
  refine H70.out.mono ?_
  rintro e w' ⟨⟨q, hq, rfl, -⟩, rfl⟩
  go_wp2_with fail
  go_ret2
  refine ⟨⟨1 + p, 64 + q, by omega, by omega, by omega, by omega, ?_⟩, rfl⟩
  push_cast
  rfl

theorem walk (a : Int) (ha : -9223372036854775808 ≤ a ∧ a ≤ 9223372036854775807) (b : Int) (hb : -9223372036854775808 ≤ b ∧ b ≤ 9223372036854775807) (A : Option Addr) (n c : Nat) (l : List Do1)
    (w : World) (hr : Scr w.heap.size w A n c l) :
    Calls Try.prog 3 #[.int .i64 a, .int .i64 b, .slice A n c] w fun e w' => e = .returned (.bool true) ∧ Below w.heap.size w w' := by
  have hl := light_any w.heap.size A n c l w hr
  have HL := Lib.hid hl; clear hl
  cases h1 : lightB l
  · go_enter Try.func3, Try.ntmps3
    go_wp2_with fail
    refine HL.out.mono ?_
    rintro e w' ⟨rfl, q1, rfl⟩
    rw [h1]
    go_wp2_with fail
    refine (awake_any _).mono ?_
    rintro e w1 ⟨rfl, hb⟩
    go_wp2_with fail
    go_ret
    exact ⟨rfl, (show Below w.heap.size w _ from below_of_drawn).trans hb⟩
  · obtain ⟨a1, b1⟩ := light_yes h1
    have z1 : n ≤ 60 := by have := hr.len; omega
    have B1 := Lib.hid b1; clear b1
    have hn := hr.len
    have HN := Lib.hid hn; clear hn
    by_cases hv : 1 ≤ a ∧ a ≤ 16 ∧ 64 ≤ b ∧ b ≤ 1024
    · obtain ⟨a, rfl⟩ := Int.eq_ofNat_of_zero_le (by omega : 0 ≤ a)
      obtain ⟨b, rfl⟩ := Int.eq_ofNat_of_zero_le (by omega : 0 ≤ b)
      obtain ⟨v1, v2, v3, v4⟩ := hv
      go_enter Try.func3, Try.ntmps3
      go_wp2_with fail
      refine HL.out.mono ?_
      rintro e w' ⟨rfl, q1, rfl⟩
      rw [h1]
      clear HL h1
      go_wp2_with fail
      refine (new_p a b (by omega) (by omega) (by omega) (by omega) _).mono ?_
      rintro e w1 ⟨dx, rfl, hbx⟩
      have hb1 := (below_of_drawn (B := w.heap.size) (w := w) (k := q1)).trans hbx.2
      clear hbx
      go_wp2_with fail
      refine (new_r a b (by omega) (by omega) (by omega) (by omega) _).mono ?_
      rintro e w2 ⟨fx, rfl, hbx⟩
      have hb2 : Below w.heap.size w w2 := hb1.trans (hbx.2.mono hb1.size)
      clear hbx hb1
      go_wp2_with fail
      refine (geometry_any (a : Int) (b : Int) (by omega) (by omega) w2).mono ?_
      rintro e w' ⟨⟨N, M, hN1, hN2, hM1, hM2, rfl⟩, rfl⟩
      go_wp2_with fail
      refine (At.new N M (by omega) (by omega) (by omega) (by omega) w.heap.size w w2 hb2 hb2.size).mono ?_
      rintro e w3 ⟨d, rfl, hd3, hb3, hnd⟩
      go_wp2_with fail
      refine (new_r N M (by omega) (by omega) (by omega) (by omega) w3).mono ?_
      rintro e w4 ⟨f, rfl, hbf⟩
      have ap : Apart d f := hd3.dev.apart hbf.1 (Nat.le_refl _)
      have hR4 : RDev w.heap.size w4 f (Fl.new N M) := hbf.1.base_ hd3.base
      have hd4 := hd3.step hbf.2
      clear hd3 hb3 hnd hbf hb2
      go_wp2_with fail
      refine (same_dev hd4.dev hR4 hd4.ok).mono ?_
      rintro e w5 ⟨rfl, hb5⟩
      have hd5 := hd4.step hb5
      have hR5 := hR4.below hb5 (Nat.le_refl _)
      clear hd4 hR4 hb5
      obtain ⟨P, hP⟩ : ∃ P, P = N * M := ⟨_, rfl⟩
      have hPle : P ≤ 1000 := by rw [hP]; exact Nat.le_trans (Nat.mul_le_mul hN2 hM2) (by decide)
      have hwr : IntKind.i64.wrap ((N : Int) * (M : Int)) = (P : Int) := by
        have : ((N * M : Nat) : Int) = (N : Int) * (M : Int) := by push_cast; rfl
        rw [hP, ← this]
        exact IntWalk.i64_in _ (by omega)
      have HP := Lib.hid hP; clear hP
      have HWR := Lib.hid hwr; clear hwr
      go_wp2_with fail
      go_loopw [16] (fun i wr => ∃ (k : Nat) (s : Fl), k ≤ n ∧ i = .int .i64 k ∧ At w.heap.size w wr d s (201 * k) ∧ RDev w.heap.size wr f s) (fun i _ => n - (intOf i).toNat)
      case atStart => exact ⟨0, _, Nat.zero_le _, rfl, hd5, hR5⟩
      case round =>
        clear hd5 hR5
        obtain ⟨k, s, hk, rfl, hat, hR⟩ := hrel
        by_cases hlt : k < n
        · have hkl : k < l.length := by have := HN.out; omega
          obtain ⟨p, rfl, hp, hin0⟩ := hr.each k hkl
          have hpa : (p.add (k * 5)).block < w.heap.size := by rw [add_block]; exact hp
          have hin := hin0.below hat.low hpa
          have HIN := Lib.hid hin0; clear hin0
          have hdl := B1.out _ (List.getElem_mem hkl)
          generalize l[k] = x at *
          have b1 : (0 : Int) ≤ (k : Int) := by omega
          have b2 : (k : Int) < (n : Int) := by omega
          have c0 := hin.c0; have c1 := hin.c1; have c2 := hin.c2; have c3 := hin.c3; have c4 := hin.c4
          have hpb : p.block < wr.heap.size := Nat.lt_of_lt_of_le hp hat.base
          go_wp2_with fail
          have hst : Below wr.heap.size wr (wr.alloc (.cells #[.int .i64 x.kind, .int .i64 x.a, .int .i64 x.b, .int .u8 (x.torn.toNat : Int), .slice x.A x.n x.c] 37)) := (Below.refl _ _).alloc (Nat.le_refl _) _
          have hbx : Bx (wr.alloc (.cells #[.int .i64 x.kind, .int .i64 x.a, .int .i64 x.b, .int .u8 (x.torn.toNat : Int), .slice x.A x.n x.c] 37)) wr.heap.size x := heap_alloc_new wr _
          have hat1 := hat.step hst
          have hR1 := hR.below hst (Nat.le_refl _)
          have hlg := hat.dev.lg; have hlb := hat.dev.lb; have hlw := hat.dev.lw
          have hrg := hR.lg; have hrb := hR.lb; have hrw := hR.lw
          generalize wr.alloc (.cells #[.int .i64 x.kind, .int .i64 x.a, .int .i64 x.b, .int .u8 (x.torn.toNat : Int), .slice x.A x.n x.c] 37) = w0 at *
          obtain ⟨F, hF⟩ : ∃ F, F = wr.heap.size := ⟨_, rfl⟩
          rw [← hF] at hbx ⊢
          have m1 : F ≠ d.g := by omega
          have m2 : F ≠ d.gb := by omega
          have m3 : F ≠ d.gw := by omega
          have m4 : F ≠ f.g := by omega
          have m5 : F ≠ f.gb := by omega
          have m6 : F ≠ f.gw := by omega
          clear hF hlg hlb hlw hrg hrb hrw hst c0 c1 c2 c3 c4 hat hR hpb
          have hfin : ∀ (u : World) (s' : Fl), At w.heap.size w u d s' (201 * k + 201) → RDev w.heap.size u f s' → Calls Try.prog 16 #[.pointer (some ⟨d.g, 0, none⟩), .pointer (some ⟨f.g, 0, none⟩)] u fun e w' => e = .returned (.bool true) ∧ ∃ s'', At w.heap.size w w' d s'' (201 * (k + 1)) ∧ RDev w.heap.size w' f s'' :=
            fun u s' hu hv => (same_dev hu.dev hv hu.ok).mono fun _ _ ⟨e1, e2⟩ => ⟨e1, s', ⟨(hu.step e2).dev, hu.ok.more (by omega), (hu.step e2).low⟩, hv.below e2 (Nat.le_refl _)⟩
          have HFIN := Lib.hid hfin; clear hfin
          have hok := hat1.ok
          have hmod := fun u => mod_any x.kind 5 u hin.k1 hin.k2 (by omega) (by omega)
          have HM := Lib.hid hmod; clear hmod
          refine (HM.out _).mono ?_
          rintro e w' ⟨⟨K, hK, rfl, -⟩, rfl⟩
          clear HM
          have hnP := nearI_bd x.a P hin.a1 hin.a2 (by omega)
          have hnN := nearI_bd x.a N hin.a1 hin.a2 (by omega)
          have hN := fun u => near_any x.a P u hin.a1 hin.a2 (by omega)
          have HNR := Lib.hid hN
          rw [← HWR.out] at hN
          have HNW := Lib.hid hN; clear hN
          have hN := fun u => near_any x.a N u hin.a1 hin.a2 (by omega)
          have HNN := Lib.hid hN; clear hN
          have hlen := hin.len
          have hxn : x.n ≤ 200 := by omega
          have HLEN := Lib.hid hlen; clear hlen
          by_cases hK0 : K = 0
          · subst hK0
            have hsl := fun (u : World) (hu : Below w.heap.size w u) => (HIN.out.below hu hpa).sl (B := w.heap.size) hu.size
            have hof1 := Off.row hin.row hat1.dev (Nat.le_refl _)
            have hof2 := Off.row hin.row hR1 (Nat.le_refl _)
            have hP1 := hat1.drew.program (by omega) x.A x.n x.c x.data (hsl _ hat1.drew.low) hof1 (nearI x.a P) hnP.1 hnP.2 (by omega)
            have HP1 := Lib.hid hP1; clear hP1
            have hP2 := fun (u : World) (hu : Below w.heap.size w u) (hv : RDev w.heap.size u f s) => program_r hv hok (by omega) x.A x.n x.c x.data (hsl u hu) hof2 (nearI x.a P) hnP.1 hnP.2 (by omega)
            have HP2 := Lib.hid hP2; clear hP2 hsl hof1 hof2
            have hz : w0.drew.cell? ⟨F, 1, none⟩ = some (.int .i64 x.a) ∧ w0.drew.cell? ⟨F, 4, none⟩ = some (.slice x.A x.n x.c) := ⟨hbx.drew.c1, hbx.drew.c4⟩
            have HZ := Lib.hid hz; clear hz
            have hcode : ((((s.program (nearI x.a P) x.data).2 : Int)) != (s.program (nearI x.a P) x.data).2) = false := by simp
            have HPL := Lib.hid (Fl.program_ok hok (nearI x.a P) x.data)
            generalize hr' : s.program (nearI x.a P) x.data = r at *
            clear hr'
            have hR1d : RDev w.heap.size w0.drew f s := Dev.drew_ hR1
            go_wp2_with fail
            go_region_held3 (fun w' => w'.cell? ⟨F, 1, none⟩ = some (.int .i64 x.a) ∧ w'.cell? ⟨F, 4, none⟩ = some (.slice x.A x.n x.c)) (first | exact HZ.out | exact ⟨hbx5.c1, hbx5.c4⟩ | exact ⟨hbx6.c1, hbx6.c4⟩ | go_keep)
              (first
                | (go_at_call 19; (with_reducible (first | refine (HNR.out _).mono ?_ | refine (HNW.out _).mono ?_)); rintro e w' ⟨rfl, rfl⟩)
                | (go_at_call 18; (with_reducible refine (HP1.out).mono ?_); rintro e w5 ⟨rfl, hat5, hk5⟩; have hR5 := hR1d.kept hk5 ap; have hbx5 := hbx.drew.kept hk5 m1 m2 m3)
                | (go_at_call 20; (with_reducible refine (HP2.out _ hat5.low hR5).mono ?_); rintro e w6 ⟨rfl, hR6, hk6⟩; have hat6 := keptR hat5 hk6 hR5 ap.symm; have hbx6 := hbx5.kept hk6 m4 m5 m6))
            all_goals
              go_wp2_with fail
              refine (HFIN.out w6 r.1 ⟨hat6.dev, HPL.out.more (by have := HLEN.out; omega), hat6.low⟩ hR6).mono ?_
              rintro e w9 ⟨rfl, s9, q1, q2⟩
              go_wp2_with fail
              exact ⟨⟨k + 1, s9, by omega, by go_num, q1, q2⟩, by simp [intOf]; omega⟩
          · by_cases hK1 : K = 1
            · subst hK1
              have hP1 := hat1.drew.erase (by omega) (nearI x.a N) hnN.1 hnN.2
              have HP1 := Lib.hid hP1; clear hP1
              have hP2 := fun (u : World) (hv : RDev w.heap.size u f s) => erase_r hv hok (by omega) (nearI x.a N) hnN.1 hnN.2
              have HP2 := Lib.hid hP2; clear hP2
              have hz : w0.drew.cell? ⟨F, 1, none⟩ = some (.int .i64 x.a) := hbx.drew.c1
              have HZ := Lib.hid hz; clear hz
              have hcode : ((((s.erase (nearI x.a N)).2 : Int)) != (s.erase (nearI x.a N)).2) = false := by simp
              have HPL := Lib.hid (Fl.erase_ok hok (nearI x.a N))
              generalize hr' : s.erase (nearI x.a N) = r at *
              clear hr'
              have hR1d : RDev w.heap.size w0.drew f s := Dev.drew_ hR1
              go_wp2_with fail
              go_region_held3 (fun w' => w'.cell? ⟨F, 1, none⟩ = some (.int .i64 x.a)) (first | exact HZ.out | exact hbx5.c1 | exact hbx6.c1 | go_keep)
                (first
                  | (go_at_call 19; (with_reducible refine (HNN.out _).mono ?_); rintro e w' ⟨rfl, rfl⟩)
                  | (go_at_call 21; (with_reducible refine (HP1.out).mono ?_); rintro e w5 ⟨rfl, hat5, hk5⟩; have hR5 := hR1d.kept hk5 ap; have hbx5 := hbx.drew.kept hk5 m1 m2 m3)
                  | (go_at_call 22; (with_reducible refine (HP2.out _ hR5).mono ?_); rintro e w6 ⟨rfl, hR6, hk6⟩; have hat6 := keptR hat5 hk6 hR5 ap.symm; have hbx6 := hbx5.kept hk6 m4 m5 m6))
              all_goals
                go_wp2_with fail
                refine (HFIN.out w6 r.1 ⟨hat6.dev, HPL.out.more (by omega), hat6.low⟩ hR6).mono ?_
                rintro e w9 ⟨rfl, s9, q1, q2⟩
                go_wp2_with fail
                exact ⟨⟨k + 1, s9, by omega, by go_num, q1, q2⟩, by simp [intOf]; omega⟩
            · by_cases hK2 : K = 2
              · subst hK2
                have hrd := hat1.drew.read (nearI x.a P) x.b hnP.1 hnP.2 hin.b1 hin.b2
                have hz : w0.drew.cell? ⟨F, 1, none⟩ = some (.int .i64 x.a) ∧ w0.drew.cell? ⟨F, 2, none⟩ = some (.int .i64 x.b) := ⟨hbx.drew.c1, hbx.drew.c2⟩
                have HZ := Lib.hid hz; clear hz
                have hr2 := fun (u : World) (hv : RDev w.heap.size u f s) => read_r hv hok (nearI x.a P) x.b hnP.1 hnP.2
                have hcode : ((((s.read (nearI x.a P) x.b).2 : Int)) != (s.read (nearI x.a P) x.b).2) = false := by simp
                have HRD := Lib.hid hrd; have HR2 := Lib.hid hr2; clear hrd hr2
                generalize hr' : s.read (nearI x.a P) x.b = r at *
                clear hr'
                have hR1d : RDev w.heap.size w0.drew f s := Dev.drew_ hR1
                go_wp2_with fail
                go_region_held3 (fun w' => w'.cell? ⟨F, 1, none⟩ = some (.int .i64 x.a) ∧ w'.cell? ⟨F, 2, none⟩ = some (.int .i64 x.b)) (first | exact HZ.out | exact ⟨hbx5.c1, hbx5.c2⟩ | go_keep)
                  (first
                    | (go_at_call 19; (with_reducible (first | refine (HNR.out _).mono ?_ | refine (HNW.out _).mono ?_)); rintro e w' ⟨rfl, rfl⟩)
                    | (go_at_call 23; (with_reducible refine (HRD.out).mono ?_); rintro e w5 ⟨X, xn, xc, rfl, hxo, hxs, hb5, hat5⟩; have hR5 := hR1d.below hb5 (Nat.le_refl _); have hbx5 := hbx.drew.step hb5))
                all_goals
                  clear HZ HRD hxo
                  have hz : w5.drew.cell? ⟨F, 1, none⟩ = some (.int .i64 x.a) ∧ w5.drew.cell? ⟨F, 2, none⟩ = some (.int .i64 x.b) := ⟨hbx5.drew.c1, hbx5.drew.c2⟩
                  have HZ := Lib.hid hz; clear hz
                  have hR5d : RDev w.heap.size w5.drew f s := Dev.drew_ hR5
                  have hat5d := hat5.drew
                  have hxs5 : Sl w5.drew X xn xc r.1 := hxs.step ⟨rfl, rfl, rfl, Nat.le_refl _, fun _ _ => rfl⟩
                  clear hxs
                  go_wp2_with fail
                  go_region_held3 (fun w' => w'.cell? ⟨F, 1, none⟩ = some (.int .i64 x.a) ∧ w'.cell? ⟨F, 2, none⟩ = some (.int .i64 x.b)) (first | exact HZ.out | exact ⟨hbx7.c1, hbx7.c2⟩ | go_keep)
                    (first
                      | (go_at_call 19; (with_reducible (first | refine (HNR.out _).mono ?_ | refine (HNW.out _).mono ?_)); rintro e w' ⟨rfl, rfl⟩)
                      | (go_at_call 24; (with_reducible refine (HR2.out _ hR5d).mono ?_); rintro e w7 ⟨v7, rfl, ho7, hb7⟩; obtain ⟨Y, yn, yc, rfl, hys⟩ := Sl.of_own ho7; have hR7 := hR5d.below hb7 (Nat.le_refl _); have hat7 := hat5d.step hb7; have hbx7 := hbx5.drew.step hb7; have hxs7 := hxs5.step hb7))
                  all_goals
                    go_wp2_with fail
                    refine (same_yes hxs7 hys).mono ?_
                    rintro e w8 ⟨rfl, hb8⟩
                    have hat8 := hat7.step hb8
                    have hR8 := hR7.below hb8 (Nat.le_refl _)
                    go_wp2_with fail
                    refine (HFIN.out w8 s ⟨hat8.dev, hat8.ok.more (by omega), hat8.low⟩ hR8).mono ?_
                    rintro e w9 ⟨rfl, s9, q1, q2⟩
                    go_wp2_with fail
                    exact ⟨⟨k + 1, s9, by omega, by go_num, q1, q2⟩, by simp [intOf]; omega⟩
              · by_cases hK3 : K = 3
                · subst hK3
                  have ht := tmod50 x.a
                  have hwr : IntKind.i64.wrap (x.a.tmod 50) = x.a.tmod 50 := IntWalk.i64_in _ (by omega)
                  have hA := hat1.arm (x.a.tmod 50) x.torn (by omega) (by omega)
                  have HAR := Lib.hid hA; clear hA
                  have k1 := hbx.c1; have k3 := hbx.c3
                  go_wp2_with fail
                  refine HAR.out.mono ?_
                  rintro e w5 ⟨rfl, hat5, hk5⟩
                  have hR5 := hR1.kept hk5 ap
                  have hbx5 := hbx.kept hk5 m1 m2 m3
                  clear k1 k3
                  have k1 := hbx5.c1; have k3 := hbx5.c3
                  have hA := arm_r hR5 (x.a.tmod 50) x.torn (by omega) (by omega)
                  have HA2 := Lib.hid hA; clear hA
                  go_wp2_with fail
                  refine HA2.out.mono ?_
                  rintro e w6 ⟨rfl, hR6, hk6⟩
                  have hat6 := keptR hat5 hk6 hR5 ap.symm
                  go_wp2_with fail
                  refine (HFIN.out w6 _ ⟨hat6.dev, hat6.ok.more (by omega), hat6.low⟩ hR6).mono ?_
                  rintro e w9 ⟨rfl, s9, q1, q2⟩
                  go_wp2_with fail
                  exact ⟨⟨k + 1, s9, by omega, by go_num, q1, q2⟩, by simp [intOf]; omega⟩
                · obtain rfl : K = 4 := by omega
                  go_wp2_with fail
                  refine hat1.restore.mono ?_
                  rintro e w5 ⟨rfl, hat5, hk5⟩
                  have hR5 := hR1.kept hk5 ap
                  go_wp2_with fail
                  refine (restore_r hR5).mono ?_
                  rintro e w6 ⟨rfl, hR6, hk6⟩
                  have hat6 := keptR hat5 hk6 hR5 ap.symm
                  go_wp2_with fail
                  refine (HFIN.out w6 _ ⟨hat6.dev, hat6.ok.more (by omega), hat6.low⟩ hR6).mono ?_
                  rintro e w9 ⟨rfl, s9, q1, q2⟩
                  go_wp2_with fail
                  exact ⟨⟨k + 1, s9, by omega, by go_num, q1, q2⟩, by simp [intOf]; omega⟩
        · obtain rfl : k = n := by omega
          go_wp2_with fail
          refine (awake_any _).mono ?_
          rintro e w6 ⟨rfl, hb6⟩
          go_wp2_with fail
          go_ret
          exact ⟨rfl, (hat.step hb6).low⟩
    · go_enter Try.func3, Try.ntmps3
      go_wp2_with fail
      refine HL.out.mono ?_
      rintro e w' ⟨rfl, q1, rfl⟩
      rw [h1]
      clear HL h1
      go_wp2_with fail
      refine (new_no a b _ hv).mono ?_
      rintro e w' ⟨rfl, rfl⟩
      go_wp2_with fail
      refine (new_no_r a b _ hv).mono ?_
      rintro e w2 ⟨rfl, hw2⟩
      have hb2 : Below w.heap.size w w2 := hw2 ▸ below_of_drawn
      clear hw2
      go_wp2_with fail
      refine (geometry_any a b (by omega) (by omega) w2).mono ?_
      rintro e w' ⟨⟨N, M, hN1, hN2, hM1, hM2, rfl⟩, rfl⟩
      go_wp2_with fail
      refine (At.new N M (by omega) (by omega) (by omega) (by omega) w.heap.size w w2 hb2 hb2.size).mono ?_
      rintro e w3 ⟨d, rfl, hd3, hb3, hnd⟩
      go_wp2_with fail
      refine (new_r N M (by omega) (by omega) (by omega) (by omega) w3).mono ?_
      rintro e w4 ⟨f, rfl, hbf⟩
      have ap : Apart d f := hd3.dev.apart hbf.1 (Nat.le_refl _)
      have hR4 : RDev w.heap.size w4 f (Fl.new N M) := hbf.1.base_ hd3.base
      have hd4 := hd3.step hbf.2
      clear hd3 hb3 hnd hbf hb2
      go_wp2_with fail
      refine (same_dev hd4.dev hR4 hd4.ok).mono ?_
      rintro e w5 ⟨rfl, hb5⟩
      have hd5 := hd4.step hb5
      have hR5 := hR4.below hb5 (Nat.le_refl _)
      clear hd4 hR4 hb5
      obtain ⟨P, hP⟩ : ∃ P, P = N * M := ⟨_, rfl⟩
      have hPle : P ≤ 1000 := by rw [hP]; exact Nat.le_trans (Nat.mul_le_mul hN2 hM2) (by decide)
      have hwr : IntKind.i64.wrap ((N : Int) * (M : Int)) = (P : Int) := by
        have : ((N * M : Nat) : Int) = (N : Int) * (M : Int) := by push_cast; rfl
        rw [hP, ← this]
        exact IntWalk.i64_in _ (by omega)
      have HP := Lib.hid hP; clear hP
      have HWR := Lib.hid hwr; clear hwr
      go_wp2_with fail
      go_loopw [16] (fun i wr => ∃ (k : Nat) (s : Fl), k ≤ n ∧ i = .int .i64 k ∧ At w.heap.size w wr d s (201 * k) ∧ RDev w.heap.size wr f s) (fun i _ => n - (intOf i).toNat)
      case atStart => exact ⟨0, _, Nat.zero_le _, rfl, hd5, hR5⟩
      case round =>
        clear hd5 hR5
        obtain ⟨k, s, hk, rfl, hat, hR⟩ := hrel
        by_cases hlt : k < n
        · have hkl : k < l.length := by have := HN.out; omega
          obtain ⟨p, rfl, hp, hin0⟩ := hr.each k hkl
          have hpa : (p.add (k * 5)).block < w.heap.size := by rw [add_block]; exact hp
          have hin := hin0.below hat.low hpa
          have HIN := Lib.hid hin0; clear hin0
          have hdl := B1.out _ (List.getElem_mem hkl)
          generalize l[k] = x at *
          have b1 : (0 : Int) ≤ (k : Int) := by omega
          have b2 : (k : Int) < (n : Int) := by omega
          have c0 := hin.c0; have c1 := hin.c1; have c2 := hin.c2; have c3 := hin.c3; have c4 := hin.c4
          have hpb : p.block < wr.heap.size := Nat.lt_of_lt_of_le hp hat.base
          go_wp2_with fail
          have hst : Below wr.heap.size wr (wr.alloc (.cells #[.int .i64 x.kind, .int .i64 x.a, .int .i64 x.b, .int .u8 (x.torn.toNat : Int), .slice x.A x.n x.c] 37)) := (Below.refl _ _).alloc (Nat.le_refl _) _
          have hbx : Bx (wr.alloc (.cells #[.int .i64 x.kind, .int .i64 x.a, .int .i64 x.b, .int .u8 (x.torn.toNat : Int), .slice x.A x.n x.c] 37)) wr.heap.size x := heap_alloc_new wr _
          have hat1 := hat.step hst
          have hR1 := hR.below hst (Nat.le_refl _)
          have hlg := hat.dev.lg; have hlb := hat.dev.lb; have hlw := hat.dev.lw
          have hrg := hR.lg; have hrb := hR.lb; have hrw := hR.lw
          generalize wr.alloc (.cells #[.int .i64 x.kind, .int .i64 x.a, .int .i64 x.b, .int .u8 (x.torn.toNat : Int), .slice x.A x.n x.c] 37) = w0 at *
          obtain ⟨F, hF⟩ : ∃ F, F = wr.heap.size := ⟨_, rfl⟩
          rw [← hF] at hbx ⊢
          have m1 : F ≠ d.g := by omega
          have m2 : F ≠ d.gb := by omega
          have m3 : F ≠ d.gw := by omega
          have m4 : F ≠ f.g := by omega
          have m5 : F ≠ f.gb := by omega
          have m6 : F ≠ f.gw := by omega
          clear hF hlg hlb hlw hrg hrb hrw hst c0 c1 c2 c3 c4 hat hR hpb
          have hfin : ∀ (u : World) (s' : Fl), At w.heap.size w u d s' (201 * k + 201) → RDev w.heap.size u f s' → Calls Try.prog 16 #[.pointer (some ⟨d.g, 0, none⟩), .pointer (some ⟨f.g, 0, none⟩)] u fun e w' => e = .returned (.bool true) ∧ ∃ s'', At w.heap.size w w' d s'' (201 * (k + 1)) ∧ RDev w.heap.size w' f s'' :=
            fun u s' hu hv => (same_dev hu.dev hv hu.ok).mono fun _ _ ⟨e1, e2⟩ => ⟨e1, s', ⟨(hu.step e2).dev, hu.ok.more (by omega), (hu.step e2).low⟩, hv.below e2 (Nat.le_refl _)⟩
          have HFIN := Lib.hid hfin; clear hfin
          have hok := hat1.ok
          have hmod := fun u => mod_any x.kind 5 u hin.k1 hin.k2 (by omega) (by omega)
          have HM := Lib.hid hmod; clear hmod
          refine (HM.out _).mono ?_
          rintro e w' ⟨⟨K, hK, rfl, -⟩, rfl⟩
          clear HM
          have hnP := nearI_bd x.a P hin.a1 hin.a2 (by omega)
          have hnN := nearI_bd x.a N hin.a1 hin.a2 (by omega)
          have hN := fun u => near_any x.a P u hin.a1 hin.a2 (by omega)
          have HNR := Lib.hid hN
          rw [← HWR.out] at hN
          have HNW := Lib.hid hN; clear hN
          have hN := fun u => near_any x.a N u hin.a1 hin.a2 (by omega)
          have HNN := Lib.hid hN; clear hN
          have hlen := hin.len
          have hxn : x.n ≤ 200 := by omega
          have HLEN := Lib.hid hlen; clear hlen
          by_cases hK0 : K = 0
          · subst hK0
            have hsl := fun (u : World) (hu : Below w.heap.size w u) => (HIN.out.below hu hpa).sl (B := w.heap.size) hu.size
            have hof1 := Off.row hin.row hat1.dev (Nat.le_refl _)
            have hof2 := Off.row hin.row hR1 (Nat.le_refl _)
            have hP1 := hat1.drew.program (by omega) x.A x.n x.c x.data (hsl _ hat1.drew.low) hof1 (nearI x.a P) hnP.1 hnP.2 (by omega)
            have HP1 := Lib.hid hP1; clear hP1
            have hP2 := fun (u : World) (hu : Below w.heap.size w u) (hv : RDev w.heap.size u f s) => program_r hv hok (by omega) x.A x.n x.c x.data (hsl u hu) hof2 (nearI x.a P) hnP.1 hnP.2 (by omega)
            have HP2 := Lib.hid hP2; clear hP2 hsl hof1 hof2
            have hz : w0.drew.cell? ⟨F, 1, none⟩ = some (.int .i64 x.a) ∧ w0.drew.cell? ⟨F, 4, none⟩ = some (.slice x.A x.n x.c) := ⟨hbx.drew.c1, hbx.drew.c4⟩
            have HZ := Lib.hid hz; clear hz
            have hcode : ((((s.program (nearI x.a P) x.data).2 : Int)) != (s.program (nearI x.a P) x.data).2) = false := by simp
            have HPL := Lib.hid (Fl.program_ok hok (nearI x.a P) x.data)
            generalize hr' : s.program (nearI x.a P) x.data = r at *
            clear hr'
            have hR1d : RDev w.heap.size w0.drew f s := Dev.drew_ hR1
            go_wp2_with fail
            go_region_held3 (fun w' => w'.cell? ⟨F, 1, none⟩ = some (.int .i64 x.a) ∧ w'.cell? ⟨F, 4, none⟩ = some (.slice x.A x.n x.c)) (first | exact HZ.out | exact ⟨hbx5.c1, hbx5.c4⟩ | exact ⟨hbx6.c1, hbx6.c4⟩ | go_keep)
              (first
                | (go_at_call 19; (with_reducible (first | refine (HNR.out _).mono ?_ | refine (HNW.out _).mono ?_)); rintro e w' ⟨rfl, rfl⟩)
                | (go_at_call 18; (with_reducible refine (HP1.out).mono ?_); rintro e w5 ⟨rfl, hat5, hk5⟩; have hR5 := hR1d.kept hk5 ap; have hbx5 := hbx.drew.kept hk5 m1 m2 m3)
                | (go_at_call 20; (with_reducible refine (HP2.out _ hat5.low hR5).mono ?_); rintro e w6 ⟨rfl, hR6, hk6⟩; have hat6 := keptR hat5 hk6 hR5 ap.symm; have hbx6 := hbx5.kept hk6 m4 m5 m6))
            all_goals
              go_wp2_with fail
              refine (HFIN.out w6 r.1 ⟨hat6.dev, HPL.out.more (by have := HLEN.out; omega), hat6.low⟩ hR6).mono ?_
              rintro e w9 ⟨rfl, s9, q1, q2⟩
              go_wp2_with fail
              exact ⟨⟨k + 1, s9, by omega, by go_num, q1, q2⟩, by simp [intOf]; omega⟩
          · by_cases hK1 : K = 1
            · subst hK1
              have hP1 := hat1.drew.erase (by omega) (nearI x.a N) hnN.1 hnN.2
              have HP1 := Lib.hid hP1; clear hP1
              have hP2 := fun (u : World) (hv : RDev w.heap.size u f s) => erase_r hv hok (by omega) (nearI x.a N) hnN.1 hnN.2
              have HP2 := Lib.hid hP2; clear hP2
              have hz : w0.drew.cell? ⟨F, 1, none⟩ = some (.int .i64 x.a) := hbx.drew.c1
              have HZ := Lib.hid hz; clear hz
              have hcode : ((((s.erase (nearI x.a N)).2 : Int)) != (s.erase (nearI x.a N)).2) = false := by simp
              have HPL := Lib.hid (Fl.erase_ok hok (nearI x.a N))
              generalize hr' : s.erase (nearI x.a N) = r at *
              clear hr'
              have hR1d : RDev w.heap.size w0.drew f s := Dev.drew_ hR1
              go_wp2_with fail
              go_region_held3 (fun w' => w'.cell? ⟨F, 1, none⟩ = some (.int .i64 x.a)) (first | exact HZ.out | exact hbx5.c1 | exact hbx6.c1 | go_keep)
                (first
                  | (go_at_call 19; (with_reducible refine (HNN.out _).mono ?_); rintro e w' ⟨rfl, rfl⟩)
                  | (go_at_call 21; (with_reducible refine (HP1.out).mono ?_); rintro e w5 ⟨rfl, hat5, hk5⟩; have hR5 := hR1d.kept hk5 ap; have hbx5 := hbx.drew.kept hk5 m1 m2 m3)
                  | (go_at_call 22; (with_reducible refine (HP2.out _ hR5).mono ?_); rintro e w6 ⟨rfl, hR6, hk6⟩; have hat6 := keptR hat5 hk6 hR5 ap.symm; have hbx6 := hbx5.kept hk6 m4 m5 m6))
              all_goals
                go_wp2_with fail
                refine (HFIN.out w6 r.1 ⟨hat6.dev, HPL.out.more (by omega), hat6.low⟩ hR6).mono ?_
                rintro e w9 ⟨rfl, s9, q1, q2⟩
                go_wp2_with fail
                exact ⟨⟨k + 1, s9, by omega, by go_num, q1, q2⟩, by simp [intOf]; omega⟩
            · by_cases hK2 : K = 2
              · subst hK2
                have hrd := hat1.drew.read (nearI x.a P) x.b hnP.1 hnP.2 hin.b1 hin.b2
                have hz : w0.drew.cell? ⟨F, 1, none⟩ = some (.int .i64 x.a) ∧ w0.drew.cell? ⟨F, 2, none⟩ = some (.int .i64 x.b) := ⟨hbx.drew.c1, hbx.drew.c2⟩
                have HZ := Lib.hid hz; clear hz
                have hr2 := fun (u : World) (hv : RDev w.heap.size u f s) => read_r hv hok (nearI x.a P) x.b hnP.1 hnP.2
                have hcode : ((((s.read (nearI x.a P) x.b).2 : Int)) != (s.read (nearI x.a P) x.b).2) = false := by simp
                have HRD := Lib.hid hrd; have HR2 := Lib.hid hr2; clear hrd hr2
                generalize hr' : s.read (nearI x.a P) x.b = r at *
                clear hr'
                have hR1d : RDev w.heap.size w0.drew f s := Dev.drew_ hR1
                go_wp2_with fail
                go_region_held3 (fun w' => w'.cell? ⟨F, 1, none⟩ = some (.int .i64 x.a) ∧ w'.cell? ⟨F, 2, none⟩ = some (.int .i64 x.b)) (first | exact HZ.out | exact ⟨hbx5.c1, hbx5.c2⟩ | go_keep)
                  (first
                    | (go_at_call 19; (with_reducible (first | refine (HNR.out _).mono ?_ | refine (HNW.out _).mono ?_)); rintro e w' ⟨rfl, rfl⟩)
                    | (go_at_call 23; (with_reducible refine (HRD.out).mono ?_); rintro e w5 ⟨X, xn, xc, rfl, hxo, hxs, hb5, hat5⟩; have hR5 := hR1d.below hb5 (Nat.le_refl _); have hbx5 := hbx.drew.step hb5))
                all_goals
                  clear HZ HRD hxo
                  have hz : w5.drew.cell? ⟨F, 1, none⟩ = some (.int .i64 x.a) ∧ w5.drew.cell? ⟨F, 2, none⟩ = some (.int .i64 x.b) := ⟨hbx5.drew.c1, hbx5.drew.c2⟩
                  have HZ := Lib.hid hz; clear hz
                  have hR5d : RDev w.heap.size w5.drew f s := Dev.drew_ hR5
                  have hat5d := hat5.drew
                  have hxs5 : Sl w5.drew X xn xc r.1 := hxs.step ⟨rfl, rfl, rfl, Nat.le_refl _, fun _ _ => rfl⟩
                  clear hxs
                  go_wp2_with fail
                  go_region_held3 (fun w' => w'.cell? ⟨F, 1, none⟩ = some (.int .i64 x.a) ∧ w'.cell? ⟨F, 2, none⟩ = some (.int .i64 x.b)) (first | exact HZ.out | exact ⟨hbx7.c1, hbx7.c2⟩ | go_keep)
                    (first
                      | (go_at_call 19; (with_reducible (first | refine (HNR.out _).mono ?_ | refine (HNW.out _).mono ?_)); rintro e w' ⟨rfl, rfl⟩)
                      | (go_at_call 24; (with_reducible refine (HR2.out _ hR5d).mono ?_); rintro e w7 ⟨v7, rfl, ho7, hb7⟩; obtain ⟨Y, yn, yc, rfl, hys⟩ := Sl.of_own ho7; have hR7 := hR5d.below hb7 (Nat.le_refl _); have hat7 := hat5d.step hb7; have hbx7 := hbx5.drew.step hb7; have hxs7 := hxs5.step hb7))
                  all_goals
                    go_wp2_with fail
                    refine (same_yes hxs7 hys).mono ?_
                    rintro e w8 ⟨rfl, hb8⟩
                    have hat8 := hat7.step hb8
                    have hR8 := hR7.below hb8 (Nat.le_refl _)
                    go_wp2_with fail
                    refine (HFIN.out w8 s ⟨hat8.dev, hat8.ok.more (by omega), hat8.low⟩ hR8).mono ?_
                    rintro e w9 ⟨rfl, s9, q1, q2⟩
                    go_wp2_with fail
                    exact ⟨⟨k + 1, s9, by omega, by go_num, q1, q2⟩, by simp [intOf]; omega⟩
              · by_cases hK3 : K = 3
                · subst hK3
                  have ht := tmod50 x.a
                  have hwr : IntKind.i64.wrap (x.a.tmod 50) = x.a.tmod 50 := IntWalk.i64_in _ (by omega)
                  have hA := hat1.arm (x.a.tmod 50) x.torn (by omega) (by omega)
                  have HAR := Lib.hid hA; clear hA
                  have k1 := hbx.c1; have k3 := hbx.c3
                  go_wp2_with fail
                  refine HAR.out.mono ?_
                  rintro e w5 ⟨rfl, hat5, hk5⟩
                  have hR5 := hR1.kept hk5 ap
                  have hbx5 := hbx.kept hk5 m1 m2 m3
                  clear k1 k3
                  have k1 := hbx5.c1; have k3 := hbx5.c3
                  have hA := arm_r hR5 (x.a.tmod 50) x.torn (by omega) (by omega)
                  have HA2 := Lib.hid hA; clear hA
                  go_wp2_with fail
                  refine HA2.out.mono ?_
                  rintro e w6 ⟨rfl, hR6, hk6⟩
                  have hat6 := keptR hat5 hk6 hR5 ap.symm
                  go_wp2_with fail
                  refine (HFIN.out w6 _ ⟨hat6.dev, hat6.ok.more (by omega), hat6.low⟩ hR6).mono ?_
                  rintro e w9 ⟨rfl, s9, q1, q2⟩
                  go_wp2_with fail
                  exact ⟨⟨k + 1, s9, by omega, by go_num, q1, q2⟩, by simp [intOf]; omega⟩
                · obtain rfl : K = 4 := by omega
                  go_wp2_with fail
                  refine hat1.restore.mono ?_
                  rintro e w5 ⟨rfl, hat5, hk5⟩
                  have hR5 := hR1.kept hk5 ap
                  go_wp2_with fail
                  refine (restore_r hR5).mono ?_
                  rintro e w6 ⟨rfl, hR6, hk6⟩
                  have hat6 := keptR hat5 hk6 hR5 ap.symm
                  go_wp2_with fail
                  refine (HFIN.out w6 _ ⟨hat6.dev, hat6.ok.more (by omega), hat6.low⟩ hR6).mono ?_
                  rintro e w9 ⟨rfl, s9, q1, q2⟩
                  go_wp2_with fail
                  exact ⟨⟨k + 1, s9, by omega, by go_num, q1, q2⟩, by simp [intOf]; omega⟩
        · obtain rfl : k = n := by omega
          go_wp2_with fail
          refine (awake_any _).mono ?_
          rintro e w6 ⟨rfl, hb6⟩
          go_wp2_with fail
          go_ret
          exact ⟨rfl, (hat.step hb6).low⟩

theorem cells_u8 : Try.prog.cellsOf 5 = 1 := by kernel_rfl
theorem own : ownKnob Try.prog.godebug = none := by kernel_rfl
theorem laidOut : laidOutB Try.prog = true := by kernel_rfl
theorem contract (H : Type) (enc : TypeId × Value → H) (W : World) (base : Nat) (args : Array Value) (ds gs : List (DataW H)) (before : List MemPlace)
    (hval : ∀ (j : Nat) t v, Try.f3.params[j]? = some t → args[j]? = some v → Value.okWide Try.prog W .any base t v)
    (hW : DataW.Whole enc Try.prog Try.f3.params.toList Rows.flashPlaysSpec.vars false W args.toList ds gs before) :
    Calls Try.prog 3 args W fun e W' => ∃ v, e = .returned v ∧ Rows.flashPlaysSpec.post enc Try.prog Try.f3 false true false false W args v W' := by
  have hW' := hW
  obtain ⟨p, q, hA0, hV, rfl, hfz, hnd⟩ := hW
  have hA : DataW.TrodAll enc Try.prog W 0 (fun _ => true) true Try.f3.params.toList args.toList ds p := hA0
  rw [Try.params3] at hA hval
  obtain ⟨v0, vs0, d0, ds0, p0, q0, hargs, rfl, rfl, h0, r0⟩ := trodAll_cons hA
  obtain ⟨v1, vs1, d1, ds1, p1, q1, rfl, rfl, rfl, h1, r1⟩ := trodAll_cons r0
  obtain ⟨v2, vs2, d2, ds2, p2, q2, rfl, rfl, rfl, h2, r2⟩ := trodAll_cons r1
  obtain ⟨rfl, rfl, rfl⟩ := trodAll_nil r2
  obtain rfl : args = #[v0, v1, v2] := by cases args; simp_all
  obtain ⟨a0, rfl, -, -, w0⟩ := open_int Try.underlying3 (hval 0 3 v0 rfl rfl) h0
  obtain ⟨a1, rfl, -, -, w1⟩ := open_int Try.underlying3 (hval 1 3 v1 rfl rfl) h1
  obtain ⟨A2, n2, c2, l2, rfl, hr2⟩ := open_script Try.underlying22 Try.underlying37 (by kernel_rfl) ⟨rfl, rfl, rfl, rfl, rfl⟩ ⟨(by kernel_rfl), (by kernel_rfl), (by kernel_rfl), (by kernel_rfl), (by kernel_rfl)⟩ Try.underlying3 Try.underlying3 Try.underlying3 Try.underlying5 Try.underlying35 Try.underlying5 cells_u8 (hval 2 22 v2 rfl rfl) h2
  clear hA0
  refine (walk a0 (bounds_i64 w0) a1 (bounds_i64 w1) A2 n2 c2 l2 W hr2).mono fun e W' ⟨he, hb⟩ => ?_
  subst he
  exact ⟨_, rfl, law_post laidOut (types_fit (by kernel_rfl)) (by kernel_rfl) Try.underlying4 rfl (fun xs hx => by
    match xs, hx with
    | [_, _, _], _ => rfl) hW' hb⟩

theorem lifted (os : Os) (started : os.Started) (H : Type) (enc : TypeId × Value → H) :
    ReturnsInHanded {} Try.checked os 3 .any (Rows.flashPlaysSpec.pre6 enc Try.prog Try.f3 Rows.flashPlaysRow.domain false) (Rows.flashPlaysSpec.post enc Try.prog Try.f3 false true false false) := by
  refine returnsInHanded_of_change (C := Try.checked) own started (by kernel_rfl) Try.func3
    (ChangeSpec.witness6 (enc := enc) (C := Try.checked) false ⟨#[], #[.int .i64 0, .int .i64 0, .slice none 0 0], []⟩ 8 (by kernel_rfl) (by kernel_rfl) (by kernel_rfl) (by kernel_rfl)) ?_
  intro W base args ds gs before hval hW _ _
  exact contract H enc W base args ds gs before hval hW

theorem proved : Rows.FlashPlaysSaid :=
  OpenClaim.holds_of_wide 3 Try.f3 rfl rfl rfl rfl rfl rfl rfl ⟨rfl, rfl, rfl, rfl, rfl⟩ rfl rfl rfl rfl rfl (by kernel_rfl) Try.func3 (by kernel_rfl)
    (of_decide_eq_true (by kernel_rfl)) (by unfold Func.isWrapper; first | (rw [if_pos (by decide +kernel)]; kernel_rfl) | (rw [if_neg (by decide +kernel)]; exact ⟨rfl, rfl⟩))
    (fun os started H enc _ => lifted os started H enc)
end Go.Proofs.Ytkmkpidoajfhmaa.flashPlays
