/- Walks: the program's sensor records: readAnalog. -/
import Derived.Test.YtafoaonkjcfbaaaK60
import Derived.Laws.CopyRow
namespace Go.Proofs.Ytafoaonkjcfbaaa.Ua
open Go.RowKit Go.Proofs.Ytafoaonkjcfbaaa.Mem Go.Proofs.Ytafoaonkjcfbaaa.F2p Go.Proofs.Ytafoaonkjcfbaaa.C4l Go.Proofs.Ytafoaonkjcfbaaa.Ta Go.Proofs.Ytafoaonkjcfbaaa.Tb
set_option maxRecDepth 100000
set_option maxHeartbeats 2000000

/-- Where reading an analog record stands: the record's block, the result's, the points. -/
structure Rs (w0 W : World) (s : Sn) (V : Value) (PA : Option Addr) (pn pc : Nat) (p : List Pt) : Prop where
  cv : Bx W w0.heap.size s V
  res : Bx W (w0.heap.size + 1) noSn (.slice none 0 0)
  pts : PSl W PA pn pc p
  bl : Below w0.heap.size w0 W
section
variable {w0 W : World} {s : Sn} {V : Value} {PA : Option Addr} {pn pc : Nat} {p : List Pt}
theorem Rs.set (h : Rs w0 W s V PA pn pc p) (i : Nat) (v : Value) (s' : Sn) (V' : Value) (hV : ∃ A' n' c', V = .slice A' n' c') (he : (cells s V).setIfInBounds i v = cells s' V') : Rs w0 (W.setCell ⟨w0.heap.size, i, none⟩ v) s' V' PA pn pc p :=
  ⟨h.cv.set i v s' V' he, h.res.kept (set_grown W w0.heap.size i v) (fun e => by injection e; omega), psl_far h.pts h.cv hV (set_grown W w0.heap.size i v), h.bl.setCell (p := ⟨w0.heap.size, i, none⟩) (Nat.le_refl _) v⟩
theorem Rs.drewN (h : Rs w0 W s V PA pn pc p) (k : Nat) : Rs w0 (W.drewN k) s V PA pn pc p := ⟨h.cv, h.res, ⟨h.pts.len, Rd.drewN h.pts.row k, h.pts.cap, h.pts.max, h.pts.nil⟩, below_drewN h.bl⟩
end
theorem row_zero {B : Nat} {W : World} {a2 : Addr} {x : UInt8} {L : List UInt8} (h : Row B W (some a2) (x :: L)) : W.cell? a2 = some (.int .u8 (x.toNat : Int)) := by
  obtain ⟨a, e, -, hc⟩ := row_at h (k := 0) (by simp)
  injection e with e
  subst e
  exact hc
theorem row_k {B : Nat} {W : World} {a2 : Addr} {L : List UInt8} (h : Row B W (some a2) L) (k : Nat) (hk : k + 1 < L.length) : W.cell? ⟨a2.block, a2.off + (k + 1), none⟩ = some (.int .u8 (L[k + 1].toNat : Int)) := by
  obtain ⟨a, e, -, hc⟩ := row_at h hk
  injection e with e
  subst e
  exact hc
theorem thirteen (L : List UInt8) (h : L.length = 13) : ∃ a0 a1 a2 a3 a4 a5 a6 a7 a8 a9 a10 a11 a12, L = [a0, a1, a2, a3, a4, a5, a6, a7, a8, a9, a10, a11, a12] := by
  match L, h with
  | [a0, a1, a2, a3, a4, a5, a6, a7, a8, a9, a10, a11, a12], _ => exact ⟨_, _, _, _, _, _, _, _, _, _, _, _, _, rfl⟩
theorem rda_p (s : Sn) (A : Option Addr) (n c : Nat) (l : List UInt8) (w : World) (hsl : Sl w A n c l) (hn : n ≤ 1000000) :
    Calls Try.prog 111 #[.agg (cells s (.slice none 0 0)), .slice A n c] w (Rdd w (rdA s l)) := by
  have hb0 : Below w.heap.size w (w.alloc (.cells (cells s (.slice none 0 0)) 59)) := (Below.refl _ _).alloc (Nat.le_refl _) _
  have hx0 : Bx (w.alloc (.cells (cells s (.slice none 0 0)) 59)) w.heap.size s (.slice none 0 0) := heap_alloc_new w _
  have hx1 := hx0.alloc (.cells #[.int .u8 0, .int .u8 0, .int .u8 0, .string ⟨#[]⟩, .int .u8 0, .int .u8 0, .bool false, .int .i64 0, .bool false, .int .i64 0, .int .i64 0, .int .i64 0, .int .i64 0, .slice none 0 0, .int .u8 0, .int .u8 0, .int .u8 0, .int .u8 0, .int .u8 0, .int .u8 0, .int .u8 0, .int .u8 0, .int .u8 0, .int .u16 0, .int .u16 0, .int .u16 0, .bool false, .int .i64 0] 59)
  have hz1 := Bx.zero (w.alloc (.cells (cells s (.slice none 0 0)) 59))
  rw [World.size_alloc] at hz1
  have hb1 := hb0.alloc hb0.size (.cells #[.int .u8 0, .int .u8 0, .int .u8 0, .string ⟨#[]⟩, .int .u8 0, .int .u8 0, .bool false, .int .i64 0, .bool false, .int .i64 0, .int .i64 0, .int .i64 0, .int .i64 0, .slice none 0 0, .int .u8 0, .int .u8 0, .int .u8 0, .int .u8 0, .int .u8 0, .int .u8 0, .int .u8 0, .int .u8 0, .int .u8 0, .int .u16 0, .int .u16 0, .int .u16 0, .bool false, .int .i64 0] 59)
  have hs1 := hsl.step hb1
  have hsz1 : ((w.alloc (.cells (cells s (.slice none 0 0)) 59)).alloc (.cells #[.int .u8 0, .int .u8 0, .int .u8 0, .string ⟨#[]⟩, .int .u8 0, .int .u8 0, .bool false, .int .i64 0, .bool false, .int .i64 0, .int .i64 0, .int .i64 0, .int .i64 0, .slice none 0 0, .int .u8 0, .int .u8 0, .int .u8 0, .int .u8 0, .int .u8 0, .int .u8 0, .int .u8 0, .int .u8 0, .int .u8 0, .int .u16 0, .int .u16 0, .int .u16 0, .bool false, .int .i64 0] 59)).heap.size = w.heap.size + 2 := by simp
  generalize hW : (w.alloc (.cells (cells s (.slice none 0 0)) 59)).alloc (.cells #[.int .u8 0, .int .u8 0, .int .u8 0, .string ⟨#[]⟩, .int .u8 0, .int .u8 0, .bool false, .int .i64 0, .bool false, .int .i64 0, .int .i64 0, .int .i64 0, .int .i64 0, .slice none 0 0, .int .u8 0, .int .u8 0, .int .u8 0, .int .u8 0, .int .u8 0, .int .u8 0, .int .u8 0, .int .u8 0, .int .u8 0, .int .u16 0, .int .u16 0, .int .u16 0, .bool false, .int .i64 0] 59) = w1 at *
  clear hb0 hx0
  have hD := P5.dec_p A n c l w1 hs1 hn
  unfold P5.Dcd at hD
  obtain ⟨⟨he0, he6⟩, hin⟩ := dec_in l
  have hR : rdA s l = (if (C4p.dec l).2.2 ≠ 0 then (noSn, (C4p.dec l).2.2.toNat) else if size (l.drop (C4p.dec l).2.1.toNat) 13 ≠ 0 then (noSn, size (l.drop (C4p.dec l).2.1.toNat) 13) else (fin s (C4p.dec l).1 (l.drop (C4p.dec l).2.1.toNat), 0)) := rfl
  obtain ⟨⟨⟨cf, cs, cm, cb, ck, cq, cp⟩, N, E⟩, hdec⟩ : ∃ D, D = C4p.dec l := ⟨_, rfl⟩
  rw [← hdec] at hD he0 he6 hin hR
  dsimp only at hD he0 he6 hin hR
  obtain ⟨E, rfl⟩ := Int.eq_ofNat_of_zero_le he0
  rw [hR]
  replace hD := Lib.hid hD
  clear hdec hR
  by_cases hE : E = 0
  case neg =>
    rw [if_pos (show ((E : Nat) : Int) ≠ 0 by omega), Int.toNat_natCast]
    have hq : ((E : Int) != 0) = true := by rw [bne_iff_ne]; omega
    clear hin he0 he6 hE
    obtain ⟨nu, ty, un, nm, ei, en, d, ⟨f, sg, m, b, k1, k2, p⟩, mx, r0, r1, r2, r3, r4, r5, hl, hu, st, av, dv, on, sm⟩ := s
    rw [show cells ⟨nu, ty, un, nm, ei, en, d, ⟨f, sg, m, b, k1, k2, p⟩, mx, r0, r1, r2, r3, r4, r5, hl, hu, st, av, dv, on, sm⟩ (.slice none 0 0) = #[.int .u8 (nu.toNat : Int), .int .u8 (ty.toNat : Int), .int .u8 (un.toNat : Int), .string nm, .int .u8 (ei.toNat : Int), .int .u8 (en.toNat : Int), .bool d, .int .i64 f, .bool sg, .int .i64 m, .int .i64 b, .int .i64 k1, .int .i64 k2, .slice none 0 0, .int .u8 (mx.toNat : Int), .int .u8 (r0.toNat : Int), .int .u8 (r1.toNat : Int), .int .u8 (r2.toNat : Int), .int .u8 (r3.toNat : Int), .int .u8 (r4.toNat : Int), .int .u8 (r5.toNat : Int), .int .u8 (hl.toNat : Int), .int .u8 (hu.toNat : Int), .int .u16 (st : Int), .int .u16 (av : Int), .int .u16 (dv : Int), .bool on, .int .i64 sm] from rfl] at hW ⊢
    go_enter Try.func111, Try.ntmps111
    go_wp2_with fail
    refine hD.out.mono ?_
    rintro e w2 ⟨PA, pn, pc, rfl, hp2, hb2⟩
    have hz2 := hz1.below hb2
    have hbb2 := hb1.trans (hb2.mono (by omega))
    have hz3 := hz2.alloc (.cells #[.int .i64 cf, .bool cs, .int .i64 cm, .int .i64 cb, .int .i64 ck, .int .i64 cq, .slice PA pn pc] 54)
    have hb3 := hbb2.alloc hbb2.size (.cells #[.int .i64 cf, .bool cs, .int .i64 cm, .int .i64 cb, .int .i64 ck, .int .i64 cq, .slice PA pn pc] 54)
    clear hz1 hz2 hb2 hbb2 hx1
    go_wp2_with (refine wpList_store_bx rfl (.tmp 4) (.tmp 18) rfl (w.heap.size + 1) noSn noSn (.slice none 0 0) (.slice none 0 0) rfl rfl rfl hz3 ?_; intro w4 hx4 hg4; refine Hid.out ?_)
    refine Lib.hid ?_
    have hb4 := hb3.grown hg4 hb3.size (fun k hk => by injection hk; omega)
    go_wp2_with fail
    exact out2 Try.results111 rfl rfl rfl hx4 ⟨none, 0, 0, rfl, PSl.none, hb4⟩
  subst hE
  rw [if_neg (by simp)]
  obtain ⟨hN2, hNl⟩ := hin rfl
  obtain ⟨N, rfl⟩ := Int.eq_ofNat_of_zero_le (show 0 ≤ N by omega)
  rw [Int.toNat_natCast]
  have hln := hs1.len
  have hcp := hs1.cap
  have hcm := hs1.max
  unfold maxLen at hcm
  have g1 : (0 : Int) ≤ (N : Int) := by omega
  have g2 : (N : Int) ≤ (n : Int) := by omega
  have g3 : (N : Int) ≤ (c : Int) := by omega
  have g4 : N ≤ n := by omega
  have g5 : 2 ≤ N := by omega
  have hlr : (l.drop N).length = n - N := by rw [List.length_drop]; omega
  have HSZ := Lib.hid fun (A2 : Option Addr) (c2 : Nat) (u : World) => size_p A2 (n - N) c2 (l.drop N) 13 u hlr.symm
  clear he0 he6 hin hN2 hNl
  by_cases h13 : size (l.drop N) 13 = 0
  case neg =>
    rw [if_pos h13]
    generalize hQ : size (l.drop N) 13 = Q at *
    have hq : ((Q : Int) != 0) = true := by rw [bne_iff_ne]; omega
    clear hQ h13 hlr hs1 hln
    rcases (show c = N ∨ N < c by omega) with hcN | hcN
    · as_aux_lemma =>
      subst hcN
      rw [show n - c = 0 by omega] at HSZ
      obtain ⟨nu, ty, un, nm, ei, en, d, ⟨f, sg, m, b, k1, k2, p⟩, mx, r0, r1, r2, r3, r4, r5, hl, hu, st, av, dv, on, sm⟩ := s
      rw [show cells ⟨nu, ty, un, nm, ei, en, d, ⟨f, sg, m, b, k1, k2, p⟩, mx, r0, r1, r2, r3, r4, r5, hl, hu, st, av, dv, on, sm⟩ (.slice none 0 0) = #[.int .u8 (nu.toNat : Int), .int .u8 (ty.toNat : Int), .int .u8 (un.toNat : Int), .string nm, .int .u8 (ei.toNat : Int), .int .u8 (en.toNat : Int), .bool d, .int .i64 f, .bool sg, .int .i64 m, .int .i64 b, .int .i64 k1, .int .i64 k2, .slice none 0 0, .int .u8 (mx.toNat : Int), .int .u8 (r0.toNat : Int), .int .u8 (r1.toNat : Int), .int .u8 (r2.toNat : Int), .int .u8 (r3.toNat : Int), .int .u8 (r4.toNat : Int), .int .u8 (r5.toNat : Int), .int .u8 (hl.toNat : Int), .int .u8 (hu.toNat : Int), .int .u16 (st : Int), .int .u16 (av : Int), .int .u16 (dv : Int), .bool on, .int .i64 sm] from rfl] at hW ⊢
      go_enter Try.func111, Try.ntmps111
      go_wp2_with fail
      refine hD.out.mono ?_
      rintro e w2 ⟨PA, pn, pc, rfl, hp2, hb2⟩
      have hz2 := hz1.below hb2
      have hbb2 := hb1.trans (hb2.mono (by omega))
      have hz3 := hz2.alloc (.cells #[.int .i64 cf, .bool cs, .int .i64 cm, .int .i64 cb, .int .i64 ck, .int .i64 cq, .slice PA pn pc] 54)
      have hb3 := hbb2.alloc hbb2.size (.cells #[.int .i64 cf, .bool cs, .int .i64 cm, .int .i64 cb, .int .i64 ck, .int .i64 cq, .slice PA pn pc] 54)
      clear hz1 hz2 hb2 hbb2 hx1
      go_wp2_with fail
      generalize w2.alloc (.cells #[.int .i64 cf, .bool cs, .int .i64 cm, .int .i64 cb, .int .i64 ck, .int .i64 cq, .slice PA pn pc] 54) = w3 at *
      refine (HSZ.out _ _ _).mono ?_
      rintro e w4 ⟨rfl, rfl⟩
      go_wp2_with (refine wpList_store_bx rfl (.tmp 4) (.tmp 27) rfl (w.heap.size + 1) noSn noSn (.slice none 0 0) (.slice none 0 0) rfl rfl rfl hz3 ?_; intro w4 hx4 hg4; refine Hid.out ?_)
      refine Lib.hid ?_
      have hb4 := hb3.grown hg4 hb3.size (fun k hk => by injection hk; omega)
      go_wp2_with fail
      exact out2 Try.results111 rfl rfl rfl hx4 ⟨none, 0, 0, rfl, PSl.none, hb4⟩
    · as_aux_lemma =>
      have hcN1 : ¬ c = N := by omega
      obtain ⟨nu, ty, un, nm, ei, en, d, ⟨f, sg, m, b, k1, k2, p⟩, mx, r0, r1, r2, r3, r4, r5, hl, hu, st, av, dv, on, sm⟩ := s
      rw [show cells ⟨nu, ty, un, nm, ei, en, d, ⟨f, sg, m, b, k1, k2, p⟩, mx, r0, r1, r2, r3, r4, r5, hl, hu, st, av, dv, on, sm⟩ (.slice none 0 0) = #[.int .u8 (nu.toNat : Int), .int .u8 (ty.toNat : Int), .int .u8 (un.toNat : Int), .string nm, .int .u8 (ei.toNat : Int), .int .u8 (en.toNat : Int), .bool d, .int .i64 f, .bool sg, .int .i64 m, .int .i64 b, .int .i64 k1, .int .i64 k2, .slice none 0 0, .int .u8 (mx.toNat : Int), .int .u8 (r0.toNat : Int), .int .u8 (r1.toNat : Int), .int .u8 (r2.toNat : Int), .int .u8 (r3.toNat : Int), .int .u8 (r4.toNat : Int), .int .u8 (r5.toNat : Int), .int .u8 (hl.toNat : Int), .int .u8 (hu.toNat : Int), .int .u16 (st : Int), .int .u16 (av : Int), .int .u16 (dv : Int), .bool on, .int .i64 sm] from rfl] at hW ⊢
      go_enter Try.func111, Try.ntmps111
      go_wp2_with fail
      refine hD.out.mono ?_
      rintro e w2 ⟨PA, pn, pc, rfl, hp2, hb2⟩
      have hz2 := hz1.below hb2
      have hbb2 := hb1.trans (hb2.mono (by omega))
      have hz3 := hz2.alloc (.cells #[.int .i64 cf, .bool cs, .int .i64 cm, .int .i64 cb, .int .i64 ck, .int .i64 cq, .slice PA pn pc] 54)
      have hb3 := hbb2.alloc hbb2.size (.cells #[.int .i64 cf, .bool cs, .int .i64 cm, .int .i64 cb, .int .i64 ck, .int .i64 cq, .slice PA pn pc] 54)
      clear hz1 hz2 hb2 hbb2 hx1
      go_wp2_with fail
      generalize w2.alloc (.cells #[.int .i64 cf, .bool cs, .int .i64 cm, .int .i64 cb, .int .i64 ck, .int .i64 cq, .slice PA pn pc] 54) = w3 at *
      refine (HSZ.out _ _ _).mono ?_
      rintro e w4 ⟨rfl, rfl⟩
      go_wp2_with (refine wpList_store_bx rfl (.tmp 4) (.tmp 27) rfl (w.heap.size + 1) noSn noSn (.slice none 0 0) (.slice none 0 0) rfl rfl rfl hz3 ?_; intro w4 hx4 hg4; refine Hid.out ?_)
      refine Lib.hid ?_
      have hb4 := hb3.grown hg4 hb3.size (fun k hk => by injection hk; omega)
      go_wp2_with fail
      exact out2 Try.results111 rfl rfl rfl hx4 ⟨none, 0, 0, rfl, PSl.none, hb4⟩
  rw [if_neg (by omega)]
  have hn13 : n - N = 13 := by
    unfold size at h13
    rw [hlr] at h13
    split at h13
    · omega
    · split at h13 <;> omega
  have hcN1 : ¬ c = N := by omega
  have hlw := hsl.len
  obtain ⟨a, rfl⟩ : ∃ a, A = some a := by
    obtain ⟨a, ha, -⟩ := row_at hs1.row (k := 0) (by omega)
    exact ⟨a, ha⟩
  have hrow := row_cut hsl.row (n := N) (cap := c) (by omega) (by omega)
  rw [if_neg hcN1] at hrow
  obtain ⟨a2, ha2⟩ : ∃ a2, a.add N = a2 := ⟨_, rfl⟩
  have hrow0 : Row w.heap.size w (some a2) (l.drop N) := by rw [← ha2]; exact hrow
  have hsp : a2.spot = none := by
    rw [← ha2]
    unfold Addr.add
    rw [if_neg (by omega)]
  rw [hn13, h13] at HSZ
  have hlr13 : (l.drop N).length = 13 := by omega
  have HLR := Lib.hid hlr13
  have HSP := Lib.hid hsp
  clear hrow hlr h13 hlr13 hsp hln hlw hsl hs1
  obtain ⟨nu, ty, un, nm, ei, en, d, ⟨f, sg, m, b, k1, k2, p⟩, mx, r0, r1, r2, r3, r4, r5, hl, hu, st, av, dv, on, sm⟩ := s
  rw [show cells ⟨nu, ty, un, nm, ei, en, d, ⟨f, sg, m, b, k1, k2, p⟩, mx, r0, r1, r2, r3, r4, r5, hl, hu, st, av, dv, on, sm⟩ (.slice none 0 0) = #[.int .u8 (nu.toNat : Int), .int .u8 (ty.toNat : Int), .int .u8 (un.toNat : Int), .string nm, .int .u8 (ei.toNat : Int), .int .u8 (en.toNat : Int), .bool d, .int .i64 f, .bool sg, .int .i64 m, .int .i64 b, .int .i64 k1, .int .i64 k2, .slice none 0 0, .int .u8 (mx.toNat : Int), .int .u8 (r0.toNat : Int), .int .u8 (r1.toNat : Int), .int .u8 (r2.toNat : Int), .int .u8 (r3.toNat : Int), .int .u8 (r4.toNat : Int), .int .u8 (r5.toNat : Int), .int .u8 (hl.toNat : Int), .int .u8 (hu.toNat : Int), .int .u16 (st : Int), .int .u16 (av : Int), .int .u16 (dv : Int), .bool on, .int .i64 sm] from rfl] at hW ⊢
  go_enter Try.func111, Try.ntmps111
  go_wp2_with fail
  refine hD.out.mono ?_
  rintro e w2 ⟨PA, pn, pc, rfl, hp2, hb2⟩
  have hz2 := hz1.below hb2
  have hx2 := hx1.below hb2
  have hbb2 := hb1.trans (hb2.mono (by omega))
  have hz3 := hz2.alloc (.cells #[.int .i64 cf, .bool cs, .int .i64 cm, .int .i64 cb, .int .i64 ck, .int .i64 cq, .slice PA pn pc] 54)
  have hx3 := hx2.alloc (.cells #[.int .i64 cf, .bool cs, .int .i64 cm, .int .i64 cb, .int .i64 ck, .int .i64 cq, .slice PA pn pc] 54)
  have hst : Below w2.heap.size w2 (w2.alloc (.cells #[.int .i64 cf, .bool cs, .int .i64 cm, .int .i64 cb, .int .i64 ck, .int .i64 cq, .slice PA pn pc] 54)) := (Below.refl _ _).alloc (Nat.le_refl _) _
  have hp3 := hp2.step hst
  have hb3 := hbb2.alloc hbb2.size (.cells #[.int .i64 cf, .bool cs, .int .i64 cm, .int .i64 cb, .int .i64 ck, .int .i64 cq, .slice PA pn pc] 54)
  have hc3 : (w2.alloc (.cells #[.int .i64 cf, .bool cs, .int .i64 cm, .int .i64 cb, .int .i64 ck, .int .i64 cq, .slice PA pn pc] 54)).heap[w2.heap.size]? = some (.cells #[.int .i64 cf, .bool cs, .int .i64 cm, .int .i64 cb, .int .i64 ck, .int .i64 cq, .slice PA pn pc] 54 (0, 0)) := heap_alloc_new w2 _
  have hF2 := hx2.lt
  replace hc3 := Lib.hid hc3
  clear hz1 hz2 hb2 hbb2 hx1 hx2 hp2 hst
  go_wp2_with fail
  generalize w2.heap.size = G at *
  generalize w2.alloc (.cells #[.int .i64 cf, .bool cs, .int .i64 cm, .int .i64 cb, .int .i64 ck, .int .i64 cq, .slice PA pn pc] 54) = w3 at *
  obtain ⟨y0, y1, y2, y3, y4, y5, y6, y7, y8, y9, y10, y11, y12, hL⟩ := thirteen (l.drop N) HLR.out
  rw [hL] at hrow0
  have HL := Lib.hid hL
  have hR3 : Rs w w3 ⟨nu, ty, un, nm, ei, en, d, ⟨f, sg, m, b, k1, k2, p⟩, mx, r0, r1, r2, r3, r4, r5, hl, hu, st, av, dv, on, sm⟩ (.slice none 0 0) PA pn pc cp := ⟨hx3, hz3, hp3, hb3⟩
  have hHR := Lib.hid fun (W : World) (hb : Below w.heap.size w W) => hrow0.below hb
  clear hx3 hz3 hb3 hp3 hL hrow0
  refine (HSZ.out _ _ _).mono ?_
  rintro e w4 ⟨rfl, rfl⟩
  have d0 : w3.cell? ⟨G, 0, none⟩ = some (.int .i64 cf) := cell_of_row w3 G 0 _ _ _ hc3.out
  have d1 : w3.cell? ⟨G, 1, none⟩ = some (.bool cs) := cell_of_row w3 G 1 _ _ _ hc3.out
  have d2 : w3.cell? ⟨G, 2, none⟩ = some (.int .i64 cm) := cell_of_row w3 G 2 _ _ _ hc3.out
  have d3 : w3.cell? ⟨G, 3, none⟩ = some (.int .i64 cb) := cell_of_row w3 G 3 _ _ _ hc3.out
  have d4 : w3.cell? ⟨G, 4, none⟩ = some (.int .i64 ck) := cell_of_row w3 G 4 _ _ _ hc3.out
  have d5 : w3.cell? ⟨G, 5, none⟩ = some (.int .i64 cq) := cell_of_row w3 G 5 _ _ _ hc3.out
  have d6 : w3.cell? ⟨G, 6, none⟩ = some (.slice PA pn pc) := cell_of_row w3 G 6 _ _ _ hc3.out
  have k7 : w3.cell? ⟨w.heap.size, 7, none⟩ = some (.int .i64 f) := hR3.cv.c 7
  have f7 := hR3.cv.fz 7
  have k8 : w3.cell? ⟨w.heap.size, 8, none⟩ = some (.bool sg) := hR3.cv.c 8
  have f8 := hR3.cv.fz 8
  have k9 : w3.cell? ⟨w.heap.size, 9, none⟩ = some (.int .i64 m) := hR3.cv.c 9
  have f9 := hR3.cv.fz 9
  have k10 : w3.cell? ⟨w.heap.size, 10, none⟩ = some (.int .i64 b) := hR3.cv.c 10
  have f10 := hR3.cv.fz 10
  have k11 : w3.cell? ⟨w.heap.size, 11, none⟩ = some (.int .i64 k1) := hR3.cv.c 11
  have f11 := hR3.cv.fz 11
  have k12 : w3.cell? ⟨w.heap.size, 12, none⟩ = some (.int .i64 k2) := hR3.cv.c 12
  have f12 := hR3.cv.fz 12
  have k13 : w3.cell? ⟨w.heap.size, 13, none⟩ = some (.slice none 0 0) := hR3.cv.c 13
  have f13 := hR3.cv.fz 13
  have k14 : w3.cell? ⟨w.heap.size, 14, none⟩ = some (.int .u8 (mx.toNat : Int)) := hR3.cv.c 14
  have f14 := hR3.cv.fz 14
  have hR8 := (((((((hR3.set 7 (.int .i64 cf) ⟨nu, ty, un, nm, ei, en, d, ⟨cf, sg, m, b, k1, k2, p⟩, mx, r0, r1, r2, r3, r4, r5, hl, hu, st, av, dv, on, sm⟩ (.slice none 0 0) ⟨_, _, _, rfl⟩ rfl).set 8 (.bool cs) ⟨nu, ty, un, nm, ei, en, d, ⟨cf, cs, m, b, k1, k2, p⟩, mx, r0, r1, r2, r3, r4, r5, hl, hu, st, av, dv, on, sm⟩ (.slice none 0 0) ⟨_, _, _, rfl⟩ rfl).set 9 (.int .i64 cm) ⟨nu, ty, un, nm, ei, en, d, ⟨cf, cs, cm, b, k1, k2, p⟩, mx, r0, r1, r2, r3, r4, r5, hl, hu, st, av, dv, on, sm⟩ (.slice none 0 0) ⟨_, _, _, rfl⟩ rfl).set 10 (.int .i64 cb) ⟨nu, ty, un, nm, ei, en, d, ⟨cf, cs, cm, cb, k1, k2, p⟩, mx, r0, r1, r2, r3, r4, r5, hl, hu, st, av, dv, on, sm⟩ (.slice none 0 0) ⟨_, _, _, rfl⟩ rfl).set 11 (.int .i64 ck) ⟨nu, ty, un, nm, ei, en, d, ⟨cf, cs, cm, cb, ck, k2, p⟩, mx, r0, r1, r2, r3, r4, r5, hl, hu, st, av, dv, on, sm⟩ (.slice none 0 0) ⟨_, _, _, rfl⟩ rfl).set 12 (.int .i64 cq) ⟨nu, ty, un, nm, ei, en, d, ⟨cf, cs, cm, cb, ck, cq, p⟩, mx, r0, r1, r2, r3, r4, r5, hl, hu, st, av, dv, on, sm⟩ (.slice none 0 0) ⟨_, _, _, rfl⟩ rfl).set 13 (.slice PA pn pc) ⟨nu, ty, un, nm, ei, en, d, ⟨cf, cs, cm, cb, ck, cq, cp⟩, mx, r0, r1, r2, r3, r4, r5, hl, hu, st, av, dv, on, sm⟩ (.slice PA pn pc) ⟨_, _, _, rfl⟩ rfl)
  have z0 : (((((((w3.setCell ⟨w.heap.size, 7, none⟩ (.int .i64 cf)).setCell ⟨w.heap.size, 8, none⟩ (.bool cs)).setCell ⟨w.heap.size, 9, none⟩ (.int .i64 cm)).setCell ⟨w.heap.size, 10, none⟩ (.int .i64 cb)).setCell ⟨w.heap.size, 11, none⟩ (.int .i64 ck)).setCell ⟨w.heap.size, 12, none⟩ (.int .i64 cq)).setCell ⟨w.heap.size, 13, none⟩ (.slice PA pn pc)).cell? a2 = some (.int .u8 (y0.toNat : Int)) := row_zero (hHR.out _ hR8.bl)
  have hR9 := hR8.set 14 (.int .u8 (y0.toNat : Int)) ⟨nu, ty, un, nm, ei, en, d, ⟨cf, cs, cm, cb, ck, cq, cp⟩, y0, r0, r1, r2, r3, r4, r5, hl, hu, st, av, dv, on, sm⟩ (.slice PA pn pc) ⟨_, _, _, rfl⟩ rfl
  replace hR9 := Lib.hid hR9
  have g6 : (13 : Int) ≤ ((c - N : Nat) : Int) := by omega
  clear hR3 hR8
  go_wp2_with fail
  clear d0 d1 d2 d3 d4 d5 d6 k7 f7 k8 f8 k9 f9 k10 f10 k11 f11 k12 f12 k13 f13 k14 f14 z0
  generalize ((((((((w3.setCell ⟨w.heap.size, 7, none⟩ (.int .i64 cf)).setCell ⟨w.heap.size, 8, none⟩ (.bool cs)).setCell ⟨w.heap.size, 9, none⟩ (.int .i64 cm)).setCell ⟨w.heap.size, 10, none⟩ (.int .i64 cb)).setCell ⟨w.heap.size, 11, none⟩ (.int .i64 ck)).setCell ⟨w.heap.size, 12, none⟩ (.int .i64 cq)).setCell ⟨w.heap.size, 13, none⟩ (.slice PA pn pc)).setCell ⟨w.heap.size, 14, none⟩ (.int .u8 (y0.toNat : Int))) = w9 at *
  replace hR9 := hR9.out
  have hrw := hHR.out _ hR9.bl
  have y1c : w9.drew.cell? ⟨a2.block, a2.off + 1, none⟩ = some (.int .u8 (y1.toNat : Int)) := row_k hrw 0 (by simp)
  have y2c : w9.drew.cell? ⟨a2.block, a2.off + 2, none⟩ = some (.int .u8 (y2.toNat : Int)) := row_k hrw 1 (by simp)
  have y3c : w9.drew.cell? ⟨a2.block, a2.off + 3, none⟩ = some (.int .u8 (y3.toNat : Int)) := row_k hrw 2 (by simp)
  have y4c : w9.drew.cell? ⟨a2.block, a2.off + 4, none⟩ = some (.int .u8 (y4.toNat : Int)) := row_k hrw 3 (by simp)
  have y5c : w9.drew.cell? ⟨a2.block, a2.off + 5, none⟩ = some (.int .u8 (y5.toNat : Int)) := row_k hrw 4 (by simp)
  have y6c : w9.drew.cell? ⟨a2.block, a2.off + 6, none⟩ = some (.int .u8 (y6.toNat : Int)) := row_k hrw 5 (by simp)
  have k15 : w9.drew.cell? ⟨w.heap.size, 15, none⟩ = some (.int .u8 (r0.toNat : Int)) := hR9.cv.c 15
  have f15 : w9.drew.frozen? ⟨w.heap.size, 15, none⟩ = false := hR9.cv.fz 15
  have k16 : w9.drew.cell? ⟨w.heap.size, 16, none⟩ = some (.int .u8 (r1.toNat : Int)) := hR9.cv.c 16
  have f16 : w9.drew.frozen? ⟨w.heap.size, 16, none⟩ = false := hR9.cv.fz 16
  have k17 : w9.drew.cell? ⟨w.heap.size, 17, none⟩ = some (.int .u8 (r2.toNat : Int)) := hR9.cv.c 17
  have f17 : w9.drew.frozen? ⟨w.heap.size, 17, none⟩ = false := hR9.cv.fz 17
  have k18 : w9.drew.cell? ⟨w.heap.size, 18, none⟩ = some (.int .u8 (r3.toNat : Int)) := hR9.cv.c 18
  have f18 : w9.drew.frozen? ⟨w.heap.size, 18, none⟩ = false := hR9.cv.fz 18
  have k19 : w9.drew.cell? ⟨w.heap.size, 19, none⟩ = some (.int .u8 (r4.toNat : Int)) := hR9.cv.c 19
  have f19 : w9.drew.frozen? ⟨w.heap.size, 19, none⟩ = false := hR9.cv.fz 19
  have k20 : w9.drew.cell? ⟨w.heap.size, 20, none⟩ = some (.int .u8 (r5.toNat : Int)) := hR9.cv.c 20
  have f20 : w9.drew.frozen? ⟨w.heap.size, 20, none⟩ = false := hR9.cv.fz 20
  have g7 : (7 : Int) ≤ ((c - N : Nat) : Int) := by omega
  have hgr10 : w9.drew.grownBy (w9.drew.setRow w.heap.size (cells ⟨nu, ty, un, nm, ei, en, d, ⟨cf, cs, cm, cb, ck, cq, cp⟩, y0, y1, y2, y3, y4, y5, y6, hl, hu, st, av, dv, on, sm⟩ (.slice PA pn pc))) (some w.heap.size) := ⟨rfl, rfl, rfl, by simp, fun k _ hk => setRow_other _ w.heap.size k _ (fun he => hk (by rw [he]))⟩
  have hcv9 : Bx w9.drew w.heap.size ⟨nu, ty, un, nm, ei, en, d, ⟨cf, cs, cm, cb, ck, cq, cp⟩, y0, r0, r1, r2, r3, r4, r5, hl, hu, st, av, dv, on, sm⟩ (.slice PA pn pc) := hR9.cv
  have hcp : (Builtin.copy_ #[60, 60] 3 #[.slice (some ⟨w.heap.size, 15, none⟩) 6 6, .slice (some ⟨a2.block, a2.off + 1, none⟩) 6 (c - N - 1)]).run Try.prog w9.drew = .ok (.int .i64 6) (w9.drew.setRow w.heap.size (cells ⟨nu, ty, un, nm, ei, en, d, ⟨cf, cs, cm, cb, ck, cq, cp⟩, y0, y1, y2, y3, y4, y5, y6, hl, hu, st, av, dv, on, sm⟩ (.slice PA pn pc))) :=
    run_copy_row (P := Try.prog) w9.drew 60 60 3 5 w.heap.size 15 6 6 ⟨a2.block, a2.off + 1, none⟩ 6 (c - N - 1) (cells ⟨nu, ty, un, nm, ei, en, d, ⟨cf, cs, cm, cb, ck, cq, cp⟩, y0, r0, r1, r2, r3, r4, r5, hl, hu, st, av, dv, on, sm⟩ (.slice PA pn pc)) 59 [.int .u8 (y1.toNat : Int), .int .u8 (y2.toNat : Int), .int .u8 (y3.toNat : Int), .int .u8 (y4.toNat : Int), .int .u8 (y5.toNat : Int), .int .u8 (y6.toNat : Int)] Try.underlying60 (by kernel_rfl) hcv9 rfl (fun j v hj => by
      match j, hj with
      | 0, hj => simp at hj; subst hj; exact y1c
      | 1, hj => simp at hj; subst hj; exact y2c
      | 2, hj => simp at hj; subst hj; exact y3c
      | 3, hj => simp at hj; subst hj; exact y4c
      | 4, hj => simp at hj; subst hj; exact y5c
      | 5, hj => simp at hj; subst hj; exact y6c
      | j + 6, hj => simp at hj) (by show 15 + 6 ≤ 28; omega) (by intro v hv; simp only [List.mem_cons, List.not_mem_nil, or_false] at hv; rcases hv with rfl | rfl | rfl | rfl | rfl | rfl <;> rfl)
  have hR10 : Rs w (w9.drew.setRow w.heap.size (cells ⟨nu, ty, un, nm, ei, en, d, ⟨cf, cs, cm, cb, ck, cq, cp⟩, y0, y1, y2, y3, y4, y5, y6, hl, hu, st, av, dv, on, sm⟩ (.slice PA pn pc))) ⟨nu, ty, un, nm, ei, en, d, ⟨cf, cs, cm, cb, ck, cq, cp⟩, y0, y1, y2, y3, y4, y5, y6, hl, hu, st, av, dv, on, sm⟩ (.slice PA pn pc) PA pn pc cp :=
    ⟨setRow_heap _ _ _ _ _ _ hcv9, (show Bx w9.drew _ _ _ from hR9.res).kept hgr10 (fun e => by injection e; omega), psl_far (show PSl w9.drew PA pn pc cp from ⟨hR9.pts.len, hR9.pts.row, hR9.pts.cap, hR9.pts.max, hR9.pts.nil⟩) hcv9 ⟨_, _, _, rfl⟩ hgr10, (below_drew hR9.bl).grown hgr10 (show w.heap.size ≤ w9.heap.size from hR9.bl.size) (fun k hk => by injection hk; omega)⟩
  replace hR10 := Lib.hid hR10
  have hc1 : ¬ c - N = 1 := by omega
  clear hgr10 hcv9 hR9 hrw y1c y2c y3c y4c y5c y6c k15 k16 k17 k18 k19 k20 f15 f16 f17 f18 f19 f20
  generalize w9.drew.setRow w.heap.size (cells ⟨nu, ty, un, nm, ei, en, d, ⟨cf, cs, cm, cb, ck, cq, cp⟩, y0, y1, y2, y3, y4, y5, y6, hl, hu, st, av, dv, on, sm⟩ (.slice PA pn pc)) = w10 at *
  go_region
  refine Hid.out ?_
  refine Lib.hid ?_
  clear hcp
  replace hR10 := hR10.out
  have hrw := hHR.out _ hR10.bl
  have y7c : w10.drew.cell? ⟨a2.block, a2.off + 7, none⟩ = some (.int .u8 (y7.toNat : Int)) := row_k hrw 6 (by simp)
  have y8c : w10.drew.cell? ⟨a2.block, a2.off + 8, none⟩ = some (.int .u8 (y8.toNat : Int)) := row_k hrw 7 (by simp)
  have k21 : w10.drew.cell? ⟨w.heap.size, 21, none⟩ = some (.int .u8 (hl.toNat : Int)) := hR10.cv.c 21
  have f21 : w10.drew.frozen? ⟨w.heap.size, 21, none⟩ = false := hR10.cv.fz 21
  have k22 : w10.drew.cell? ⟨w.heap.size, 22, none⟩ = some (.int .u8 (hu.toNat : Int)) := hR10.cv.c 22
  have f22 : w10.drew.frozen? ⟨w.heap.size, 22, none⟩ = false := hR10.cv.fz 22
  have hR11 := ((hR10.drewN 1).set 21 (.int .u8 (y7.toNat : Int)) ⟨nu, ty, un, nm, ei, en, d, ⟨cf, cs, cm, cb, ck, cq, cp⟩, y0, y1, y2, y3, y4, y5, y6, y7, hu, st, av, dv, on, sm⟩ (.slice PA pn pc) ⟨_, _, _, rfl⟩ rfl).set 22 (.int .u8 (y8.toNat : Int)) ⟨nu, ty, un, nm, ei, en, d, ⟨cf, cs, cm, cb, ck, cq, cp⟩, y0, y1, y2, y3, y4, y5, y6, y7, y8, st, av, dv, on, sm⟩ (.slice PA pn pc) ⟨_, _, _, rfl⟩ rfl
  have k21' : w10.cell? ⟨w.heap.size, 21, none⟩ = some (.int .u8 (hl.toNat : Int)) := k21
  have f21' : w10.frozen? ⟨w.heap.size, 21, none⟩ = false := f21
  have k22' : w10.cell? ⟨w.heap.size, 22, none⟩ = some (.int .u8 (hu.toNat : Int)) := k22
  have f22' : w10.frozen? ⟨w.heap.size, 22, none⟩ = false := f22
  have hR11 : Rs w (((w10.setCell ⟨w.heap.size, 21, none⟩ (.int .u8 (y7.toNat : Int))).setCell ⟨w.heap.size, 22, none⟩ (.int .u8 (y8.toNat : Int))).drew) ⟨nu, ty, un, nm, ei, en, d, ⟨cf, cs, cm, cb, ck, cq, cp⟩, y0, y1, y2, y3, y4, y5, y6, y7, y8, st, av, dv, on, sm⟩ (.slice PA pn pc) PA pn pc cp := hR11
  replace hR11 := Lib.hid hR11
  clear hrw hR10
  go_wp2_with fail
  go_region
  refine Hid.out ?_
  refine Lib.hid ?_
  generalize ((w10.setCell ⟨w.heap.size, 21, none⟩ (.int .u8 (y7.toNat : Int))).setCell ⟨w.heap.size, 22, none⟩ (.int .u8 (y8.toNat : Int))).drew = w11 at *
  clear y7c y8c k21 f21 k22 f22 k21' f21' k22' f22'
  have hSLr : ∀ W, Below w.heap.size w W → Sl W (some a2) 13 (c - N) [y0, y1, y2, y3, y4, y5, y6, y7, y8, y9, y10, y11, y12] := fun W hb => ⟨rfl, (hHR.out W hb).more hb.size, by omega, by unfold maxLen; omega, fun h => by cases h⟩
  have H9 := Lib.hid fun (W : World) (hb : Below w.heap.size w W) => by have := number_p ⟨a2.block, a2.off + 9, none⟩ 4 (c - N - 9) ([y0, y1, y2, y3, y4, y5, y6, y7, y8, y9, y10, y11, y12].drop 9) W (sl_tail (hSLr W hb) (by omega) (by omega)) (by omega); rw [n2_drop] at this; exact this
  have H11 := Lib.hid fun (W : World) (hb : Below w.heap.size w W) => by have := number_p ⟨a2.block, a2.off + 11, none⟩ 2 (c - N - 11) ([y0, y1, y2, y3, y4, y5, y6, y7, y8, y9, y10, y11, y12].drop 11) W (sl_tail (hSLr W hb) (by omega) (by omega)) (by omega); rw [n2_drop] at this; exact this
  clear hSLr
  replace hR11 := hR11.out
  have hB1 := Lib.hid (below_drew hR11.bl)
  have hBs := Lib.hid fun (k : Nat) => below_drewN (k := k) hR11.bl
  generalize hv9 : n2 [y0, y1, y2, y3, y4, y5, y6, y7, y8, y9, y10, y11, y12] 9 = v9 at *
  generalize hv11 : n2 [y0, y1, y2, y3, y4, y5, y6, y7, y8, y9, y10, y11, y12] 11 = v11 at *
  have HV9 := Lib.hid hv9
  have HV11 := Lib.hid hv11
  have k24 : ∀ k, (w11.drewN k).cell? ⟨w.heap.size, 24, none⟩ = some (.int .u16 (av : Int)) := fun _ => hR11.cv.c 24
  have k25 : ∀ k, (w11.drewN k).cell? ⟨w.heap.size, 25, none⟩ = some (.int .u16 (dv : Int)) := fun _ => hR11.cv.c 25
  have f24 : ∀ k, (w11.drewN k).frozen? ⟨w.heap.size, 24, none⟩ = false := fun _ => hR11.cv.fz 24
  have f25 : ∀ k, (w11.drewN k).frozen? ⟨w.heap.size, 25, none⟩ = false := fun _ => hR11.cv.fz 25
  have HR12 := Lib.hid fun (k : Nat) => ((hR11.drewN k).set 24 (.int .u16 (v9 : Int)) ⟨nu, ty, un, nm, ei, en, d, ⟨cf, cs, cm, cb, ck, cq, cp⟩, y0, y1, y2, y3, y4, y5, y6, y7, y8, st, v9, dv, on, sm⟩ (.slice PA pn pc) ⟨_, _, _, rfl⟩ rfl).set 25 (.int .u16 (v11 : Int)) ⟨nu, ty, un, nm, ei, en, d, ⟨cf, cs, cm, cb, ck, cq, cp⟩, y0, y1, y2, y3, y4, y5, y6, y7, y8, st, v9, v11, on, sm⟩ (.slice PA pn pc) ⟨_, _, _, rfl⟩ rfl
  have q9 : (9 : Int) ≤ ((c - N : Nat) : Int) := by omega
  have q11 : (11 : Int) ≤ ((c - N : Nat) : Int) := by omega
  have q9' : ¬ c - N = 9 := by omega
  have q11' : ¬ c - N = 11 := by omega
  clear hv9 hv11 hR11
  go_wp2_with fail
  go_region_held3 (fun _ => True) (trivial)
    (first
      | (go_at_call 138; (with_reducible refine (H9.out _ (by first | exact hB1.out | exact hBs.out _)).mono ?_); rintro e w2 ⟨rfl, qa, rfl⟩)
      | (go_at_call 138; (with_reducible refine (H11.out _ (by first | exact hB1.out | exact hBs.out _)).mono ?_); rintro e w2 ⟨rfl, qb, rfl⟩))
  refine Hid.out ?_
  refine Lib.hid ?_
  clear k24 k25 f24 f25
  have hR12 := HR12.out (1 + qa + qb)
  generalize ((w11.drewN (1 + qa + qb)).setCell ⟨w.heap.size, 24, none⟩ (.int .u16 (v9 : Int))).setCell ⟨w.heap.size, 25, none⟩ (.int .u16 (v11 : Int)) = w12 at *
  clear HR12 hB1 hBs H9 H11 HSZ hHR
  go_wp2_with (first
    | (refine wpList_load_bx rfl (.tmp 2) rfl _ _ _ rfl hR12.cv ?_)
    | (refine wpList_store_bx rfl (.tmp 4) (.tmp 58) rfl (w.heap.size + 1) ⟨nu, ty, un, nm, ei, en, d, ⟨cf, cs, cm, cb, ck, cq, cp⟩, y0, y1, y2, y3, y4, y5, y6, y7, y8, st, v9, v11, on, sm⟩ noSn (.slice PA pn pc) (.slice none 0 0) rfl rfl rfl hR12.res ?_; intro w13 hx13 hg13; refine Hid.out ?_))
  refine Lib.hid ?_
  have hb13 := hR12.bl.grown hg13 hR12.bl.size (fun k hk => by injection hk; omega)
  have hp13 := psl_far hR12.pts hR12.res ⟨_, _, _, rfl⟩ hg13
  clear hR12 hg13
  go_wp2_with fail
  refine out2 Try.results111 rfl rfl rfl hx13 ⟨PA, pn, pc, ?_, ?_, hb13⟩
  · rw [HL.out, ← HV9.out, ← HV11.out]; rfl
  · rw [HL.out]; exact hp13
end Go.Proofs.Ytafoaonkjcfbaaa.Ua
