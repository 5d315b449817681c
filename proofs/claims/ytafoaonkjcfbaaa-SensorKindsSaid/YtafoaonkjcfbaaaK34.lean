/- Walks: the program's sensor records: flags, numbers, what analog records have. Walks: the program's sensor records: what analog records have. -/
import Derived.Test.YtafoaonkjcfbaaaK18
import Derived.Test.YtafoaonkjcfbaaaK33
import Derived.Lib.AppendStr
namespace Go.Proofs.Ytafoaonkjcfbaaa.Tb
open Go.RowKit Go.Proofs.Ytafoaonkjcfbaaa.Mem Go.Proofs.Ytafoaonkjcfbaaa.F2p Go.Proofs.Ytafoaonkjcfbaaa.C4l Go.Proofs.Ytafoaonkjcfbaaa.Ta
set_option maxRecDepth 100000
set_option maxHeartbeats 1000000

theorem own_block {base g : Nat} {w : World} {cs : Array Value} {l : List UInt8} (h : w.heap[g]? = some (.cells cs 5 (0, 0))) (hc : cs.toList = bvs l) (hb : base ≤ g) (hl : l.length ≤ maxLen) :
    Mem.Own base w (.slice (some ⟨g, 0, none⟩) l.length l.length) l := by
  have hs : cs.size = l.length := by rw [← Array.length_toList, hc, len_bvs]
  exact ⟨by rw [len_bvs, Nat.mul_one], .inr ⟨g, l.length, cs, rfl, hb, h, Nat.le_refl _, hl, by rw [hs, Nat.mul_one], by rw [hc, Nat.mul_one, ← len_bvs, List.take_length]⟩⟩
theorem appnum_p (base : Nat) (u : Value) (l : List UInt8) (v : Nat) (w : World) (hown : Mem.Own base w u l) (hb : base ≤ w.heap.size) (hl : l.length ≤ 1000) :
    Calls Try.prog 63 #[u, .int .u16 (v : Int)] w fun e w' => ∃ u', e = .returned u' ∧ Mem.Own base w' u' (l ++ lit v 2) ∧ Below base w w' := by
  obtain ⟨i0, hi, hz0, hz1, hz2⟩ := info_parts info5
  go_enter Try.func63, Try.ntmps63
  go_wp2_with (at_builtin; go_loud (refine wpList_append_rd _ rfl (.tmp 5) (.tmp 11) _ rfl base 5 i0 _ 1 Try.underlying60 hi hz0 hz1 hz2 rfl u l.length (bvs l) rfl (World.ownsRow.alloc hown _) _ _ 2 2 [.int .u8 ((v : Int) % 256), .int .u8 ((v : Int) / 256 % 256)] rfl rfl (Rd.new w _ _) (fun hh => by cases hh) (by intro u hu; simp only [List.mem_cons, List.not_mem_nil, or_false] at hu; rcases hu with rfl | rfl <;> rfl) (by unfold maxLen; omega) (by omega) (by simp; omega) ?_); intro v' w1 hown1 hg1)
  have hbel1 : Below base w w1 := below_grown ((Below.refl _ _).alloc hb _) (World.ownsRow.alloc hown _) hg1 (by simp; omega)
  go_ret
  refine ⟨_, rfl, own_of hown1 (by simp [F2p.lit]) ?_, hbel1⟩
  rw [bvs_app]
  congr 1
  show _ = [bv (UInt8.ofNat (v % 256)), bv (UInt8.ofNat (v / 256 % 256))]
  rw [← bv_nat (Nat.mod_lt _ (by decide)), ← bv_nat (Nat.mod_lt _ (by decide))]
  rfl
theorem flags_p (s : Sn) (V : Value) (w : World) (hw : wid s.sm = true) : Calls Try.prog 62 #[.agg (cells s V)] w fun e w' => e = .returned (.int .u8 ((flg s.d s.on s.sm : Nat) : Int)) ∧ Below w.heap.size w w' := by
  unfold cells
  obtain ⟨nu, ty, un, nm, ei, en, d, ⟨f, sg, m, b, k1, k2, p⟩, mx, r0, r1, r2, r3, r4, r5, hl, hu, st, av, dv, on, sm⟩ := s
  dsimp only at hw ⊢
  have hb : ∀ o, Below w.heap.size w (w.alloc o) := fun o => (Below.refl _ _).alloc (Nat.le_refl _) o
  have HB := Lib.hid hb
  unfold wid at hw
  rw [decide_eq_true_eq] at hw
  clear hb
  have o1 : ∀ x : Fin 3, bits .or .u8 ((4 * (2 * x.val + 1) : Nat) : Int) 1 = ((4 * (2 * x.val + 1) + 1 : Nat) : Int) := by decide +kernel
  rcases hw with rfl | rfl | rfl <;> cases d <;> cases on
  all_goals
    have O1 := Lib.hid o1
    clear o1
    go_enter Try.func62, Try.ntmps62
    go_wp2_with fail
    go_ret
    exact ⟨rfl, HB.out _⟩
end Go.Proofs.Ytafoaonkjcfbaaa.Tb
namespace Go.Proofs.Ytafoaonkjcfbaaa.Tb
open Go.RowKit Go.Proofs.Ytafoaonkjcfbaaa.Mem Go.Proofs.Ytafoaonkjcfbaaa.F2p Go.Proofs.Ytafoaonkjcfbaaa.C4l Go.Proofs.Ytafoaonkjcfbaaa.Ta
set_option maxRecDepth 100000
set_option maxHeartbeats 1000000

theorem Bx.grown {w w' : World} {r base n : Nat} {s : Sn} {V v : Value} {xs : List Value} (h : Bx w r s V) (ho : w.ownsRow base 5 1 v n xs) (hg : w.grownBy w' v.ownBlock) : Bx w' r s V := by
  refine (hg.block r h.lt (fun e => ?_)).trans h
  rcases ho.2 with ⟨rfl, _⟩ | ⟨g, cap, cur, rfl, _, hh, _⟩
  · cases e
  · simp only [Value.ownBlock, Option.some.injEq] at e
    subst e
    unfold Bx at h
    rw [h] at hh
    injection hh with hh
    injection hh with _ ht
    revert ht
    decide
theorem Bx.raws {w : World} {r : Nat} {s : Sn} {V : Value} (h : Bx w r s V) : Rd w.heap.size w (some ⟨r, 15, none⟩) (bvs s.raw) := fun _ => ⟨_, rfl, h.lt, fun k hk => by
  have hk6 : k < 6 := hk
  rw [show ((⟨r, 15, none⟩ : Addr).add k) = ⟨r, 15 + k, none⟩ by unfold Addr.add; split <;> simp_all]
  rw [h.c (15 + k)]
  rcases (show k = 0 ∨ k = 1 ∨ k = 2 ∨ k = 3 ∨ k = 4 ∨ k = 5 by omega) with rfl | rfl | rfl | rfl | rfl | rfl <;> rfl⟩
theorem enc_most {c : C4p.Cv} (h : C4p.vld c = true) : (C4p.enc c).length ≤ 86 := by
  rw [C4p.enc_len]
  split
  · rename_i h5
    have := (C4p.vld_tab h h5).2.1.2
    omega
  · omega
theorem anl_p (base : Nat) (u : Value) (l : List UInt8) (s : Sn) (A : Option Addr) (n cp : Nat) (w : World) (hown : Mem.Own base w u l) (hb : base ≤ w.heap.size) (hl : l.length ≤ 200) (hsl : PSl w A n cp s.c.p) (hv : C4p.vld s.c = true) :
    Calls Try.prog 64 #[u, .agg (cells s (.slice A n cp))] w fun e w' => ∃ u', e = .returned u' ∧ Mem.Own base w' u' (l ++ ext s) ∧ Below base w w' := by
  have hel := enc_most hv
  obtain ⟨nu, ty, un, nm, ei, en, d, ⟨f, sg, m, b, k1, k2, p⟩, mx, r0, r1, r2, r3, r4, r5, hl, hu, st, av, dv, on, sm⟩ := s
  dsimp only at hsl hv hel ⊢
  have hb0 : Below base w (w.alloc (.cells #[.int .u8 (nu.toNat : Int), .int .u8 (ty.toNat : Int), .int .u8 (un.toNat : Int), .string nm, .int .u8 (ei.toNat : Int), .int .u8 (en.toNat : Int), .bool d, .int .i64 f, .bool sg, .int .i64 m, .int .i64 b, .int .i64 k1, .int .i64 k2, .slice A n cp, .int .u8 (mx.toNat : Int), .int .u8 (r0.toNat : Int), .int .u8 (r1.toNat : Int), .int .u8 (r2.toNat : Int), .int .u8 (r3.toNat : Int), .int .u8 (r4.toNat : Int), .int .u8 (r5.toNat : Int), .int .u8 (hl.toNat : Int), .int .u8 (hu.toNat : Int), .int .u16 (st : Int), .int .u16 (av : Int), .int .u16 (dv : Int), .bool on, .int .i64 sm] 59)) := (Below.refl _ _).alloc hb _
  have hb0' : Below w.heap.size w (w.alloc (.cells #[.int .u8 (nu.toNat : Int), .int .u8 (ty.toNat : Int), .int .u8 (un.toNat : Int), .string nm, .int .u8 (ei.toNat : Int), .int .u8 (en.toNat : Int), .bool d, .int .i64 f, .bool sg, .int .i64 m, .int .i64 b, .int .i64 k1, .int .i64 k2, .slice A n cp, .int .u8 (mx.toNat : Int), .int .u8 (r0.toNat : Int), .int .u8 (r1.toNat : Int), .int .u8 (r2.toNat : Int), .int .u8 (r3.toNat : Int), .int .u8 (r4.toNat : Int), .int .u8 (r5.toNat : Int), .int .u8 (hl.toNat : Int), .int .u8 (hu.toNat : Int), .int .u16 (st : Int), .int .u16 (av : Int), .int .u16 (dv : Int), .bool on, .int .i64 sm] 59)) := (Below.refl _ _).alloc (Nat.le_refl _) _
  have hx0 : Bx (w.alloc (.cells #[.int .u8 (nu.toNat : Int), .int .u8 (ty.toNat : Int), .int .u8 (un.toNat : Int), .string nm, .int .u8 (ei.toNat : Int), .int .u8 (en.toNat : Int), .bool d, .int .i64 f, .bool sg, .int .i64 m, .int .i64 b, .int .i64 k1, .int .i64 k2, .slice A n cp, .int .u8 (mx.toNat : Int), .int .u8 (r0.toNat : Int), .int .u8 (r1.toNat : Int), .int .u8 (r2.toNat : Int), .int .u8 (r3.toNat : Int), .int .u8 (r4.toNat : Int), .int .u8 (r5.toNat : Int), .int .u8 (hl.toNat : Int), .int .u8 (hu.toNat : Int), .int .u16 (st : Int), .int .u16 (av : Int), .int .u16 (dv : Int), .bool on, .int .i64 sm] 59)) w.heap.size ⟨nu, ty, un, nm, ei, en, d, ⟨f, sg, m, b, k1, k2, p⟩, mx, r0, r1, r2, r3, r4, r5, hl, hu, st, av, dv, on, sm⟩ (.slice A n cp) := Bx.new
  have hs1 := hsl.step hb0'
  have ho0 := hown.below hb0' (Nat.le_refl _)
  have H1 := Lib.hid (P5.encp_p f m b k1 k2 sg A n cp p _ hs1 hv)
  unfold cells
  dsimp only
  obtain ⟨i0, hi, hz0, hz1, hz2⟩ := info_parts info5
  clear hsl hs1 hown hv
  unfold ext
  dsimp only [Sn.raw]
  generalize hE : C4p.enc ⟨f, sg, m, b, k1, k2, p⟩ = E at *
  clear hE
  go_enter Try.func64, Try.ntmps64
  go_wp2_with fail
  generalize w.alloc (.cells #[.int .u8 (nu.toNat : Int), .int .u8 (ty.toNat : Int), .int .u8 (un.toNat : Int), .string nm, .int .u8 (ei.toNat : Int), .int .u8 (en.toNat : Int), .bool d, .int .i64 f, .bool sg, .int .i64 m, .int .i64 b, .int .i64 k1, .int .i64 k2, .slice A n cp, .int .u8 (mx.toNat : Int), .int .u8 (r0.toNat : Int), .int .u8 (r1.toNat : Int), .int .u8 (r2.toNat : Int), .int .u8 (r3.toNat : Int), .int .u8 (r4.toNat : Int), .int .u8 (r5.toNat : Int), .int .u8 (hl.toNat : Int), .int .u8 (hu.toNat : Int), .int .u16 (st : Int), .int .u16 (av : Int), .int .u16 (dv : Int), .bool on, .int .i64 sm] 59) = w1 at *
  refine H1.out.mono ?_
  rintro e w2 ⟨U, rfl, hoU, hb2⟩
  obtain ⟨UA, un', uc, rfl, hsU⟩ := Sl.of_own hoU
  have hun := hsU.len
  have ho2 := ho0.below hb2 (Nat.le_refl _)
  have hx2 := hx0.below hb2
  have hbb2 := hb0.trans (hb2.mono (Nat.le_trans hb hb0.size))
  have HUN := Lib.hid hun
  clear hun hoU ho0 hx0 hb0 hb0' H1 hb2
  have hz2b := hbb2.size
  have hbs : base ≤ w2.heap.size := by omega
  go_wp2_with (at_builtin; go_loud (refine wpList_append_rd _ rfl (.tmp 13) (.tmp 14) _ rfl base 5 i0 _ 1 Try.underlying60 hi hz0 hz1 hz2 rfl u l.length (bvs l) rfl ho2 _ UA un' uc (bvs E) rfl (by rw [len_bvs, HUN.out]) hsU.row hsU.nil (bvs_one _) (by unfold maxLen; have := HUN.out; omega) (by have := HUN.out; omega) hbs ?_); intro v3 w3 ho3 hg3; have hx3 := hx2.grown ho2 hg3; have hb3 := below_grown hbb2 ho2 hg3 hbs; have hz3 := hb3.size; obtain ⟨z0, z1, z2, z3, z4, z5, z6, z7, z8, z9, z10, z11, z12, z13, z14, z15, z16, z17, z18, z19, z20, z21, z22, z23, z24, z25, z26, z27⟩ := hx3.all; refine Hid.out ?_)
  refine Lib.hid ?_
  have hbs3 : base ≤ w3.heap.size := by omega
  have ho3' := World.ownsRow.alloc ho3 (.cells #[.int .u8 (mx.toNat : Int)] 5)
  go_wp2_with (at_builtin; go_loud (refine wpList_append_rd _ rfl (.tmp 16) (.tmp 20) _ rfl base 5 i0 _ 1 Try.underlying60 hi hz0 hz1 hz2 rfl v3 (l.length + un') (bvs l ++ bvs E) rfl ho3' _ _ 1 1 [.int .u8 (mx.toNat : Int)] rfl rfl (Rd.new w3 _ _) (fun hh => by cases hh) one_int (by unfold maxLen; have := HUN.out; omega) (by have := HUN.out; omega) (by simp; omega) ?_); intro v4 w4 ho4 hg4; refine Hid.out ?_)
  refine Lib.hid ?_
  have hx4 := (hx3.alloc (.cells #[.int .u8 (mx.toNat : Int)] 5)).grown ho3' hg4
  have hb4 := below_grown (hb3.alloc (by omega) (.cells #[.int .u8 (mx.toNat : Int)] 5)) ho3' hg4 (by simp; omega)
  have hz4 := hb4.size
  clear z0 z1 z2 z3 z4 z5 z6 z7 z8 z9 z10 z11 z12 z13 z14 z15 z16 z17 z18 z19 z20 z21 z22 z23 z24 z25 z26 z27 ho3 ho3' hx3 hg4 hb3
  have hbs4 : base ≤ w4.heap.size := by omega
  obtain ⟨z0, z1, z2, z3, z4, z5, z6, z7, z8, z9, z10, z11, z12, z13, z14, z15, z16, z17, z18, z19, z20, z21, z22, z23, z24, z25, z26, z27⟩ := hx4.all
  go_wp2_with (at_builtin; go_loud (refine wpList_append_rd _ rfl (.tmp 22) (.tmp 25) _ rfl base 5 i0 _ 1 Try.underlying60 hi hz0 hz1 hz2 rfl v4 (l.length + un' + 1) (bvs l ++ bvs E ++ [.int .u8 (mx.toNat : Int)]) rfl ho4 _ (some ⟨w.heap.size, 15, none⟩) 6 6 (bvs [r0, r1, r2, r3, r4, r5]) rfl rfl hx4.raws (fun hh => by cases hh) (bvs_one _) (by unfold maxLen; have := HUN.out; omega) (by have := HUN.out; omega) hbs4 ?_); intro v5 w5 ho5 hg5; refine Hid.out ?_)
  refine Lib.hid ?_
  have hx5 := hx4.grown ho4 hg5
  have hb5 := below_grown hb4 ho4 hg5 hbs4
  have hz5 := hb5.size
  clear z0 z1 z2 z3 z4 z5 z6 z7 z8 z9 z10 z11 z12 z13 z14 z15 z16 z17 z18 z19 z20 z21 z22 z23 z24 z25 z26 z27 hx4 hg5 hb4
  have hbs5 : base ≤ w5.heap.size := by omega
  have ho5' := World.ownsRow.alloc ho5 (.cells #[.int .u8 (hl.toNat : Int), .int .u8 (hu.toNat : Int)] 5)
  obtain ⟨z0, z1, z2, z3, z4, z5, z6, z7, z8, z9, z10, z11, z12, z13, z14, z15, z16, z17, z18, z19, z20, z21, z22, z23, z24, z25, z26, z27⟩ := hx5.all
  go_wp2_with (at_builtin; go_loud (refine wpList_append_rd _ rfl (.tmp 27) (.tmp 32) _ rfl base 5 i0 _ 1 Try.underlying60 hi hz0 hz1 hz2 rfl v5 (l.length + un' + 1 + 6) (bvs l ++ bvs E ++ [.int .u8 (mx.toNat : Int)] ++ bvs [r0, r1, r2, r3, r4, r5]) rfl ho5' _ _ 2 2 [.int .u8 (hl.toNat : Int), .int .u8 (hu.toNat : Int)] rfl rfl (Rd.new w5 _ _) (fun hh => by cases hh) (by intro u hu; simp only [List.mem_cons, List.not_mem_nil, or_false] at hu; (first | (rcases hu with rfl | rfl <;> rfl) | (subst hu; rfl))) (by unfold maxLen; have := HUN.out; omega) (by have := HUN.out; omega) (by simp; omega) ?_); intro v6 w6 ho6 hg6)
  have hb6 := below_grown (hb5.alloc (by omega) (.cells #[.int .u8 (hl.toNat : Int), .int .u8 (hu.toNat : Int)] 5)) ho5' hg6 (by simp; omega)
  go_ret
  refine ⟨_, rfl, own_of ho6 ?_ ?_, hb6⟩
  · have := HUN.out
    simp only [List.length_append, List.length_cons, List.length_nil]
    omega
  · simp [bvs, bv]
end Go.Proofs.Ytafoaonkjcfbaaa.Tb
