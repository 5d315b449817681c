/- Walks: the program's sensor records: Encode. -/
import Derived.Test.YtafoaonkjcfbaaaK34
import Derived.Test.YtafoaonkjcfbaaaK37
import Derived.Deep.RegionHeld3
namespace Go.Proofs.Ytafoaonkjcfbaaa.Tb
open Go.RowKit Go.Proofs.Ytafoaonkjcfbaaa.Mem Go.Proofs.Ytafoaonkjcfbaaa.F2p Go.Proofs.Ytafoaonkjcfbaaa.C4l Go.Proofs.Ytafoaonkjcfbaaa.Ta
set_option maxRecDepth 100000
set_option maxHeartbeats 1000000

theorem exec_load_bx {o : Oper} {a : Act} {w : World} {r : Nat} {s : Sn} {V : Value} (x : Operand) (ho : o.op = .load 59 x) (hx : a.eval x = .pointer (some ⟨r, 0, none⟩)) (hb : Bx w r s V) : (execOp a.eval o).run Try.prog w = .ok (.value (.agg (cells s V))) w := by
  unfold execOp
  simp only [ho, hx, Instr.loadAt, Instr.sureAddr, Sem.run_bind, Sem.run_pure, Result.andThen_ok, run_loadVar_row w r _ _ _ _ _ hb Try.underlying59 rfl (by kernel_rfl)]
theorem encn_p (s : Sn) (A : Option Addr) (n cp : Nat) (w : World) (hsl : PSl w A n cp s.c.p) (hnm : s.nm.size ≤ maxLen) (hv : vs s = false) :
    Calls Try.prog 29 #[.agg (cells s (.slice A n cp))] w fun e w' => e = .returned (.tuple #[.slice none 0 0, .int .i64 1]) ∧ Below w.heap.size w w' := by
  have hb0 : Below w.heap.size w (w.alloc (.cells (cells s (.slice A n cp)) 59)) := (Below.refl _ _).alloc (Nat.le_refl _) _
  have hx0 : Bx (w.alloc (.cells (cells s (.slice A n cp)) 59)) w.heap.size s (.slice A n cp) := heap_alloc_new w _
  have HV := valid_p s A n cp _ (hsl.step hb0) hnm
  rw [hv] at HV
  replace HV := Lib.hid HV
  clear hsl hnm hv
  obtain ⟨nu, ty, un, nm, ei, en, d, ⟨f, sg, m, b, k1, k2, p⟩, mx, r0, r1, r2, r3, r4, r5, hl, hu, st, av, dv, on, sm⟩ := s
  rw [show cells ⟨nu, ty, un, nm, ei, en, d, ⟨f, sg, m, b, k1, k2, p⟩, mx, r0, r1, r2, r3, r4, r5, hl, hu, st, av, dv, on, sm⟩ (.slice A n cp) = #[.int .u8 (nu.toNat : Int), .int .u8 (ty.toNat : Int), .int .u8 (un.toNat : Int), .string nm, .int .u8 (ei.toNat : Int), .int .u8 (en.toNat : Int), .bool d, .int .i64 f, .bool sg, .int .i64 m, .int .i64 b, .int .i64 k1, .int .i64 k2, .slice A n cp, .int .u8 (mx.toNat : Int), .int .u8 (r0.toNat : Int), .int .u8 (r1.toNat : Int), .int .u8 (r2.toNat : Int), .int .u8 (r3.toNat : Int), .int .u8 (r4.toNat : Int), .int .u8 (r5.toNat : Int), .int .u8 (hl.toNat : Int), .int .u8 (hu.toNat : Int), .int .u16 (st : Int), .int .u16 (av : Int), .int .u16 (dv : Int), .bool on, .int .i64 sm] from rfl] at hb0 ⊢
  go_enter Try.func29, Try.ntmps29
  go_wp2_with (refine wpList_load_bx rfl (.tmp 1) rfl _ _ _ rfl hx0 ?_)
  refine HV.out.mono ?_
  rintro e w2 ⟨rfl, hb2⟩
  go_wp2_with fail
  go_ret2
  exact ⟨rfl, hb0.trans (hb2.mono hb0.size)⟩
theorem encp_p (s : Sn) (A : Option Addr) (n cp : Nat) (w : World) (hsl : PSl w A n cp s.c.p) (hv : vs s = true) :
    Calls Try.prog 29 #[.agg (cells s (.slice A n cp))] w fun e w' => ∃ u, e = .returned (.tuple #[u, .int .i64 0]) ∧ Mem.Own w.heap.size w' u (encS s) ∧ Below w.heap.size w w' := by
  have hb0 : Below w.heap.size w (w.alloc (.cells (cells s (.slice A n cp)) 59)) := (Below.refl _ _).alloc (Nat.le_refl _) _
  have hx0 : Bx (w.alloc (.cells (cells s (.slice A n cp)) 59)) w.heap.size s (.slice A n cp) := heap_alloc_new w _
  have hv2 := hv
  unfold vs okn at hv2
  simp only [Bool.and_eq_true, decide_eq_true_eq, bl_len] at hv2
  obtain ⟨⟨⟨hn1, hn16⟩, -⟩, hw, hda⟩ := hv2
  have HVA := valid_p s A n cp _ (hsl.step hb0) (by unfold maxLen; omega)
  rw [hv] at HVA
  replace HVA := Lib.hid HVA
  have HFL := Lib.hid fun (u : World) => flags_p s (.slice A n cp) u hw
  have HAN := Lib.hid fun (hd : s.d = false) (base : Nat) (u : Value) (l : List UInt8) (W : World) (hown : Mem.Own base W u l) (hb : base ≤ W.heap.size) (hl : l.length ≤ 200) (hs : PSl W A n cp s.c.p) => anl_p base u l s A n cp W hown hb hl hs (by rw [hd] at hda; unfold ana at hda; simp only [Bool.false_eq_true, if_false, Bool.and_eq_true] at hda; exact hda.1)
  have hmid : s.d = true → mid s = lit s.st 2 := fun h => by unfold mid; rw [if_pos h]
  have hmid2 : s.d = false → mid s = ext s := fun h => by unfold mid; rw [if_neg (by rw [h]; simp)]
  have hflt : flg s.d s.on s.sm < 256 := by
    unfold wid at hw
    rw [decide_eq_true_eq] at hw
    unfold flg
    rcases hw with h | h | h <;> rw [h] <;> split <;> split <;> simp
  have hHD : head s = [1, s.nu, s.ty, s.un, s.ei, s.en, UInt8.ofNat (flg s.d s.on s.sm), UInt8.ofNat s.nm.size] := rfl
  have hext : (s.d = false → (ext s).length ≤ 100) := fun h => by
    rw [h] at hda; unfold ana at hda; simp only [Bool.false_eq_true, if_false, Bool.and_eq_true] at hda
    have := enc_most hda.1
    unfold ext
    simp only [List.length_append, List.length_cons, List.length_nil, Sn.raw]
    omega
  unfold encS pay
  generalize hFG : flg s.d s.on s.sm = F at *
  have HSL := Lib.hid (hsl.step hb0)
  have HM := Lib.hid hmid; have HM2 := Lib.hid hmid2; have HE := Lib.hid hext
  generalize head s = HS at *
  generalize mid s = MD at *
  generalize ext s = EX at *
  clear hmid hmid2 hext hda hw hv hsl hFG
  obtain ⟨nu, ty, un, nm, ei, en, d, ⟨f, sg, m, b, k1, k2, p⟩, mx, r0, r1, r2, r3, r4, r5, hl, hu, st, av, dv, on, sm⟩ := s
  dsimp only at hn1 hn16 hHD hflt HFL HAN HM HM2 HE HSL hx0 ⊢
  have HHD := Lib.hid hHD
  clear hHD
  rw [show cells ⟨nu, ty, un, nm, ei, en, d, ⟨f, sg, m, b, k1, k2, p⟩, mx, r0, r1, r2, r3, r4, r5, hl, hu, st, av, dv, on, sm⟩ (.slice A n cp) = #[.int .u8 (nu.toNat : Int), .int .u8 (ty.toNat : Int), .int .u8 (un.toNat : Int), .string nm, .int .u8 (ei.toNat : Int), .int .u8 (en.toNat : Int), .bool d, .int .i64 f, .bool sg, .int .i64 m, .int .i64 b, .int .i64 k1, .int .i64 k2, .slice A n cp, .int .u8 (mx.toNat : Int), .int .u8 (r0.toNat : Int), .int .u8 (r1.toNat : Int), .int .u8 (r2.toNat : Int), .int .u8 (r3.toNat : Int), .int .u8 (r4.toNat : Int), .int .u8 (r5.toNat : Int), .int .u8 (hl.toNat : Int), .int .u8 (hu.toNat : Int), .int .u16 (st : Int), .int .u16 (av : Int), .int .u16 (dv : Int), .bool on, .int .i64 sm] from rfl] at hb0 ⊢
  obtain ⟨i0, hi, hz0, hz1, hz2⟩ := info_parts info5
  go_enter Try.func29, Try.ntmps29
  go_wp2_with (refine wpList_load_bx rfl (.tmp 1) rfl _ _ _ rfl hx0 ?_)
  refine HVA.out.mono ?_
  rintro e w2 ⟨rfl, hb2⟩
  have HV := (hx0.below hb2)
  have HB := hb0.trans (hb2.mono hb0.size)
  have HSL2 := Lib.hid (HSL.out.step hb2)
  clear hx0 hb0 hb2 HSL HVA
  go_wp2_with fail
  generalize w2 = wz at *
  have HV := (show Bx wz.drew _ _ _ from HV)
  have HB := below_drew HB
  have HP : PSl wz.drew A n cp p := ⟨HSL2.out.len, HSL2.out.row, HSL2.out.cap, HSL2.out.max, HSL2.out.nil⟩
  clear HSL2
  have hsz8 : IntKind.u8.wrap (nm.size : Int) = (nm.size : Int) := IntWalk.u8_in _ ⟨by omega, by omega⟩
  refine wp_region_held_drew (S := (fun W => Bx W w.heap.size ⟨nu, ty, un, nm, ei, en, d, ⟨f, sg, m, b, k1, k2, p⟩, mx, r0, r1, r2, r3, r4, r5, hl, hu, st, av, dv, on, sm⟩ (.slice A n cp))) (by kernel_rfl) ?_ (fun hHeld => ?_)
  · (try dsimp only); exact HV
  refine wpAnyH_take (i := 0) (oi := _) (v := ?vq1_0) rfl (by kernel_rfl) (by kernel_rfl) (by kernel_rfl) (fun _ _ _ h => h) (Or.inl ⟨rfl, ?yq1_0⟩) (by assumption) ?_
  case yq1_0 => intro w hSw; (try dsimp only at hSw); (obtain ⟨z0, z1, z2, z3, z4, z5, z6, z7, z8, z9, z10, z11, z12, z13, z14, z15, z16, z17, z18, z19, z20, z21, z22, z23, z24, z25, z26, z27⟩ := Bx.all hSw); clear hSw; go_simp; (try with_reducible rfl)
  (try simp only [Act.put, List.getElem_toArray, List.getElem_cons_zero, List.setIfInBounds_toArray, List.set_cons_zero, List.set_cons_succ])
  refine wpAnyH_take (i := 1) (oi := _) (v := ?vq1_1) rfl (by kernel_rfl) (by kernel_rfl) (by kernel_rfl) (fun _ _ _ h => h) (Or.inl ⟨rfl, ?yq1_1⟩) (by assumption) ?_
  case yq1_1 => intro w hSw; (try dsimp only at hSw); (obtain ⟨z0, z1, z2, z3, z4, z5, z6, z7, z8, z9, z10, z11, z12, z13, z14, z15, z16, z17, z18, z19, z20, z21, z22, z23, z24, z25, z26, z27⟩ := Bx.all hSw); clear hSw; go_simp; (try with_reducible rfl)
  (try simp only [Act.put, List.getElem_toArray, List.getElem_cons_succ, List.getElem_cons_zero, List.setIfInBounds_toArray, List.set_cons_zero, List.set_cons_succ])
  refine wpAnyH_take (i := 2) (oi := _) (v := ?vq1_2) rfl (by kernel_rfl) (by kernel_rfl) (by kernel_rfl) (fun _ _ _ h => h) (Or.inl ⟨rfl, ?yq1_2⟩) (by assumption) ?_
  case yq1_2 => intro w hSw; (try dsimp only at hSw); (obtain ⟨z0, z1, z2, z3, z4, z5, z6, z7, z8, z9, z10, z11, z12, z13, z14, z15, z16, z17, z18, z19, z20, z21, z22, z23, z24, z25, z26, z27⟩ := Bx.all hSw); clear hSw; go_simp; (try with_reducible rfl)
  (try simp only [Act.put, List.getElem_toArray, List.getElem_cons_succ, List.getElem_cons_zero, List.setIfInBounds_toArray, List.set_cons_zero, List.set_cons_succ])
  refine wpAnyH_take (i := 3) (oi := _) (v := ?vq1_3) rfl (by kernel_rfl) (by kernel_rfl) (by kernel_rfl) (fun _ _ _ h => h) (Or.inl ⟨rfl, ?yq1_3⟩) (by assumption) ?_
  case yq1_3 => intro w hSw; (try dsimp only at hSw); (obtain ⟨z0, z1, z2, z3, z4, z5, z6, z7, z8, z9, z10, z11, z12, z13, z14, z15, z16, z17, z18, z19, z20, z21, z22, z23, z24, z25, z26, z27⟩ := Bx.all hSw); clear hSw; go_simp; (try with_reducible rfl)
  (try simp only [Act.put, List.getElem_toArray, List.getElem_cons_succ, List.getElem_cons_zero, List.setIfInBounds_toArray, List.set_cons_zero, List.set_cons_succ])
  refine wpAnyH_take (i := 4) (oi := _) (v := ?vq1_4) rfl (by kernel_rfl) (by kernel_rfl) (by kernel_rfl) (fun _ _ _ h => h) (Or.inl ⟨rfl, ?yq1_4⟩) (by assumption) ?_
  case yq1_4 => intro w hSw; (try dsimp only at hSw); (obtain ⟨z0, z1, z2, z3, z4, z5, z6, z7, z8, z9, z10, z11, z12, z13, z14, z15, z16, z17, z18, z19, z20, z21, z22, z23, z24, z25, z26, z27⟩ := Bx.all hSw); clear hSw; go_simp; (try with_reducible rfl)
  (try simp only [Act.put, List.getElem_toArray, List.getElem_cons_succ, List.getElem_cons_zero, List.setIfInBounds_toArray, List.set_cons_zero, List.set_cons_succ])
  refine wpAnyH_take (i := 5) (oi := _) (v := ?vq1_5) rfl (by kernel_rfl) (by kernel_rfl) (by kernel_rfl) (fun _ _ _ h => h) (Or.inl ⟨rfl, ?yq1_5⟩) (by assumption) ?_
  case yq1_5 => intro w hSw; (try dsimp only at hSw); (obtain ⟨z0, z1, z2, z3, z4, z5, z6, z7, z8, z9, z10, z11, z12, z13, z14, z15, z16, z17, z18, z19, z20, z21, z22, z23, z24, z25, z26, z27⟩ := Bx.all hSw); clear hSw; go_simp; (try with_reducible rfl)
  (try simp only [Act.put, List.getElem_toArray, List.getElem_cons_succ, List.getElem_cons_zero, List.setIfInBounds_toArray, List.set_cons_zero, List.set_cons_succ])
  refine wpAnyH_take (i := 6) (oi := _) (v := ?vq1_6) rfl (by kernel_rfl) (by kernel_rfl) (by kernel_rfl) (fun _ _ _ h => h) (Or.inl ⟨rfl, ?yq1_6⟩) (by assumption) ?_
  case yq1_6 => intro w hSw; (try dsimp only at hSw); (obtain ⟨z0, z1, z2, z3, z4, z5, z6, z7, z8, z9, z10, z11, z12, z13, z14, z15, z16, z17, z18, z19, z20, z21, z22, z23, z24, z25, z26, z27⟩ := Bx.all hSw); clear hSw; go_simp; (try with_reducible rfl)
  (try simp only [Act.put, List.getElem_toArray, List.getElem_cons_succ, List.getElem_cons_zero, List.setIfInBounds_toArray, List.set_cons_zero, List.set_cons_succ])
  refine wpAnyH_take (i := 7) (oi := _) (v := ?vq1_7) rfl (by kernel_rfl) (by kernel_rfl) (by kernel_rfl) (fun _ _ _ h => h) (Or.inl ⟨rfl, ?yq1_7⟩) (by assumption) ?_
  case yq1_7 => intro w hSw; (try dsimp only at hSw); (obtain ⟨z0, z1, z2, z3, z4, z5, z6, z7, z8, z9, z10, z11, z12, z13, z14, z15, z16, z17, z18, z19, z20, z21, z22, z23, z24, z25, z26, z27⟩ := Bx.all hSw); clear hSw; go_simp; (try with_reducible rfl)
  (try simp only [Act.put, List.getElem_toArray, List.getElem_cons_succ, List.getElem_cons_zero, List.setIfInBounds_toArray, List.set_cons_zero, List.set_cons_succ])
  refine wpAnyH_take (i := 8) (oi := _) (v := ?vq1_8) rfl (by kernel_rfl) (by kernel_rfl) (by kernel_rfl) (fun _ _ _ h => h) (Or.inl ⟨rfl, ?yq1_8⟩) (by assumption) ?_
  case yq1_8 => intro w hSw; (try dsimp only at hSw); (obtain ⟨z0, z1, z2, z3, z4, z5, z6, z7, z8, z9, z10, z11, z12, z13, z14, z15, z16, z17, z18, z19, z20, z21, z22, z23, z24, z25, z26, z27⟩ := Bx.all hSw); clear hSw; go_simp; (try with_reducible rfl)
  (try simp only [Act.put, List.getElem_toArray, List.getElem_cons_succ, List.getElem_cons_zero, List.setIfInBounds_toArray, List.set_cons_zero, List.set_cons_succ])
  refine wpAnyH_take (i := 9) (oi := _) (v := ?vq1_9) rfl (by kernel_rfl) (by kernel_rfl) (by kernel_rfl) (fun _ _ _ h => h) (Or.inl ⟨rfl, ?yq1_9⟩) (by assumption) ?_
  case yq1_9 => intro w hSw; (try dsimp only at hSw); (obtain ⟨z0, z1, z2, z3, z4, z5, z6, z7, z8, z9, z10, z11, z12, z13, z14, z15, z16, z17, z18, z19, z20, z21, z22, z23, z24, z25, z26, z27⟩ := Bx.all hSw); clear hSw; go_simp; (try with_reducible rfl)
  (try simp only [Act.put, List.getElem_toArray, List.getElem_cons_succ, List.getElem_cons_zero, List.setIfInBounds_toArray, List.set_cons_zero, List.set_cons_succ])
  refine wpAnyH_take (i := 10) (oi := _) (v := ?vq1_10) rfl (by kernel_rfl) (by kernel_rfl) (by kernel_rfl) (fun _ _ _ h => h) (Or.inl ⟨rfl, ?yq1_10⟩) (by assumption) ?_
  case yq1_10 => intro w hSw; (try dsimp only at hSw); (obtain ⟨z0, z1, z2, z3, z4, z5, z6, z7, z8, z9, z10, z11, z12, z13, z14, z15, z16, z17, z18, z19, z20, z21, z22, z23, z24, z25, z26, z27⟩ := Bx.all hSw); clear hSw; go_simp; (try with_reducible rfl)
  (try simp only [Act.put, List.getElem_toArray, List.getElem_cons_succ, List.getElem_cons_zero, List.setIfInBounds_toArray, List.set_cons_zero, List.set_cons_succ])
  refine wpAnyH_take (i := 11) (oi := _) (v := ?vq1_11) rfl (by kernel_rfl) (by kernel_rfl) (by kernel_rfl) (fun _ _ _ h => h) (Or.inl ⟨rfl, ?yq1_11⟩) (by assumption) ?_
  case yq1_11 => intro w hSw; (try dsimp only at hSw); (obtain ⟨z0, z1, z2, z3, z4, z5, z6, z7, z8, z9, z10, z11, z12, z13, z14, z15, z16, z17, z18, z19, z20, z21, z22, z23, z24, z25, z26, z27⟩ := Bx.all hSw); clear hSw; go_simp; (try with_reducible rfl)
  (try simp only [Act.put, List.getElem_toArray, List.getElem_cons_succ, List.getElem_cons_zero, List.setIfInBounds_toArray, List.set_cons_zero, List.set_cons_succ])
  refine wpAnyH_take (i := 12) (oi := _) (v := ?vq1_12) rfl (by kernel_rfl) (by kernel_rfl) (by kernel_rfl) (fun _ _ _ h => h) (Or.inl ⟨rfl, ?yq1_12⟩) (by assumption) ?_
  case yq1_12 => intro w hSw; (try dsimp only at hSw); ((refine exec_load_bx (.tmp 1) ?_ ?_ hSw) <;> rfl)
  (try simp only [Act.put, List.getElem_toArray, List.getElem_cons_succ, List.getElem_cons_zero, List.setIfInBounds_toArray, List.set_cons_zero, List.set_cons_succ])
  refine wpAnyH_take (i := 14) (oi := _) (v := ?vq1_14) rfl (by kernel_rfl) (by kernel_rfl) (by kernel_rfl) (fun _ _ _ h => h) (Or.inl ⟨rfl, ?yq1_14⟩) (by assumption) ?_
  case yq1_14 => intro w hSw; (try dsimp only at hSw); (obtain ⟨z0, z1, z2, z3, z4, z5, z6, z7, z8, z9, z10, z11, z12, z13, z14, z15, z16, z17, z18, z19, z20, z21, z22, z23, z24, z25, z26, z27⟩ := Bx.all hSw); clear hSw; go_simp; (try with_reducible rfl)
  (try simp only [Act.put, List.getElem_toArray, List.getElem_cons_succ, List.getElem_cons_zero, List.setIfInBounds_toArray, List.set_cons_zero, List.set_cons_succ])
  refine wpAnyH_take (i := 15) (oi := _) (v := ?vq1_15) rfl (by kernel_rfl) (by kernel_rfl) (by kernel_rfl) (fun _ _ _ h => h) (Or.inl ⟨rfl, ?yq1_15⟩) (by assumption) ?_
  case yq1_15 => intro w hSw; (try dsimp only at hSw); (obtain ⟨z0, z1, z2, z3, z4, z5, z6, z7, z8, z9, z10, z11, z12, z13, z14, z15, z16, z17, z18, z19, z20, z21, z22, z23, z24, z25, z26, z27⟩ := Bx.all hSw); clear hSw; go_simp; (try with_reducible rfl)
  (try simp only [Act.put, List.getElem_toArray, List.getElem_cons_succ, List.getElem_cons_zero, List.setIfInBounds_toArray, List.set_cons_zero, List.set_cons_succ])
  refine wpAnyH_take (i := 16) (oi := _) (v := ?vq1_16) rfl (by kernel_rfl) (by kernel_rfl) (by kernel_rfl) (fun _ _ _ h => h) (Or.inl ⟨rfl, ?yq1_16⟩) (by assumption) ?_
  case yq1_16 => intro w hSw; (try dsimp only at hSw); (obtain ⟨z0, z1, z2, z3, z4, z5, z6, z7, z8, z9, z10, z11, z12, z13, z14, z15, z16, z17, z18, z19, z20, z21, z22, z23, z24, z25, z26, z27⟩ := Bx.all hSw); clear hSw; go_simp; (try with_reducible rfl)
  (try simp only [Act.put, List.getElem_toArray, List.getElem_cons_succ, List.getElem_cons_zero, List.setIfInBounds_toArray, List.set_cons_zero, List.set_cons_succ])
  refine wpAnyH_take (i := 17) (oi := _) (v := ?vq1_17) rfl (by kernel_rfl) (by kernel_rfl) (by kernel_rfl) (fun _ _ _ h => h) (Or.inl ⟨rfl, ?yq1_17⟩) (by assumption) ?_
  case yq1_17 => intro w hSw; (try dsimp only at hSw); (obtain ⟨z0, z1, z2, z3, z4, z5, z6, z7, z8, z9, z10, z11, z12, z13, z14, z15, z16, z17, z18, z19, z20, z21, z22, z23, z24, z25, z26, z27⟩ := Bx.all hSw); clear hSw; go_simp; (try with_reducible rfl)
  (try simp only [Act.put, List.getElem_toArray, List.getElem_cons_succ, List.getElem_cons_zero, List.setIfInBounds_toArray, List.set_cons_zero, List.set_cons_succ])
  refine wpAnyH_ready (rs := [13]) (by kernel_rfl) (by simp) ?_
  refine AllReadyH.cons (o := _) rfl (fun K hK => ?_) AllReadyH.nil
  go_simp
  go_at_call 62; refine (HFL.out _).mono ?_; rintro e w2 ⟨rfl, hb2⟩; have HB := HB.trans (hb2.mono HB.size); have HV := HV.below hb2; have HP := HP.step hb2
  refine hK.out _ _ ?_ (fun hHeld => ?_)
  · (try dsimp only); exact HV
  clear hK K
  (try simp only [Act.put, List.getElem_toArray, List.getElem_cons_succ, List.getElem_cons_zero, List.setIfInBounds_toArray, List.set_cons_zero, List.set_cons_succ])
  refine wpAnyH_ready (rs := [18]) (by kernel_rfl) (by simp) ?_
  refine AllReadyH.cons (o := _) rfl (fun K hK => ?_) AllReadyH.nil
  go_simp
  refine hK.out _ _ ?_ (fun hHeld => ?_)
  · (try dsimp only); exact HV.alloc _
  clear hK K
  (try simp only [Act.put, List.getElem_toArray, List.getElem_cons_succ, List.getElem_cons_zero, List.setIfInBounds_toArray, List.set_cons_zero, List.set_cons_succ])
  refine wpAnyH_take (i := 19) (oi := _) (v := ?vq1_19) rfl (by kernel_rfl) (by kernel_rfl) (by kernel_rfl) (fun _ _ _ h => h) (Or.inl ⟨rfl, ?yq1_19⟩) (by assumption) ?_
  case yq1_19 => intro w hSw; (try dsimp only at hSw); (obtain ⟨z0, z1, z2, z3, z4, z5, z6, z7, z8, z9, z10, z11, z12, z13, z14, z15, z16, z17, z18, z19, z20, z21, z22, z23, z24, z25, z26, z27⟩ := Bx.all hSw); clear hSw; go_simp; (try with_reducible rfl)
  (try simp only [Act.put, List.getElem_toArray, List.getElem_cons_succ, List.getElem_cons_zero, List.setIfInBounds_toArray, List.set_cons_zero, List.set_cons_succ])
  refine wpAnyH_done (by kernel_rfl) ?_ _
  refine Hid.out ?_
  refine Lib.hid ?_
  have hb3 := (Below.refl w2.heap.size w2).alloc (Nat.le_refl _) (.cells #[.int .u8 1, .int .u8 (nu.toNat : Int), .int .u8 (ty.toNat : Int), .int .u8 (un.toNat : Int), .int .u8 (ei.toNat : Int), .int .u8 (en.toNat : Int), .int .u8 ((F : Nat) : Int), .int .u8 (nm.size : Int)] 5)
  have ho3 : Mem.Own w2.heap.size (w2.alloc (.cells #[.int .u8 1, .int .u8 (nu.toNat : Int), .int .u8 (ty.toNat : Int), .int .u8 (un.toNat : Int), .int .u8 (ei.toNat : Int), .int .u8 (en.toNat : Int), .int .u8 ((F : Nat) : Int), .int .u8 (nm.size : Int)] 5)) (.slice (some ⟨w2.heap.size, 0, none⟩) 8 8) HS := by
    rw [HHD.out]
    refine own_block (heap_alloc_new w2 _) ?_ (Nat.le_refl _) (by unfold maxLen; simp)
    simp [bvs, bv, Nat.mod_eq_of_lt hflt, Nat.mod_eq_of_lt (show nm.size < 256 by omega)]
  have hslen : HS.length = 8 := by rw [HHD.out]; rfl
  generalize w2.alloc (.cells #[.int .u8 1, .int .u8 (nu.toNat : Int), .int .u8 (ty.toNat : Int), .int .u8 (un.toNat : Int), .int .u8 (ei.toNat : Int), .int .u8 (en.toNat : Int), .int .u8 ((F : Nat) : Int), .int .u8 (nm.size : Int)] 5) = w3 at *
  have hx3 := HV.below hb3
  obtain ⟨z0, z1, z2, z3, z4, z5, z6, z7, z8, z9, z10, z11, z12, z13, z14, z15, z16, z17, z18, z19, z20, z21, z22, z23, z24, z25, z26, z27⟩ := hx3.all
  have hz3 := hb3.size
  clear HHD hflt hsz8
  go_wp2_with (at_builtin; go_loud (refine Lib.wpList_append_own_string _ rfl (.tmp 27) (.tmp 29) 60 9 rfl w2.heap.size 5 i0 Try.underlying60 Try.underlying9 hi hz0 hz1 hz2 _ 8 (bvs HS) rfl (by have := ho3; unfold Mem.Own at this; rw [hslen] at this; exact this) nm rfl (by unfold maxLen; omega) (by omega) hz3 ?_); intro v4 w4 ho4 hg4 _; refine Hid.out ?_)
  refine Lib.hid ?_
  have ho4' : Mem.Own w2.heap.size w4 v4 (HS ++ bl nm) := own_of ho4 (by rw [List.length_append, hslen, bl_len]) (by rw [bvs_app]; rfl)
  have hb4 := below_grown hb3 ho3 hg4 hz3
  have hl4 : (HS ++ bl nm).length ≤ 24 := by rw [List.length_append, hslen, bl_len]; omega
  have hz4 := hb4.size
  have hx4 := HV.below hb4
  clear z0 z1 z2 z3 z4 z5 z6 z7 z8 z9 z10 z11 z12 z13 z14 z15 z16 z17 z18 z19 z20 z21 z22 z23 z24 z25 z26 z27 ho4 hx3 hg4 ho3 hz3 hslen hb3
  generalize hqL4 : HS ++ bl nm = L4 at *
  have HQL4 := Lib.hid hqL4
  clear hqL4
  obtain ⟨z0, z1, z2, z3, z4, z5, z6, z7, z8, z9, z10, z11, z12, z13, z14, z15, z16, z17, z18, z19, z20, z21, z22, z23, z24, z25, z26, z27⟩ := hx4.all
  cases d
  · as_aux_lemma =>
    have hm := HM2.out rfl
    have he := HE.out rfl
    rw [← hm] at he
    have hp4 := HP.step hb4
    have HA := Lib.hid (HAN.out rfl w2.heap.size v4 L4 w4 ho4' hz4 (by omega) hp4)
    rw [← hm] at HA
    clear hp4 hm
    go_wp2_with (refine wpList_load_bx rfl (.tmp 1) rfl _ _ _ rfl hx4 ?_)
    refine HA.out.mono ?_
    rintro e w5 ⟨v5, rfl, ho5, hb5⟩
    have hbb5 := hb4.trans hb5
    have hl5 : (L4 ++ MD).length ≤ 124 := by rw [List.length_append]; omega
    have hz5 := hbb5.size
    have hx5 := HV.below hbb5
    clear z0 z1 z2 z3 z4 z5 z6 z7 z8 z9 z10 z11 z12 z13 z14 z15 z16 z17 z18 z19 z20 z21 z22 z23 z24 z25 z26 z27 hx4 ho4' hb4 hz4 hb5
    obtain ⟨z0, z1, z2, z3, z4, z5, z6, z7, z8, z9, z10, z11, z12, z13, z14, z15, z16, z17, z18, z19, z20, z21, z22, z23, z24, z25, z26, z27⟩ := hx5.all
    generalize hqL5 : L4 ++ MD = L5 at *
    have HQL5 := Lib.hid hqL5
    clear hqL5
    go_wp2_with fail
    refine (appnum_p w2.heap.size v5 L5 av w5 ho5 hz5 (by omega)).mono ?_
    rintro e w6 ⟨v6, rfl, ho6, hb6⟩
    have hbb6 := hbb5.trans hb6
    have hz6 := hbb6.size
    have hx6 := HV.below hbb6
    clear z0 z1 z2 z3 z4 z5 z6 z7 z8 z9 z10 z11 z12 z13 z14 z15 z16 z17 z18 z19 z20 z21 z22 z23 z24 z25 z26 z27 hx5 ho5 hb6 hbb5
    obtain ⟨z0, z1, z2, z3, z4, z5, z6, z7, z8, z9, z10, z11, z12, z13, z14, z15, z16, z17, z18, z19, z20, z21, z22, z23, z24, z25, z26, z27⟩ := hx6.all
    have hl6 : (L5 ++ lit av 2).length ≤ 126 := by rw [List.length_append, lit_len]; omega
    generalize hqL6 : L5 ++ lit av 2 = L6 at *
    have HQL6 := Lib.hid hqL6
    clear hqL6
    go_wp2_with fail
    refine (appnum_p w2.heap.size v6 L6 dv w6 ho6 hz6 (by omega)).mono ?_
    rintro e w7 ⟨v7, rfl, ho7, hb7⟩
    have hbb7 := hbb6.trans hb7
    have hl7 : (L6 ++ lit dv 2).length ≤ 128 := by rw [List.length_append, lit_len]; omega
    generalize hqL7 : L6 ++ lit dv 2 = L7 at *
    have HQL7 := Lib.hid hqL7
    clear hqL7
    clear z0 z1 z2 z3 z4 z5 z6 z7 z8 z9 z10 z11 z12 z13 z14 z15 z16 z17 z18 z19 z20 z21 z22 z23 z24 z25 z26 z27 hx6 ho6 hb7 hbb6
    obtain ⟨A7, n7, c7, rfl, hs7⟩ := Sl.of_own ho7
    have hn7 := hs7.len
    have HS8 := Lib.hid (Wc.seal8_any A7 n7 c7 L7 w7 hs7.len hs7.row hs7.nil (by omega))
    clear hn7
    go_wp2_with fail
    refine HS8.out.mono ?_
    rintro e w8 ⟨v8, rfl, ho8, hb8⟩
    go_wp2_with fail
    go_ret2
    refine ⟨v8, rfl, ?_, HB.trans (((hbb7.trans (hb8.mono hbb7.size)).mono HB.size))⟩
    rw [HQL4.out, HQL5.out, HQL6.out, HQL7.out]
    exact ho8.base_ (Nat.le_trans HB.size hbb7.size)
  · as_aux_lemma =>
    have hm := HM.out rfl
    go_wp2_with fail
    refine (appnum_p w2.heap.size v4 L4 st w4 ho4' hz4 (by omega)).mono ?_
    rintro e w5 ⟨v5, rfl, ho5, hb5⟩
    rw [← hm] at ho5
    have hbb5 := hb4.trans hb5
    have hl5 : (L4 ++ MD).length ≤ 124 := by rw [hm, List.length_append, lit_len]; omega
    have hz5 := hbb5.size
    have hx5 := HV.below hbb5
    clear z0 z1 z2 z3 z4 z5 z6 z7 z8 z9 z10 z11 z12 z13 z14 z15 z16 z17 z18 z19 z20 z21 z22 z23 z24 z25 z26 z27 hx4 ho4' hb4 hz4 hb5
    obtain ⟨z0, z1, z2, z3, z4, z5, z6, z7, z8, z9, z10, z11, z12, z13, z14, z15, z16, z17, z18, z19, z20, z21, z22, z23, z24, z25, z26, z27⟩ := hx5.all
    generalize hqL5 : L4 ++ MD = L5 at *
    have HQL5 := Lib.hid hqL5
    clear hqL5
    go_wp2_with fail
    refine (appnum_p w2.heap.size v5 L5 av w5 ho5 hz5 (by omega)).mono ?_
    rintro e w6 ⟨v6, rfl, ho6, hb6⟩
    have hbb6 := hbb5.trans hb6
    have hz6 := hbb6.size
    have hx6 := HV.below hbb6
    clear z0 z1 z2 z3 z4 z5 z6 z7 z8 z9 z10 z11 z12 z13 z14 z15 z16 z17 z18 z19 z20 z21 z22 z23 z24 z25 z26 z27 hx5 ho5 hb6 hbb5
    obtain ⟨z0, z1, z2, z3, z4, z5, z6, z7, z8, z9, z10, z11, z12, z13, z14, z15, z16, z17, z18, z19, z20, z21, z22, z23, z24, z25, z26, z27⟩ := hx6.all
    have hl6 : (L5 ++ lit av 2).length ≤ 126 := by rw [List.length_append, lit_len]; omega
    generalize hqL6 : L5 ++ lit av 2 = L6 at *
    have HQL6 := Lib.hid hqL6
    clear hqL6
    go_wp2_with fail
    refine (appnum_p w2.heap.size v6 L6 dv w6 ho6 hz6 (by omega)).mono ?_
    rintro e w7 ⟨v7, rfl, ho7, hb7⟩
    have hbb7 := hbb6.trans hb7
    have hl7 : (L6 ++ lit dv 2).length ≤ 128 := by rw [List.length_append, lit_len]; omega
    generalize hqL7 : L6 ++ lit dv 2 = L7 at *
    have HQL7 := Lib.hid hqL7
    clear hqL7
    clear z0 z1 z2 z3 z4 z5 z6 z7 z8 z9 z10 z11 z12 z13 z14 z15 z16 z17 z18 z19 z20 z21 z22 z23 z24 z25 z26 z27 hx6 ho6 hb7 hbb6
    obtain ⟨A7, n7, c7, rfl, hs7⟩ := Sl.of_own ho7
    have hn7 := hs7.len
    have HS8 := Lib.hid (Wc.seal8_any A7 n7 c7 L7 w7 hs7.len hs7.row hs7.nil (by omega))
    clear hn7
    go_wp2_with fail
    refine HS8.out.mono ?_
    rintro e w8 ⟨v8, rfl, ho8, hb8⟩
    go_wp2_with fail
    go_ret2
    refine ⟨v8, rfl, ?_, HB.trans (((hbb7.trans (hb8.mono hbb7.size)).mono HB.size))⟩
    rw [HQL4.out, HQL5.out, HQL6.out, HQL7.out]
    exact ho8.base_ (Nat.le_trans HB.size hbb7.size)
end Go.Proofs.Ytafoaonkjcfbaaa.Tb
