/- Walks: the law's run of samples over a filter; the example. -/
import Derived.Test.YtekhpcfggbegaaaS43
import Derived.Test.YtekhpcfggbegaaaS44
import Derived.Test.YtekhpcfggbegaaaS22
import Derived.Deep.Cut
namespace Go.Proofs.Ytekhpcfggbegaaa.Jk
open Go.RowKit Go.Proofs.Ytekhpcfggbegaaa.Mem Go.Proofs.Ytekhpcfggbegaaa.F2p Go.Proofs.Ytekhpcfggbegaaa.C4l Go.Proofs.Ytekhpcfggbegaaa.Ta Go.Proofs.Ytekhpcfggbegaaa.Tb Go.Proofs.Ytekhpcfggbegaaa.Ja Go.Proofs.Ytekhpcfggbegaaa.Jd
set_option maxRecDepth 100000
set_option maxHeartbeats 4000000

theorem exec_load_bx2 {o : Oper} {a : Act} {w : World} {r : Nat} {s : Sn} {V : Value} (x : Operand) (ho : o.op = .load 32 x) (hx : a.eval x = .pointer (some ⟨r, 0, none⟩)) (hb : Bx w r s V) : (execOp a.eval o).run Try.prog w = .ok (.value (.agg (cells s V))) w := by
  unfold execOp
  simp only [ho, hx, Instr.loadAt, Instr.sureAddr, Sem.run_bind, Sem.run_pure, Result.andThen_ok, run_loadVar_row w r _ _ _ _ _ hb Try.underlying32 rfl (by kernel_rfl)]
theorem out_bx1 {p : Tmp} {a : Act} {w : World} {r : Nat} {s : Sn} {V : Value} {Q : Ending → World → Prop} {fn : Func} (hr : fn.results = #[.cell p 32]) (hp : a.tmps.getD p undef = .pointer (some ⟨r, 0, none⟩)) (hd : a.defers = []) (hb : Bx w r s V) (h : Q (.returned (.agg (cells s V))) w) :
    bodyPost Try.prog fn Q .ret a w := by
  refine bodyPost_ret ?_ hd h
  have hp' : a.tmps[p]?.getD undef = .pointer (some ⟨r, 0, none⟩) := by simpa using hp
  simp [results, hr, hp', asAddr, run_loadVar_row w r _ _ _ _ _ hb Try.underlying32 rfl (by kernel_rfl)]
theorem exec_load_f2 {o : Oper} {a : Act} {w : World} {r : Nat} {V : Value} {m : Int} (x : Operand) (ho : o.op = .load 35 x) (hx : a.eval x = .pointer (some ⟨r, 0, none⟩)) (hb : FBx w r V m) : (execOp a.eval o).run Try.prog w = .ok (.value (.agg #[V, .int .i64 m])) w := by
  unfold execOp
  simp only [ho, hx, Instr.loadAt, Instr.sureAddr, Sem.run_bind, Sem.run_pure, Result.andThen_ok, run_loadVar_row w r _ _ _ _ _ hb Try.underlying35 rfl (by kernel_rfl)]
theorem step_store_f {ops : Array Oper} {o : Oper} {a : Act} {w : World} {K : Act → World → Prop} {Q : Exit → Act → World → Prop} {E : Prop} (hgd : o.guard = none) (x y : Operand) (ho : o.op = .store 35 x y)
    (r : Nat) (A : Option Addr) (n c : Nat) (V0 : Value) (m m0 : Int) (hx : a.eval x = .pointer (some ⟨r, 0, none⟩)) (hy : a.eval y = .agg #[.slice A n c, .int .i64 m]) (hb : FBx w r V0 m0)
    (h : ∀ w', FBx w' r (.slice A n c) m → w.grownBy w' (some r) → K (a.put o.dst undef) w') : if Region.wanted o (yielded ops a.tmps) = true then Oper.wp Try.prog o a w K Q else E := by
  have hw : Region.wanted o (yielded ops a.tmps) = true := by simp [Region.wanted, hgd]
  rw [if_pos hw]
  exact wp_store_row _ x y ho r #[.slice A n c, .int .i64 m] hx hy _ _ hb (by kernel_rfl) rfl (by simp [Value.oneCell'])
    (h _ (setRow_heap w r _ _ _ _ hb) ⟨rfl, rfl, rfl, by simp, fun k _ hk => setRow_other w r k _ (fun he => hk (by rw [he]))⟩)
theorem Bx.kept' {w w' : World} {r b : Nat} {s : Sn} {V : Value} (h : Bx w r s V) (hg : w.grownBy w' (some b)) (hne : r ≠ b) : Bx w' r s V := (hg.block r h.lt (fun e => hne (by injection e))).trans h
theorem run_boxes (s : Sn) (V : Value) (w : World) : Below w.heap.size w (((w.alloc (SBox s V)).alloc (FBox (.slice none 0 0) 0)).alloc (FBox (.slice none 0 0) 0)) ∧ Bx (((w.alloc (SBox s V)).alloc (FBox (.slice none 0 0) 0)).alloc (FBox (.slice none 0 0) 0)) w.heap.size s V ∧
    FBx (((w.alloc (SBox s V)).alloc (FBox (.slice none 0 0) 0)).alloc (FBox (.slice none 0 0) 0)) (w.heap.size + 1) (.slice none 0 0) 0 ∧ FBx (((w.alloc (SBox s V)).alloc (FBox (.slice none 0 0) 0)).alloc (FBox (.slice none 0 0) 0)) (w.heap.size + 2) (.slice none 0 0) 0 :=
  three_boxes s V (.slice none 0 0) 0 w
theorem run_p (s : Sn) (A : Option Addr) (n cp : Nat) (K : Nat) (TA : Option Addr) (tn tc : Nat) (l : List Tk) (w : World) (hsl : PSl w A n cp s.c.p) (hnm : s.nm.size ≤ maxLen) (hv : vs s = true) (hK : s.sm = (K : Int)) (ht : TSl w TA tn tc l) (htn : tn ≤ 100) :
    Calls Try.prog 26 #[.agg (cells s (.slice A n cp)), .slice TA tn tc] w fun e w' => ∃ FA fn fc, e = .returned (.tuple #[.agg #[.slice FA fn fc, .int .i64 (runF K l).2], .bool true]) ∧ Sl w' FA fn fc (runF K l).1 ∧ Below w.heap.size w w' := by
  obtain ⟨hb0, hx0, hr0, hf0⟩ := run_boxes s (.slice A n cp) w
  have HST0 := Lib.hid fun (u : World) (FA : Option Addr) (fn fc : Nat) (lf : List UInt8) (m : Int) (raw : UInt8) (ok : Bool) (hp : PSl u A n cp s.c.p) (hf : Sl u FA fn fc lf) => step_p s A n cp FA fn fc lf m raw ok u hp hnm hf
  have HVA0 := Lib.hid fun (u : World) (FA : Option Addr) (fn fc : Nat) (lf : List UInt8) (m : Int) (hp : PSl u A n cp s.c.p) (hf : Sl u FA fn fc lf) => fvalid_p s A n cp FA fn fc lf m u hp hnm hf
  rw [hv, hK] at HST0 HVA0
  have HSL := Lib.hid hsl
  have HT := Lib.hid ht
  have HTN := Lib.hid ht.len
  clear hsl ht hv hnm
  have HK := Lib.hid hK
  clear hK
  go_enter Try.func26, Try.ntmps26
  go_wp2_with fail
  generalize (((w.alloc (SBox s (.slice A n cp))).alloc (FBox (.slice none 0 0) 0)).alloc (FBox (.slice none 0 0) 0)) = w0 at *
  have hf0 : FBx w0 (w.heap.size + 1 + 1) (.slice none 0 0) 0 := hf0
  go_loopw [7] (fun v wr => ∃ (i : Nat) (FA : Option Addr) (fn fc : Nat) (m : Int), i ≤ tn ∧ v = .int .i64 (i : Int) ∧ Bx wr w.heap.size s (.slice A n cp) ∧ FBx wr (w.heap.size + 1) (.slice none 0 0) 0 ∧ FBx wr (w.heap.size + 1 + 1) (.slice FA fn fc) m ∧ Je.SlN (w.heap.size + 1 + 1 + 1) wr FA fn fc (runF K (l.take i)).1 ∧ m = (runF K (l.take i)).2 ∧ Below w.heap.size w wr) (fun v _ => tn - (intOf v).toNat)
  case atStart => exact ⟨0, none, 0, 0, 0, Nat.zero_le _, rfl, hx0, hr0, hf0, Je.SlN.none, rfl, hb0⟩
  case round =>
    clear hx0 hr0 hf0 hb0
    obtain ⟨i, FA, fn, fc, m, hi, rfl, hx, hr, hf, hs, hm, hb⟩ := hrel
    have hnx := fun h => runF_take (k := K) (l := l) (i := i) h
    have hok := okF_run K (l.take i)
    obtain ⟨f, hfe⟩ : ∃ f, f = runF K (l.take i) := ⟨_, rfl⟩
    rw [← hfe] at hs hm hok hnx
    by_cases hlt : i < tn
    · have d0 : decide ((i : Int) < (tn : Int)) = true := decide_eq_true (by omega)
      have hil : i < l.length := by rw [← HTN.out]; exact hlt
      obtain ⟨p, rfl, hpb, h0, h1⟩ := trow_at (HT.out.step hb).row hil
      have hnx := hnx hil
      obtain ⟨t, hte⟩ : ∃ t, t = l[i] := ⟨_, rfl⟩
      rw [← hte] at h0 h1 hnx
      have h1' : wr.cell? ⟨(p.add (i * 2)).block, (p.add (i * 2)).off + 1, none⟩ = some (.bool t.m) := by rw [← h1, ← add_add]; rfl
      obtain ⟨e1, e2, e3⟩ := st_next hok t
      have hvf := okF_vf (okF_next hok t)
      obtain ⟨W, hW⟩ : ∃ W, W = (nxF K f t).1 := ⟨_, rfl⟩
      obtain ⟨M, hM⟩ : ∃ M, M = (nxF K f t).2 := ⟨_, rfl⟩
      rw [← hW] at e1 hvf
      rw [← hM] at e2 hvf
      have HST : Hid (∀ u, Below wr.heap.size wr u → Calls Try.prog 18 #[.agg (cells s (.slice A n cp)), .agg #[.slice FA fn fc, .int .i64 m], .int .u8 (t.r.toNat : Int), .bool (!t.m)] u (StO u W M 0)) := Lib.hid fun u hu => by
        have := HST0.out u FA fn fc f.1 f.2 t.r (!t.m) (HSL.out.step (hb.trans (hu.mono hb.size))) (hs.1.step hu)
        rw [e1, e2, e3] at this
        rw [hm]; exact this
      have HVAL : Hid (∀ u FB fm fd, Below w.heap.size w u → Sl u FB fm fd W → Calls Try.prog 22 #[.agg (cells s (.slice A n cp)), .agg #[.slice FB fm fd, .int .i64 M]] u fun e w' => e = .returned (.bool true) ∧ Below u.heap.size u w') := Lib.hid fun u FB fm fd hu hsu => by
        have := HVA0.out u FB fm fd W M (HSL.out.step hu) hsu
        rw [hvf] at this
        exact this
      have KEEP : Hid (∀ U, Below wr.heap.size wr U → (Bx U w.heap.size s (.slice A n cp) ∧ FBx U (w.heap.size + 1 + 1) (.slice FA fn fc) m) ∧ U.cell? ((p.add (i * 2))) = some (.int .u8 (t.r.toNat : Int)) ∧ U.cell? ⟨(p.add (i * 2)).block, (p.add (i * 2)).off + 1, none⟩ = some (.bool t.m)) := Lib.hid fun U hU =>
        ⟨⟨hx.below hU, hf.below hU⟩, (hU.cell (p := p.add (i * 2)) (by rw [add_block]; exact hpb)).trans h0, (hU.cell (p := ⟨(p.add (i * 2)).block, (p.add (i * 2)).off + 1, none⟩) (by show (p.add (i * 2)).block < _; rw [add_block]; exact hpb)).trans h1'⟩
      have HNX := Lib.hid (show runF K (l.take (i + 1)) = (W, M) by rw [hnx, hW, hM])
      have HX := Lib.hid hx
      have HR := Lib.hid hr
      have HF := Lib.hid hf
      have HB := Lib.hid hb
      have n1 : (0 : Int) ≤ (i : Int) := by omega
      have n2 : (i : Int) < (tn : Int) := by omega
      clear hx hr hf hs hm hok hnx hfe e1 e2 e3 hvf hW hM h0 h1 h1' hte hil hb
      go_wp2_with fail
      have HV : Below wr.heap.size wr wr.drew := below_drew (Below.refl _ _)
      have HVA : Below wr.heap.size wr (wr.drew.alloc (.cells #[.slice none 0 0, .int .i64 0] 35)) := HV.alloc (Nat.le_refl _) _
      go_cut [8, 9] from 11 to 43 (fun g e wx => ∃ G : Nat, g = .pointer (some ⟨G, 0, none⟩) ∧ e = .int .i64 0 ∧ ∃ FB fm fd, FBx wx G (.slice FB fm fd) M ∧ Je.SlN wr.heap.size wx FB fm fd W ∧ Below wr.heap.size wr wx ∧ wr.heap.size ≤ G)
      case first =>
        refine wp_region_held_drew (S := (fun W => (Bx W w.heap.size s (.slice A n cp) ∧ FBx W (w.heap.size + 1 + 1) (.slice FA fn fc) m) ∧ W.cell? ((p.add (i * 2))) = some (.int .u8 (t.r.toNat : Int)) ∧ W.cell? ⟨(p.add (i * 2)).block, (p.add (i * 2)).off + 1, none⟩ = some (.bool t.m))) (by kernel_rfl) ?_ (fun hHeld => ?_)
        · (try dsimp only); exact KEEP.out _ HV
        refine wpAnyH_take (i := 0) (oi := _) (v := ?vq1_0) rfl (by kernel_rfl) (by kernel_rfl) (by kernel_rfl) (fun _ _ _ h => h) (Or.inl ⟨rfl, ?yq1_0⟩) (by assumption) ?_
        case yq1_0 => intro w hSw; (try dsimp only at hSw); ((refine exec_load_bx2 (.tmp 2) ?_ ?_ hSw.1.1) <;> rfl)
        (try simp only [Act.put, List.getElem_toArray, List.getElem_cons_zero, List.setIfInBounds_toArray, List.set_cons_zero, List.set_cons_succ])
        refine wpAnyH_take (i := 1) (oi := _) (v := ?vq2_1) rfl (by kernel_rfl) (by kernel_rfl) (by kernel_rfl) (fun _ _ _ h => h) (Or.inl ⟨rfl, ?yq2_1⟩) (by assumption) ?_
        case yq2_1 => intro w hSw; (try dsimp only at hSw); ((refine exec_load_f2 (.tmp 6) ?_ ?_ hSw.1.2) <;> rfl)
        (try simp only [Act.put, List.getElem_toArray, List.getElem_cons_succ, List.getElem_cons_zero, List.setIfInBounds_toArray, List.set_cons_zero, List.set_cons_succ])
        refine wpAnyH_take (i := 2) (oi := _) (v := ?vq3_2) rfl (by kernel_rfl) (by kernel_rfl) (by kernel_rfl) (fun _ _ _ h => h) (Or.inl ⟨rfl, ?yq3_2⟩) (by assumption) ?_
        case yq3_2 => intro w hSw; have hSw := hSw.2; (try dsimp only at hSw); go_simp; (try with_reducible rfl)
        (try simp only [Act.put, List.getElem_toArray, List.getElem_cons_succ, List.getElem_cons_zero, List.setIfInBounds_toArray, List.set_cons_zero, List.set_cons_succ])
        refine wpAnyH_take (i := 3) (oi := _) (v := ?vq4_3) rfl (by kernel_rfl) (by kernel_rfl) (by kernel_rfl) (fun _ _ _ h => h) (Or.inl ⟨rfl, ?yq4_3⟩) (by assumption) ?_
        case yq4_3 => intro w hSw; have hSw := hSw.2; (try dsimp only at hSw); go_simp; (try with_reducible rfl)
        (try simp only [Act.put, List.getElem_toArray, List.getElem_cons_succ, List.getElem_cons_zero, List.setIfInBounds_toArray, List.set_cons_zero, List.set_cons_succ])
        refine wpAnyH_take (i := 4) (oi := _) (v := ?vq5_4) rfl (by kernel_rfl) (by kernel_rfl) (by kernel_rfl) (fun _ _ _ h => h) (Or.inl ⟨rfl, ?yq5_4⟩) (by assumption) ?_
        case yq5_4 => intro w hSw; have hSw := hSw.2; (try dsimp only at hSw); go_simp; (try with_reducible rfl)
        (try simp only [Act.put, List.getElem_toArray, List.getElem_cons_succ, List.getElem_cons_zero, List.setIfInBounds_toArray, List.set_cons_zero, List.set_cons_succ])
        refine wpAnyH_take (i := 5) (oi := _) (v := ?vq6_5) rfl (by kernel_rfl) (by kernel_rfl) (by kernel_rfl) (fun _ _ _ h => h) (Or.inl ⟨rfl, ?yq6_5⟩) (by assumption) ?_
        case yq6_5 => intro w hSw; have hSw := hSw.2; (try dsimp only at hSw); go_simp; (try with_reducible rfl)
        (try simp only [Act.put, List.getElem_toArray, List.getElem_cons_succ, List.getElem_cons_zero, List.setIfInBounds_toArray, List.set_cons_zero, List.set_cons_succ])
        refine wpAnyH_take (i := 6) (oi := _) (v := ?vq7_6) rfl (by kernel_rfl) (by kernel_rfl) (by kernel_rfl) (fun _ _ _ h => h) (Or.inl ⟨rfl, ?yq7_6⟩) (by assumption) ?_
        case yq7_6 => intro w hSw; have hSw := hSw.2; (try dsimp only at hSw); go_simp; (try with_reducible rfl)
        (try simp only [Act.put, List.getElem_toArray, List.getElem_cons_succ, List.getElem_cons_zero, List.setIfInBounds_toArray, List.set_cons_zero, List.set_cons_succ])
        refine wpAnyH_take (i := 7) (oi := _) (v := ?vq8_7) rfl (by kernel_rfl) (by kernel_rfl) (by kernel_rfl) (fun _ _ _ h => h) (Or.inl ⟨rfl, ?yq8_7⟩) (by assumption) ?_
        case yq8_7 => intro w hSw; have hSw := hSw.2; (try dsimp only at hSw); go_simp; (try with_reducible rfl)
        (try simp only [Act.put, List.getElem_toArray, List.getElem_cons_succ, List.getElem_cons_zero, List.setIfInBounds_toArray, List.set_cons_zero, List.set_cons_succ])
        refine wpAnyH_take (i := 8) (oi := _) (v := ?vq9_8) rfl (by kernel_rfl) (by kernel_rfl) (by kernel_rfl) (fun _ _ _ h => h) (Or.inl ⟨rfl, ?yq9_8⟩) (by assumption) ?_
        case yq9_8 => intro w hSw; have hSw := hSw.2; (try dsimp only at hSw); go_simp; (try with_reducible rfl)
        (try simp only [Act.put, List.getElem_toArray, List.getElem_cons_succ, List.getElem_cons_zero, List.setIfInBounds_toArray, List.set_cons_zero, List.set_cons_succ])
        refine wpAnyH_take (i := 9) (oi := _) (v := ?vq10_9) rfl (by kernel_rfl) (by kernel_rfl) (by kernel_rfl) (fun _ _ _ h => h) (Or.inl ⟨rfl, ?yq10_9⟩) (by assumption) ?_
        case yq10_9 => intro w hSw; have hSw := hSw.2; (try dsimp only at hSw); go_simp; (try with_reducible rfl)
        (try simp only [Act.put, List.getElem_toArray, List.getElem_cons_succ, List.getElem_cons_zero, List.setIfInBounds_toArray, List.set_cons_zero, List.set_cons_succ])
        refine wpAnyH_take (i := 10) (oi := _) (v := ?vq11_10) rfl (by kernel_rfl) (by kernel_rfl) (by kernel_rfl) (fun _ _ _ h => h) (Or.inl ⟨rfl, ?yq11_10⟩) (by assumption) ?_
        case yq11_10 => intro w hSw; have hSw := hSw.2; (try dsimp only at hSw); go_simp; (try with_reducible rfl)
        (try simp only [Act.put, List.getElem_toArray, List.getElem_cons_succ, List.getElem_cons_zero, List.setIfInBounds_toArray, List.set_cons_zero, List.set_cons_succ])
        refine wpAnyH_take (i := 11) (oi := _) (v := ?vq12_11) rfl (by kernel_rfl) (by kernel_rfl) (by kernel_rfl) (fun _ _ _ h => h) (Or.inl ⟨rfl, ?yq12_11⟩) (by assumption) ?_
        case yq12_11 => intro w hSw; have hSw := hSw.2; (try dsimp only at hSw); go_simp; (try with_reducible rfl)
        (try simp only [Act.put, List.getElem_toArray, List.getElem_cons_succ, List.getElem_cons_zero, List.setIfInBounds_toArray, List.set_cons_zero, List.set_cons_succ])
        refine wpAnyH_take (i := 12) (oi := _) (v := ?vq13_12) rfl (by kernel_rfl) (by kernel_rfl) (by kernel_rfl) (fun _ _ _ h => h) (Or.inl ⟨rfl, ?yq13_12⟩) (by assumption) ?_
        case yq13_12 => intro w hSw; have hSw := hSw.2; (try dsimp only at hSw); go_simp; (try with_reducible rfl)
        (try simp only [Act.put, List.getElem_toArray, List.getElem_cons_succ, List.getElem_cons_zero, List.setIfInBounds_toArray, List.set_cons_zero, List.set_cons_succ])
        refine wpAnyH_ready (rs := [13, 17]) (by kernel_rfl) (by simp) ?_
        refine (AllReadyH.cons (o := _) rfl (fun K hK => ?_) (AllReadyH.cons (o := _) rfl (fun K hK => ?_) AllReadyH.nil))
        · skip
          go_simp
          go_at_call 18
          refine (HST.out _ HV).mono ?_
          rintro e u1 ⟨FB, fm, fd, rfl, hs1, hu1⟩
          have hq1 := HV.trans (hu1.mono HV.size)
          refine hK.out _ _ ?_ (fun hHeld => ?_)
          · (try dsimp only); exact KEEP.out _ hq1
          clear hK K
          (try simp only [Act.put, List.getElem_toArray, List.getElem_cons_succ, List.getElem_cons_zero, List.setIfInBounds_toArray, List.set_cons_zero, List.set_cons_succ])
          refine wpAnyH_take (i := 14) (oi := _) (v := ?vq14_14) rfl (by kernel_rfl) (by kernel_rfl) (by kernel_rfl) (fun _ _ _ h => h) (Or.inl ⟨rfl, ?yq14_14⟩) (by assumption) ?_
          case yq14_14 => intro w hSw; (try dsimp only at hSw); go_simp; (try with_reducible rfl)
          (try simp only [Act.put, List.getElem_toArray, List.getElem_cons_succ, List.getElem_cons_zero, List.setIfInBounds_toArray, List.set_cons_zero, List.set_cons_succ])
          refine wpAnyH_take (i := 15) (oi := _) (v := ?vq15_15) rfl (by kernel_rfl) (by kernel_rfl) (by kernel_rfl) (fun _ _ _ h => h) (Or.inl ⟨rfl, ?yq15_15⟩) (by assumption) ?_
          case yq15_15 => intro w hSw; (try dsimp only at hSw); go_simp; (try with_reducible rfl)
          (try simp only [Act.put, List.getElem_toArray, List.getElem_cons_succ, List.getElem_cons_zero, List.setIfInBounds_toArray, List.set_cons_zero, List.set_cons_succ])
          refine wpAnyH_take (i := 16) (oi := _) (v := ?vq16_16) rfl (by kernel_rfl) (by kernel_rfl) (by kernel_rfl) (fun _ _ _ h => h) (Or.inl ⟨rfl, ?yq16_16⟩) (by assumption) ?_
          case yq16_16 => intro w hSw; (try dsimp only at hSw); go_simp; (try with_reducible rfl)
          (try simp only [Act.put, List.getElem_toArray, List.getElem_cons_succ, List.getElem_cons_zero, List.setIfInBounds_toArray, List.set_cons_zero, List.set_cons_succ])
          refine wpAnyH_ready (rs := [17]) (by kernel_rfl) (by simp) ?_
          refine (AllReadyH.cons (o := _) rfl (fun K hK => ?_) AllReadyH.nil)
          rw [if_pos (by rfl)]
          go_simp
          have hz := heap_alloc_new u1 (.cells #[.slice none 0 0, .int .i64 0] 35)
          have hq2 := hq1.alloc hq1.size (.cells #[.slice none 0 0, .int .i64 0] 35)
          have hbf := (Below.refl u1.heap.size u1).alloc (Nat.le_refl _) (.cells #[.slice none 0 0, .int .i64 0] 35)
          refine hK.out _ _ ?_ (fun hHeld => ?_)
          · (try dsimp only); exact KEEP.out _ hq2
          clear hK K
          (try simp only [Act.put, List.getElem_toArray, List.getElem_cons_succ, List.getElem_cons_zero, List.setIfInBounds_toArray, List.set_cons_zero, List.set_cons_succ])
          refine wpAnyH_ready (rs := [18]) (by kernel_rfl) (by simp) ?_
          refine (AllReadyH.cons (o := _) rfl (fun K hK => ?_) AllReadyH.nil)
          refine step_store_f rfl (.tmp 8) (.tmp 32) rfl u1.heap.size FB fm fd (.slice none 0 0) M 0 rfl rfl hz ?_
          intro u3 hz3 hg3
          have hq3 := hq2.grown hg3 hq2.size (fun k hk => by injection hk with hk; rw [← hk]; exact hq1.size)
          have hs3 : Je.SlN wr.heap.size u3 FB fm fd W := ⟨hs1.1.step (hbf.grown hg3 hbf.size (fun k hk => by injection hk with hk; omega)), hs1.2⟩
          refine hK.out _ _ ?_ (fun hHeld => ?_)
          · (try dsimp only); exact KEEP.out _ hq3
          clear hK K
          (try simp only [Act.put, List.getElem_toArray, List.getElem_cons_succ, List.getElem_cons_zero])
          refine wpAnyH_take (i := 19) (oi := _) (v := ?vq17_19) rfl (by kernel_rfl) (by kernel_rfl) (by kernel_rfl) (fun _ _ _ h => h) (Or.inl ⟨rfl, ?yq17_19⟩) (by assumption) ?_
          case yq17_19 => intro w hSw; (try dsimp only at hSw); go_simp; (try with_reducible rfl)
          (try simp only [Act.put, List.getElem_toArray, List.getElem_cons_succ, List.getElem_cons_zero, List.setIfInBounds_toArray, List.set_cons_zero, List.set_cons_succ])
          refine wpAnyH_done (by kernel_rfl) ?_ _
          clear hHeld
          go_wp2_with fail
          go_meet
          exact ⟨_, rfl, rfl, FB, fm, fd, hz3, hs3, hq3, hq1.size⟩
        · skip
          rw [if_pos (by rfl)]
          go_simp
          refine hK.out _ _ ?_ (fun hHeld => ?_)
          · (try dsimp only); exact KEEP.out _ HVA
          clear hK K
          (try simp only [Act.put, List.getElem_toArray, List.getElem_cons_succ, List.getElem_cons_zero, List.setIfInBounds_toArray, List.set_cons_zero, List.set_cons_succ])
          refine wpAnyH_ready (rs := [13]) (by kernel_rfl) (by simp) ?_
          refine (AllReadyH.cons (o := _) rfl (fun K hK => ?_) AllReadyH.nil)
          go_simp
          go_at_call 18
          refine (HST.out _ HVA).mono ?_
          rintro e u1 ⟨FB, fm, fd, rfl, hs1, hu1⟩
          have hq1 := HVA.trans (hu1.mono HVA.size)
          have hz1 : FBx u1 wr.heap.size (.slice none 0 0) 0 := (hu1.block _ (by simp)).trans (heap_alloc_new wr (.cells #[.slice none 0 0, .int .i64 0] 35))
          refine hK.out _ _ ?_ (fun hHeld => ?_)
          · (try dsimp only); exact KEEP.out _ hq1
          clear hK K
          (try simp only [Act.put, List.getElem_toArray, List.getElem_cons_succ, List.getElem_cons_zero, List.setIfInBounds_toArray, List.set_cons_zero, List.set_cons_succ])
          refine wpAnyH_take (i := 14) (oi := _) (v := ?vq18_14) rfl (by kernel_rfl) (by kernel_rfl) (by kernel_rfl) (fun _ _ _ h => h) (Or.inl ⟨rfl, ?yq18_14⟩) (by assumption) ?_
          case yq18_14 => intro w hSw; (try dsimp only at hSw); go_simp; (try with_reducible rfl)
          (try simp only [Act.put, List.getElem_toArray, List.getElem_cons_succ, List.getElem_cons_zero, List.setIfInBounds_toArray, List.set_cons_zero, List.set_cons_succ])
          refine wpAnyH_take (i := 15) (oi := _) (v := ?vq19_15) rfl (by kernel_rfl) (by kernel_rfl) (by kernel_rfl) (fun _ _ _ h => h) (Or.inl ⟨rfl, ?yq19_15⟩) (by assumption) ?_
          case yq19_15 => intro w hSw; (try dsimp only at hSw); go_simp; (try with_reducible rfl)
          (try simp only [Act.put, List.getElem_toArray, List.getElem_cons_succ, List.getElem_cons_zero, List.setIfInBounds_toArray, List.set_cons_zero, List.set_cons_succ])
          refine wpAnyH_take (i := 16) (oi := _) (v := ?vq20_16) rfl (by kernel_rfl) (by kernel_rfl) (by kernel_rfl) (fun _ _ _ h => h) (Or.inl ⟨rfl, ?yq20_16⟩) (by assumption) ?_
          case yq20_16 => intro w hSw; (try dsimp only at hSw); go_simp; (try with_reducible rfl)
          (try simp only [Act.put, List.getElem_toArray, List.getElem_cons_succ, List.getElem_cons_zero, List.setIfInBounds_toArray, List.set_cons_zero, List.set_cons_succ])
          refine wpAnyH_ready (rs := [18]) (by kernel_rfl) (by simp) ?_
          refine (AllReadyH.cons (o := _) rfl (fun K hK => ?_) AllReadyH.nil)
          refine step_store_f rfl (.tmp 8) (.tmp 32) rfl wr.heap.size FB fm fd (.slice none 0 0) M 0 rfl rfl hz1 ?_
          intro u3 hz3 hg3
          have hq3 := hq1.grown hg3 hq1.size (fun k hk => by injection hk with hk; rw [← hk]; exact Nat.le_refl _)
          refine hK.out _ _ ?_ (fun hHeld => ?_)
          · (try dsimp only); exact KEEP.out _ hq3
          clear hK K
          (try simp only [Act.put, List.getElem_toArray, List.getElem_cons_succ, List.getElem_cons_zero])
          refine wpAnyH_take (i := 19) (oi := _) (v := ?vq21_19) rfl (by kernel_rfl) (by kernel_rfl) (by kernel_rfl) (fun _ _ _ h => h) (Or.inl ⟨rfl, ?yq21_19⟩) (by assumption) ?_
          case yq21_19 => intro w hSw; (try dsimp only at hSw); go_simp; (try with_reducible rfl)
          (try simp only [Act.put, List.getElem_toArray, List.getElem_cons_succ, List.getElem_cons_zero, List.setIfInBounds_toArray, List.set_cons_zero, List.set_cons_succ])
          refine wpAnyH_done (by kernel_rfl) ?_ _
          clear hHeld
          go_wp2_with fail
          go_meet
          exact ⟨_, rfl, rfl, FB, fm, fd, hz3, (hs1.far hg3 (by simp)).base_ (by simp), hq3, Nat.le_refl _⟩
      case rest =>
        obtain ⟨G, rfl, rfl, FB, fm, fd, hz, hs, hq, hG⟩ := hcut
        have hx := HX.out.below hq
        have hr := HR.out.below hq
        have hf := HF.out.below hq
        have hb := HB.out.trans (hq.mono HB.out.size)
        have hlr := HR.out.lt
        have hlf := HF.out.lt
        have k0 := hz.c0
        have k1 := hz.c1
        clear HX HR HF HST KEEP HV HVA n1 n2 hpb
        go_wp2_with (refine wpList_load_bx_w (by rfl) (.tmp 2) rfl _ _ _ rfl hx ?_)
        refine (HVAL.out _ _ _ _ hb hs.1).mono ?_
        rintro e wv ⟨rfl, hbv⟩
        have hx := hx.below hbv
        have hr := hr.below hbv
        have hf := hf.below hbv
        have hz := hz.below hbv
        have hs : Je.SlN wr.heap.size wv FB fm fd W := ⟨hs.1.step hbv, hs.2⟩
        have hb := hb.trans (hbv.mono hb.size)
        have k0 := hz.c0
        have k1 := hz.c1
        have j0 := hf.c0
        have j1 := hf.c1
        have z0 := hf.fz 0
        have z1 := hf.fz 1
        have hf2 := hf.set (.slice FB fm fd) M
        have hg2 := two_set wv (w.heap.size + 1 + 1) (.slice FB fm fd) (.int .i64 M)
        have hx2 := Bx.kept' hx hg2 (by omega)
        have hr2 := hr.kept hg2 (fun e => by injection e; omega)
        have hs2 := (hs.far hg2 hlf).base_ (Nat.succ_le_of_lt hlf)
        have hb2 := hb.grown hg2 hb.size (fun k hk => by injection hk; omega)
        have HNX2 := Lib.hid HNX.out
        go_wp2_with fail
        go_roundw
        case rel => exact ⟨i + 1, FB, fm, fd, M, by omega, by go_num, hx2, hr2, hf2, by rw [HNX2.out]; exact hs2, by rw [HNX2.out], hb2⟩
        case measure => simp [intOf]; omega
    · obtain rfl : i = l.length := by have := HTN.out; omega
      rw [List.take_length] at hfe
      have k0 := hf.c0
      have k1 := hf.c1
      have j0 := hr.c0
      have j1 := hr.c1
      have z0 := hr.fz 0
      have z1 := hr.fz 1
      have hr2 := hr.set (.slice FA fn fc) m
      have HFE := Lib.hid hfe
      have HM := Lib.hid hm
      have HBF := Lib.hid (hb.grown (two_set wr (w.heap.size + 1) (.slice FA fn fc) (.int .i64 m)) hb.size (fun k hk => by injection hk; omega))
      clear hfe hm hok hnx
      go_wp2_with fail
      (try simp only [Exit.inBlock, Exit.then])
      refine out_f2 rfl rfl rfl rfl hr2 ?_
      refine ⟨FA, fn, fc, by rw [← HFE.out, ← HM.out]; rfl, ?_, HBF.out⟩
      rw [← HFE.out]
      exact (hs.far (two_set wr _ _ _) (by omega)).1
end Go.Proofs.Ytekhpcfggbegaaa.Jk
