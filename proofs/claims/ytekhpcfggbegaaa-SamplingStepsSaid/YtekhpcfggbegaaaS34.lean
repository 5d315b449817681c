/- Walks: the program's filters: Step. -/
import Derived.Test.YtekhpcfggbegaaaS32
import Derived.Test.YtekhpcfggbegaaaS33
namespace Go.Proofs.Ytekhpcfggbegaaa.Jd
open Go.RowKit Go.Proofs.Ytekhpcfggbegaaa.Mem Go.Proofs.Ytekhpcfggbegaaa.F2p Go.Proofs.Ytekhpcfggbegaaa.C4l Go.Proofs.Ytekhpcfggbegaaa.Ta Go.Proofs.Ytekhpcfggbegaaa.Tb Go.Proofs.Ytekhpcfggbegaaa.Ja
set_option maxRecDepth 100000
set_option maxHeartbeats 1000000

theorem vf_facts {s : Sn} {l : List UInt8} {m : Int} (h : vf (vs s) s.sm l m = true) : (s.sm = 1 ∨ s.sm = 3 ∨ s.sm = 5) ∧ (l.length : Int) ≤ s.sm ∧ 0 ≤ m ∧ m ≤ 3 ∧ (m < 3 ∨ l.length = 0) ∧ vs s = true := by
  unfold vf at h
  simp only [Bool.and_eq_true, Bool.or_eq_true, decide_eq_true_eq] at h
  obtain ⟨h1, h2, h3, h4, h5⟩ := h
  refine ⟨?_, h2, h3, h4, h5, h1⟩
  unfold vs at h1
  simp only [Bool.and_eq_true] at h1
  have := h1.2.1
  unfold wid at this
  simpa using this
/-- The next filter, and the error. -/
def stW (v : Bool) (k : Int) (l : List UInt8) (m : Int) (raw : UInt8) (ok : Bool) : List UInt8 :=
  if vf v k l m = false then [] else if ok = true then push l raw k.toNat else if m + 1 < 3 then l else []
def stM (v : Bool) (k : Int) (l : List UInt8) (m : Int) (ok : Bool) : Int :=
  if vf v k l m = false then 0 else if ok = true then 0 else if m + 1 < 3 then m + 1 else 3
def stE (v : Bool) (k : Int) (l : List UInt8) (m : Int) : Int := if vf v k l m = false then 1 else 0
/-- What Step leaves. -/
def StO (w : World) (W : List UInt8) (M E : Int) (e : Ending) (w' : World) : Prop :=
  ∃ A n c, e = .returned (.tuple #[.agg #[.slice A n c, .int .i64 M], .int .i64 E]) ∧ Je.SlN w.heap.size w' A n c W ∧ Below w.heap.size w w'
theorem sl_none (w : World) : Sl w none 0 0 [] := ⟨rfl, Rd.nil, Nat.le_refl _, by unfold maxLen; omega, fun _ => rfl⟩
theorem two_set (w : World) (g : Nat) (u v : Value) : w.grownBy ((w.setCell ⟨g, 0, none⟩ u).setCell ⟨g, 1, none⟩ v) (some g) := grown_trans (set_grown w g 0 u) (set_grown _ g 1 v)
theorem own_kept' {base g : Nat} {w w' : World} {v : Value} {l : List UInt8} (h : Own base w v l) (hg : w.grownBy w' (some g)) (hlo : g < base) : Own base w' v l :=
  World.ownsRow.kept h hg (.inr (fun e => by have := (World.ownsRow.lt h _ e).1; omega))
theorem own_len {base n c : Nat} {A : Option Addr} {w : World} {l : List UInt8} (h : Own base w (.slice A n c) l) : n = l.length := by
  obtain ⟨A', c', e, -⟩ := h.form
  injection e
theorem FBx.set {w : World} {r : Nat} {V : Value} {m : Int} (h : FBx w r V m) (U : Value) (k : Int) : FBx ((w.setCell ⟨r, 0, none⟩ U).setCell ⟨r, 1, none⟩ (.int .i64 k)) r U k := by
  have h1 : (w.setCell ⟨r, 0, none⟩ U).heap[r]? = some (.cells #[U, .int .i64 m] 35 (0, 0)) := heap_setCell_same w r 0 _ _ U h
  exact heap_setCell_same _ r 1 _ _ (.int .i64 k) h1
theorem out_f1 {p : Tmp} {a : Act} {w : World} {r : Nat} {V : Value} {m : Int} {Q : Ending → World → Prop} {fn : Func} (hr : fn.results = #[.cell p 35]) (hp : a.tmps.getD p undef = .pointer (some ⟨r, 0, none⟩)) (hd : a.defers = [])
    (hb : FBx w r V m) (h : Q (.returned (.agg #[V, .int .i64 m])) w) : bodyPost Try.prog fn Q .ret a w := by
  refine bodyPost_ret ?_ hd h
  have hp' : a.tmps[p]?.getD undef = .pointer (some ⟨r, 0, none⟩) := by simpa using hp
  have hl : (loadVar 35 ⟨r, 0, none⟩).run Try.prog w = .ok (.agg #[V, .int .i64 m]) w := run_loadVar_row w r _ _ _ _ _ hb Try.underlying35 rfl (by kernel_rfl)
  simp [results, hr, hp', asAddr, hl]
theorem out_f2 {p q : Tmp} {a : Act} {w : World} {r : Nat} {V v : Value} {m : Int} {Q : Ending → World → Prop} {fn : Func} (hr : fn.results = #[.cell p 35, .tmp q]) (hp : a.tmps.getD p undef = .pointer (some ⟨r, 0, none⟩)) (hq : a.tmps.getD q undef = v) (hd : a.defers = [])
    (hb : FBx w r V m) (h : Q (.returned (.tuple #[.agg #[V, .int .i64 m], v])) w) : bodyPost Try.prog fn Q .ret a w := by
  refine bodyPost_ret ?_ hd h
  have hp' : a.tmps[p]?.getD undef = .pointer (some ⟨r, 0, none⟩) := by simpa using hp
  have hq' : a.tmps[q]?.getD undef = v := by simpa using hq
  have hl : (loadVar 35 ⟨r, 0, none⟩).run Try.prog w = .ok (.agg #[V, .int .i64 m]) w := run_loadVar_row w r _ _ _ _ _ hb Try.underlying35 rfl (by kernel_rfl)
  simp [results, hr, hp', hq', asAddr, hl]
theorem fresh_box (w : World) (o : Obj) (V : Value) (m : Int) : FBx ((w.alloc o).alloc (FBox V m)) (w.heap.size + 1) V m ∧ Below w.heap.size w ((w.alloc o).alloc (FBox V m)) := by
  have := heap_alloc_new (w.alloc o) (FBox V m)
  rw [World.size_alloc] at this
  have h1 : Below w.heap.size w (w.alloc o) := (Below.refl _ _).alloc (Nat.le_refl _) _
  exact ⟨this, h1.alloc h1.size _⟩
/-- What miss returns. -/
theorem miss_p (FA : Option Addr) (fn fc : Nat) (l : List UInt8) (m : Int) (w : World) (hf : Sl w FA fn fc l) (hn : fn ≤ 900) (hm : 0 ≤ m) (hm2 : m ≤ 3) :
    Calls Try.prog 55 #[.agg #[.slice FA fn fc, .int .i64 m]] w fun e w' => ∃ A n c, e = .returned (.agg #[.slice A n c, .int .i64 (if m + 1 < 3 then m + 1 else 3)]) ∧ Je.SlN w.heap.size w' A n c (if m + 1 < 3 then l else []) ∧ Below w.heap.size w w' := by
  have HF := Lib.hid hf
  have hb1 : Below w.heap.size w (w.alloc (FBox (.slice FA fn fc) m)) := (Below.refl _ _).alloc (Nat.le_refl _) _
  have hb2 := hb1.alloc hb1.size (FBox (.slice none 0 0) 0)
  have hf2 := HF.out.step hb2
  have HC := Lib.hid (Je.clone_p FA fn fc l _ hf2 (by omega))
  have HB := Lib.hid hb2
  have hcm : fn ≤ 9223372036854775807 := by omega
  clear hf hb1 hb2 hf2
  have hz : FBx ((w.alloc (FBox (.slice FA fn fc) m)).alloc (FBox (.slice none 0 0) 0)) (w.heap.size + 1) (.slice none 0 0) 0 := by
    have := heap_alloc_new (w.alloc (FBox (.slice FA fn fc) m)) (FBox (.slice none 0 0) 0)
    rw [World.size_alloc] at this
    exact this
  have hlt := hz.lt
  have hfin : ∀ (w3 : World) (u v : Value), Below w.heap.size w w3 → Below w.heap.size w ((w3.setCell ⟨w.heap.size + 1, 0, none⟩ u).setCell ⟨w.heap.size + 1, 1, none⟩ v) := fun w3 u v h => h.grown (two_set w3 _ u v) h.size (fun k hk => by injection hk; omega)
  have HFI := Lib.hid hfin
  clear hfin
  rcases (show m = 0 ∨ m = 1 ∨ m = 2 ∨ m = 3 by omega) with rfl | rfl | rfl | rfl
  · go_enter Try.func55, Try.ntmps55
    go_wp2_with fail
    refine HC.out.mono ?_
    rintro e w3 ⟨v, rfl, hown, hb3⟩
    have hz3 := hz.below hb3
    have c0 := hz3.c0
    have c1 := hz3.c1
    have z0 := hz3.fz 0
    have z1 := hz3.fz 1
    have hb := HB.out.trans (hb3.mono HB.out.size)
    obtain ⟨A, n, c, rfl, -⟩ := Sl.of_own hown
    have ho := fun y => own_kept' hown (two_set w3 (w.heap.size + 1) (.slice A n c) (.int .i64 y)) hlt
    have hz4 := fun y => hz3.set (.slice A n c) y
    go_wp2_with fail
    (try simp only [Exit.inBlock, Exit.then])
    refine out_f1 rfl rfl rfl (hz4 _) ?_
    exact ⟨_, _, _, rfl, (Je.SlN.of_own (ho _)).base_ HB.out.size, HFI.out _ _ _ hb⟩
  · go_enter Try.func55, Try.ntmps55
    go_wp2_with fail
    refine HC.out.mono ?_
    rintro e w3 ⟨v, rfl, hown, hb3⟩
    have hz3 := hz.below hb3
    have c0 := hz3.c0
    have c1 := hz3.c1
    have z0 := hz3.fz 0
    have z1 := hz3.fz 1
    have hb := HB.out.trans (hb3.mono HB.out.size)
    obtain ⟨A, n, c, rfl, -⟩ := Sl.of_own hown
    have ho := fun y => own_kept' hown (two_set w3 (w.heap.size + 1) (.slice A n c) (.int .i64 y)) hlt
    have hz4 := fun y => hz3.set (.slice A n c) y
    go_wp2_with fail
    (try simp only [Exit.inBlock, Exit.then])
    refine out_f1 rfl rfl rfl (hz4 _) ?_
    exact ⟨_, _, _, rfl, (Je.SlN.of_own (ho _)).base_ HB.out.size, HFI.out _ _ _ hb⟩
  · have c0 := hz.c0
    have c1 := hz.c1
    have z0 := hz.fz 0
    have z1 := hz.fz 1
    have hz4 := fun y => fresh_box w (FBox (.slice FA fn fc) 2) (.slice none 0 0) y
    go_enter Try.func55, Try.ntmps55
    go_wp2_with fail
    (try simp only [Exit.inBlock, Exit.then])
    refine out_f1 rfl rfl rfl (hz4 _).1 ?_
    exact ⟨_, _, _, rfl, Je.SlN.none, (hz4 _).2⟩
  · have c0 := hz.c0
    have c1 := hz.c1
    have z0 := hz.fz 0
    have z1 := hz.fz 1
    have hz4 := fun y => fresh_box w (FBox (.slice FA fn fc) 3) (.slice none 0 0) y
    go_enter Try.func55, Try.ntmps55
    go_wp2_with fail
    (try simp only [Exit.inBlock, Exit.then])
    refine out_f1 rfl rfl rfl (hz4 _).1 ?_
    exact ⟨_, _, _, rfl, Je.SlN.none, (hz4 _).2⟩
/-- Three boxes: a sensor, a filter, and the filter that is returned. -/
theorem three_boxes (s : Sn) (V U : Value) (m : Int) (w : World) : Below w.heap.size w (((w.alloc (SBox s V)).alloc (FBox U m)).alloc (FBox (.slice none 0 0) 0)) ∧ Bx (((w.alloc (SBox s V)).alloc (FBox U m)).alloc (FBox (.slice none 0 0) 0)) w.heap.size s V ∧
    FBx (((w.alloc (SBox s V)).alloc (FBox U m)).alloc (FBox (.slice none 0 0) 0)) (w.heap.size + 1) U m ∧ FBx (((w.alloc (SBox s V)).alloc (FBox U m)).alloc (FBox (.slice none 0 0) 0)) (w.heap.size + 2) (.slice none 0 0) 0 := by
  obtain ⟨h1, h2, h3⟩ := two_boxes s V U m w
  refine ⟨h1.alloc h1.size _, h2.alloc _, h3.alloc _, ?_⟩
  have := heap_alloc_new ((w.alloc (SBox s V)).alloc (FBox U m)) (FBox (.slice none 0 0) 0)
  rw [World.size_alloc, World.size_alloc] at this
  exact this
theorem step_p (s : Sn) (A : Option Addr) (n cp : Nat) (FA : Option Addr) (fn fc : Nat) (l : List UInt8) (m : Int) (raw : UInt8) (ok : Bool) (w : World) (hsl : PSl w A n cp s.c.p) (hnm : s.nm.size ≤ maxLen) (hf : Sl w FA fn fc l) :
    Calls Try.prog 18 #[.agg (cells s (.slice A n cp)), .agg #[.slice FA fn fc, .int .i64 m], .int .u8 (raw.toNat : Int), .bool ok] w (StO w (stW (vs s) s.sm l m raw ok) (stM (vs s) s.sm l m ok) (stE (vs s) s.sm l m)) := by
  obtain ⟨hb0, hx0, hf0, hz0⟩ := three_boxes s (.slice A n cp) (.slice FA fn fc) m w
  have HV := Lib.hid (fvalid_p s A n cp FA fn fc l m _ (hsl.step hb0) hnm (hf.step hb0))
  obtain ⟨W, hW⟩ : ∃ W, W = stW (vs s) s.sm l m raw ok := ⟨_, rfl⟩
  obtain ⟨M, hM⟩ : ∃ M, M = stM (vs s) s.sm l m ok := ⟨_, rfl⟩
  obtain ⟨E, hE⟩ : ∃ E, E = stE (vs s) s.sm l m := ⟨_, rfl⟩
  rw [← hW, ← hM, ← hE]
  unfold stW at hW
  unfold stM at hM
  unfold stE at hE
  have hfin : ∀ (w3 : World) (u v : Value), Below w.heap.size w w3 → Below w.heap.size w ((w3.setCell ⟨w.heap.size + 2, 0, none⟩ u).setCell ⟨w.heap.size + 2, 1, none⟩ v) := fun w3 u v h => h.grown (two_set w3 _ u v) h.size (fun k hk => by injection hk; omega)
  have HFI := Lib.hid hfin
  have HFF := Lib.hid fun (h : vf (vs s) s.sm l m = true) => vf_facts h
  have HLN := Lib.hid hf.len
  have HSF := Lib.hid hf
  clear hfin hsl hf
  generalize vf (vs s) s.sm l m = b at *
  have HW := Lib.hid hW
  have HM := Lib.hid hM
  have HE := Lib.hid hE
  clear hW hM hE
  go_enter Try.func18, Try.ntmps18
  go_wp2_with (refine wpList_load_bx rfl (.tmp 4) rfl _ _ _ rfl hx0 ?_)
  refine HV.out.mono ?_
  rintro e w3 ⟨rfl, hb3⟩
  have hx3 := hx0.below hb3
  have hf3 := hf0.below hb3
  have hz3 := hz0.below hb3
  have hb := hb0.trans (hb3.mono hb0.size)
  have hlt3 := hz3.lt
  clear hf0 hx0 hz0 hb0 hb3 HV
  cases b
  · obtain rfl := HM.out
    obtain rfl := HE.out
    obtain rfl := HW.out
    have c0 := hz3.c0
    have c1 := hz3.c1
    have z0 := hz3.fz 0
    have z1 := hz3.fz 1
    have hz4 := hz3.set (.slice none 0 0) 0
    go_wp2_with fail
    (try simp only [Exit.inBlock, Exit.then])
    refine out_f2 rfl rfl rfl rfl hz4 ?_
    exact ⟨_, _, _, rfl, Je.SlN.none, HFI.out _ _ _ hb⟩
  obtain ⟨hsm, hlk, hm0, hm3, -, -⟩ := HFF.out rfl
  clear HFF
  have hfn : fn ≤ 5 := by have := HLN.out; omega
  obtain rfl := HE.out
  cases ok
  · have hW := HW.out
    have hM := HM.out
    rw [if_neg (by simp), if_neg (by simp)] at hW hM
    have HW := Lib.hid hW
    have HM := Lib.hid hM
    clear hW hM
    have HMI := Lib.hid fun (u : World) (hu : Sl u FA fn fc l) => miss_p FA fn fc l m u hu (by omega) hm0 hm3
    rw [← HW.out, ← HM.out] at HMI
    have c0 := hf3.c0
    have c1 := hf3.c1
    clear hx3
    go_wp2_with fail
    refine (HMI.out _ (HSF.out.step hb)).mono ?_
    rintro e w4 ⟨B, k, c, rfl, hs4, hb4⟩
    have hz4 := hz3.below hb4
    have d0 := hz4.c0
    have d1 := hz4.c1
    have z0 := hz4.fz 0
    have z1 := hz4.fz 1
    have hz5 := hz4.set (.slice B k c) M
    have hbb := hb.trans (hb4.mono hb.size)
    go_wp2_with fail
    (try simp only [Exit.inBlock, Exit.then])
    refine out_f2 rfl rfl rfl rfl hz5 ?_
    exact ⟨_, _, _, rfl, (hs4.far (two_set w4 _ _ _) hlt3).base_ hb.size, HFI.out _ _ _ hbb⟩
  · obtain rfl := HM.out
    have hW := HW.out
    rw [if_neg (by simp), if_pos rfl] at hW
    obtain ⟨K, hK⟩ : ∃ K : Nat, s.sm = (K : Int) := ⟨s.sm.toNat, by omega⟩
    have hK2 : 1 ≤ K ∧ K ≤ 5 := by omega
    have hKN : s.sm.toNat = K := by omega
    rw [hKN] at hW
    have HW := Lib.hid hW
    have HPU := Lib.hid fun (u : World) (hu : Sl u FA fn fc l) => Je.push_p FA fn fc l raw K u hu (by omega) hK2.1 (by omega)
    rw [← HW.out] at HPU
    have c27 := c27 hx3
    rw [hK] at c27
    have c0 := hf3.c0
    clear hW hK hKN hx3 hf3
    go_wp2_with fail
    refine (HPU.out _ (HSF.out.step hb)).mono ?_
    rintro e w4 ⟨B, k, c, rfl, hs4, hb4⟩
    have hz4 := hz3.below hb4
    have d0 := hz4.c0
    have d1 := hz4.c1
    have z0 := hz4.fz 0
    have z1 := hz4.fz 1
    have hz5 := hz4.set (.slice B k c) 0
    have hbb := hb.trans (hb4.mono hb.size)
    go_wp2_with fail
    (try simp only [Exit.inBlock, Exit.then])
    refine out_f2 rfl rfl rfl rfl hz5 ?_
    exact ⟨_, _, _, rfl, (hs4.far (two_set w4 _ _ _) hlt3).base_ hb.size, HFI.out _ _ _ hbb⟩
end Go.Proofs.Ytekhpcfggbegaaa.Jd
