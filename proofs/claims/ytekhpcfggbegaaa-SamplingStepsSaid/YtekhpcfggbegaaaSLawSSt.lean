/- SamplingSteps holds for every input: which filters are those of a sensor, the next filter, and the reading, are those of the document. No condition. -/
import Derived.Test.YtekhpcfggbegaaaS46
import Derived.Test.YtekhpcfggbegaaaS37
import Derived.Test.YtekhpcfggbegaaaS43
import Derived.Test.YtekhpcfggbegaaaSJp
import Derived.Test.YtekhpcfggbegaaaS51
import Derived.Test.YtekhpcfggbegaaaS54
import Derived.Test.YtekhpcfggbegaaaSLawM
import Derived.Deep.Cut
namespace Go.Proofs.Ytekhpcfggbegaaa.samplingSteps
open Go.RowKit Go.ChangeShapes Go.WideShapes Go.ChangeAt Go.Proofs.Ytekhpcfggbegaaa.Mem Go.Proofs.Ytekhpcfggbegaaa.F2p Go.Proofs.Ytekhpcfggbegaaa.C4l Go.Proofs.Ytekhpcfggbegaaa.Ta Go.Proofs.Ytekhpcfggbegaaa.Tb Go.Proofs.Ytekhpcfggbegaaa.Law Go.Proofs.Ytekhpcfggbegaaa.Made Go.Proofs.Ytekhpcfggbegaaa.D5 Go.Proofs.Ytekhpcfggbegaaa.Tl Go.Proofs.Ytekhpcfggbegaaa.Ja Go.Proofs.Ytekhpcfggbegaaa.Jd Go.Proofs.Ytekhpcfggbegaaa.Jp
set_option maxRecDepth 100000
set_option maxHeartbeats 16000000

theorem name_le {s : Sn} (hv : vs s = true) : s.nm.size ≤ maxLen := by
  unfold vs okn at hv
  simp only [Bool.and_eq_true] at hv
  have h := of_decide_eq_true hv.1.1
  rw [bl_len] at h
  unfold maxLen; omega
theorem psl_own' {base : Nat} {w : World} {A : Option Addr} {n c : Nat} {p : List C4l.Pt} (h : POwn base w (.slice A n c) p) : PSl w A n c p := by
  obtain ⟨A', n', c', e, hs⟩ := h.sl
  injection e with e1 e2 e3
  subst e1 e2 e3
  exact hs
theorem own_far_f {base G : Nat} {w w' : World} {v V : Value} {m : Int} {l : List UInt8} (h : Own base w v l) (hf : FBx w G V m) (hg : w.grownBy w' (some G)) : Own base w' v l := by
  refine World.ownsRow.kept h hg (.inr (fun e => ?_))
  rcases h.2 with ⟨hv, _⟩ | ⟨g, cap, cur, hv, _, hh, _⟩
  · rw [hv] at e; cases e
  · rw [hv] at e
    injection e with e
    dsimp only at e
    subst e
    unfold FBx at hf
    rw [hf] at hh
    injection hh with hh
    injection hh with _ hh
    exact absurd hh (by decide)
theorem pown_far_f {base G : Nat} {w w' : World} {v V : Value} {m : Int} {l : List C4l.Pt} (h : POwn base w v l) (hf : FBx w G V m) (hg : w.grownBy w' (some G)) : POwn base w' v l := by
  refine World.ownsRow.kept h hg (.inr (fun e => ?_))
  rcases h.2 with ⟨hv, _⟩ | ⟨g, cap, cur, hv, _, hh, _⟩
  · rw [hv] at e; cases e
  · rw [hv] at e
    injection e with e
    dsimp only at e
    subst e
    unfold FBx at hf
    rw [hf] at hh
    injection hh with hh
    injection hh with _ hh
    exact absurd hh (by decide)
theorem walk (s0 : Sn) (SA : Option Addr) (sn sc : Nat) (hnm0 : s0.nm.size ≤ maxLen) (_hfit0 : s0.Fit) (FA0 : Option Addr) (fn0 fc0 : Nat) (fl0 : List UInt8) (fm0 : Int) (_hfm0 : -9223372036854775808 ≤ fm0 ∧ fm0 ≤ 9223372036854775807)
    (A : Option Addr) (n c : Nat) (l : List Int) (hn : n = l.length) (hw : ∀ x ∈ l, -9223372036854775808 ≤ x ∧ x ≤ 9223372036854775807) (hc : n ≤ c) (hm : c ≤ maxLen) (_hA : A = none → c = 0)
    (raw : Int) (hraw : 0 ≤ raw ∧ raw ≤ 255) (ok : Bool) (w : World) (hsl : PSl w SA sn sc s0.c.p) (hf0 : Sl w FA0 fn0 fc0 fl0) (hr : IRow w.heap.size w A l) :
    Calls Try.prog 3 #[.agg (cells s0 (.slice SA sn sc)), .agg #[.slice FA0 fn0 fc0, .int .i64 fm0], .slice A n c, .int .u8 raw, .bool ok] w fun e w' => e = .returned (.bool true) ∧ Below w.heap.size w w' := by
  have hnm : n ≤ maxLen := by omega
  have hsnm : sn ≤ maxLen := Nat.le_trans hsl.cap hsl.max
  obtain ⟨raw, rfl⟩ : ∃ x : UInt8, raw = (x.toNat : Int) := by
    obtain ⟨k, rfl⟩ := Int.eq_ofNat_of_zero_le hraw.1
    exact Tl.u8_int k (by omega)
  have HN := Lib.hid hn
  have HW := Lib.hid hw
  have HSL := Lib.hid hsl
  have HF0 := Lib.hid hf0
  clear hn hw hc hm _hA hraw _hfit0 _hfm0
  have haw := Lib.hid (fun u => Jk.awake_any u)
  obtain ⟨hbb, hx0, hg0⟩ := two_boxes s0 (.slice SA sn sc) (.slice FA0 fn0 fc0) fm0 w
  have HLI := Lib.hid (light_p s0 SA sn sc FA0 fn0 fc0 fl0 fm0 _ hsnm hnm0 (hf0.step hbb))
  have hszb : w.heap.size + 1 < ((w.alloc (SBox s0 (.slice SA sn sc))).alloc (FBox (.slice FA0 fn0 fc0) fm0)).heap.size := hg0.lt
  clear hsl hf0
  go_enter Try.func3, Try.ntmps3
  go_wp2_with (refine wpList_load_bx rfl (.tmp 5) rfl _ _ _ rfl hx0 ?_)
  refine HLI.out.mono ?_
  rintro e w0 ⟨R, rfl, hb00⟩
  have hx0 := hx0.below hb00
  have hg0 := hg0.below hb00
  have hbb := hbb.trans (hb00.mono hbb.size)
  have hszb : w.heap.size + 1 < w0.heap.size := hg0.lt
  clear HLI hb00
  cases R
  · skip
    go_wp2_with fail
    refine (haw.out _).mono ?_
    rintro e w3 ⟨rfl, hb3⟩
    go_wp2_with fail
    go_ret
    exact ⟨rfl, hbb.trans (hb3.mono hbb.size)⟩
  by_cases h6 : n ≤ 600
  case neg =>
    have d6 : decide (n ≤ 600) = false := decide_eq_false h6
    go_wp2_with fail
    refine (Made.lightmade_any A n c _ hnm).mono ?_
    rintro e w' ⟨rfl, rfl⟩
    rw [d6]
    go_wp2_with fail
    refine (haw.out _).mono ?_
    rintro e w3 ⟨rfl, hb3⟩
    go_wp2_with fail
    go_ret
    exact ⟨rfl, hbb.trans (hb3.mono hbb.size)⟩
  have d6 : decide (n ≤ 600) = true := decide_eq_true h6
  go_wp2_with fail
  refine (Made.lightmade_any A n c _ hnm).mono ?_
  rintro e w' ⟨rfl, rfl⟩
  rw [d6]
  go_wp2_with fail
  refine (Made.roll_any A n c w0).mono ?_
  rintro e w1 ⟨rfl, rfl⟩
  have hdz := Dz.start A n c l w0 ((hr.below hbb).more hbb.size) HN.out HW.out (by omega)
  have hx1 := hx0.alloc (.cells #[.slice A n c, .int .i64 0] 99)
  have hg1 := hg0.alloc (.cells #[.slice A n c, .int .i64 0] 99)
  have hb1 := hbb.alloc hbb.size (.cells #[.slice A n c, .int .i64 0] 99)
  have hs1 : w0.heap.size < (w0.alloc (.cells #[.slice A n c, .int .i64 0] 99)).heap.size := by rw [World.size_alloc]; omega
  generalize w0.alloc (.cells #[.slice A n c, .int .i64 0] 99) = w1 at *
  clear hx0 hg0 hbb
  go_wp2_with fail
  refine (Tl.sensor_any 1 hdz).mono ?_
  rintro e w2 ⟨s1, V, rfl, hv1, -, -, hown, hdz2, hg2⟩
  obtain ⟨PA, pn, pc, rfl, -⟩ := hown.sl
  have hnm1 := name_le hv1
  have hx2 := hx1.kept hg2 (fun e => by injection e; omega)
  have hf2 := hg1.kept hg2 (fun e => by injection e; omega)
  have hbb : Below w.heap.size w w2 := hb1.grown hg2 hb1.size (fun k hk => by injection hk; omega)
  have hz := Bx.zero w2
  have hba := (Below.refl w2.heap.size w2).alloc (Nat.le_refl _) (.cells #[.int .u8 0, .int .u8 0, .int .u8 0, .string ⟨#[]⟩, .int .u8 0, .int .u8 0, .bool false, .int .i64 0, .bool false, .int .i64 0, .int .i64 0, .int .i64 0, .int .i64 0, .slice none 0 0, .int .u8 0, .int .u8 0, .int .u8 0, .int .u8 0, .int .u8 0, .int .u8 0, .int .u8 0, .int .u8 0, .int .u8 0, .int .u16 0, .int .u16 0, .int .u16 0, .bool false, .int .i64 0] 32)
  have hx2s := hx2.alloc (.cells #[.int .u8 0, .int .u8 0, .int .u8 0, .string ⟨#[]⟩, .int .u8 0, .int .u8 0, .bool false, .int .i64 0, .bool false, .int .i64 0, .int .i64 0, .int .i64 0, .int .i64 0, .slice none 0 0, .int .u8 0, .int .u8 0, .int .u8 0, .int .u8 0, .int .u8 0, .int .u8 0, .int .u8 0, .int .u8 0, .int .u8 0, .int .u16 0, .int .u16 0, .int .u16 0, .bool false, .int .i64 0] 32)
  have hf2s := hf2.alloc (.cells #[.int .u8 0, .int .u8 0, .int .u8 0, .string ⟨#[]⟩, .int .u8 0, .int .u8 0, .bool false, .int .i64 0, .bool false, .int .i64 0, .int .i64 0, .int .i64 0, .int .i64 0, .slice none 0 0, .int .u8 0, .int .u8 0, .int .u8 0, .int .u8 0, .int .u8 0, .int .u8 0, .int .u8 0, .int .u8 0, .int .u8 0, .int .u16 0, .int .u16 0, .int .u16 0, .bool false, .int .i64 0] 32)
  have hlt2 := hdz2.lt
  clear hv1 hg2 hb1 hdz hx1 hg1 hx2 hf2
  go_wp2_with (refine wpList_store_bx rfl (.tmp 12) (.tmp 39) rfl w2.heap.size s1 noSn (.slice PA pn pc) (.slice none 0 0) rfl rfl rfl hz ?_; intro w3 hy3 hg3; refine Hid.out ?_)
  refine Lib.hid ?_
  have hb1lt : w.heap.size + 1 < w2.heap.size := by have := hdz2.lt; omega
  have hx3 := hx2s.kept hg3 (fun e => by injection e; omega)
  have hf3 := hf2s.kept hg3 (fun e => by injection e; omega)
  have hown3 := Tl.pown_far (World.ownsRow.alloc hown _) hz hg3
  have hba := hba.grown hg3 hba.size (fun k hk => by injection hk; omega)
  have hdz3 := hdz2.below hba hlt2
  have hb3 := hbb.trans (hba.mono hbb.size)
  have hlt3 : w2.heap.size < w3.heap.size := hy3.lt
  clear hba hg3 hz hdz2 hbb hown hx2s hf2s
  go_wp2_with fail
  refine (hdz3.bytes 6 (by omega)).mono ?_
  rintro e w4 ⟨v, bs, rfl, hob, -, hdz4, hg4⟩
  have hx4 := hx3.kept hg4 (fun e => by injection e; omega)
  have hf4 := hf3.kept hg4 (fun e => by injection e; omega)
  have hy4 := hy3.kept hg4 (fun e => by injection e; omega)
  have hown4 := D5.pown_kept hown3 hg4 hs1
  have hb4 := hb3.grown hg4 hb3.size (fun k hk => by injection hk; omega)
  have hsz4 := hg4.size
  clear hx3 hf3 hy3 hown3 hb3 hg4 hdz3
  go_wp2_with fail
  refine (hdz4.next 6 (by omega) (by omega)).mono ?_
  rintro e w5 ⟨r, hr6, rfl, hdz5, hg5⟩
  have hx5 := hx4.kept hg5 (fun e => by injection e; omega)
  have hf5 := hf4.kept hg5 (fun e => by injection e; omega)
  have hy5 := hy4.kept hg5 (fun e => by injection e; omega)
  have hown5 := D5.pown_kept hown4 hg5 hs1
  have hob5 := own_kept hob hg5 (by omega)
  have hb5 := hb4.grown hg5 hb4.size (fun k hk => by injection hk; omega)
  have hsz5 := hg5.size
  obtain ⟨WA, wn, wc, rfl, -⟩ := Sl.of_own hob5
  clear hx4 hf4 hy4 hown4 hb4 hg5 hdz4 hob
  have hbA := (Below.refl w5.heap.size w5).alloc (Nat.le_refl _) (.cells #[.slice WA wn wc, .int .i64 ((r : Int) - 1)] 35)
  have hg6 : FBx (w5.alloc (.cells #[.slice WA wn wc, .int .i64 ((r : Int) - 1)] 35)) w5.heap.size (.slice WA wn wc) ((r : Int) - 1) := heap_alloc_new w5 _
  have hx6 := hx5.below hbA
  have hf6 := hf5.below hbA
  have hy6 := hy5.below hbA
  have hown6 := World.ownsRow.alloc hown5 (.cells #[.slice WA wn wc, .int .i64 ((r : Int) - 1)] 35)
  have hob6 := World.ownsRow.alloc hob5 (.cells #[.slice WA wn wc, .int .i64 ((r : Int) - 1)] 35)
  have hb6 := hb5.trans (hbA.mono hb5.size)
  have hdz6 := hdz5.below hbA (by omega)
  have hsz6 : w5.heap.size < (w5.alloc (.cells #[.slice WA wn wc, .int .i64 ((r : Int) - 1)] 35)).heap.size := by rw [World.size_alloc]; omega
  clear hx5 hf5 hy5 hown5 hb5 hdz5 hbA hob5
  go_wp2_with fail
  generalize w5.alloc (.cells #[.slice WA wn wc, .int .i64 ((r : Int) - 1)] 35) = w6 at *
  refine (hdz6.bool 2 (by omega) (by omega)).mono ?_
  rintro e w7 ⟨b, rfl, hdz7, hg7⟩
  have hx7 := hx6.kept hg7 (fun e => by injection e; omega)
  have hf7 := hf6.kept hg7 (fun e => by injection e; omega)
  have hy7 := hy6.kept hg7 (fun e => by injection e; omega)
  have hG7 := hg6.kept hg7 (fun e => by injection e; omega)
  have hown7 := D5.pown_kept hown6 hg7 hs1
  have hob7 := own_kept hob6 hg7 (by omega)
  have hb7 := hb6.grown hg7 hb6.size (fun k hk => by injection hk; omega)
  have hsz7 := hg7.size
  clear hx6 hf6 hy6 hg6 hown6 hob6 hb6 hdz6 hg7
  cases b
  · skip
    have hws := sl_own hob7 (own_len hob7)
    have hps : PSl w7 PA pn pc s1.c.p := psl_own' hown7
    have hnm2 := hnm1
    clear hob7 hdz7 hown7
    have hbR := (Below.refl w7.heap.size w7).alloc (Nat.le_refl _) (.cells (cells s0 (.slice SA sn sc) ++ cells s1 (.slice PA pn pc)) 32)
    have hrow := heap_alloc_new w7 (.cells (cells s0 (.slice SA sn sc) ++ cells s1 (.slice PA pn pc)) 32)
    have hbB := hb7.trans (hbR.mono hb7.size)
    have HREC := Lib.hid (rec_at hrow (HSL.out.step hbB) (hps.step hbR) hnm0 hnm2)
    have hfB := hf7.below hbR
    have hGB := hG7.below hbR
    have hs0B := HF0.out.step hbB
    have hwsB := hws.step hbR
    clear hrow hbR
    go_wp2_with (first | (refine wpList_load_bx rfl (.tmp 5) rfl _ _ _ rfl hx7 ?_) | (refine wpList_load_bx rfl (.tmp 12) rfl _ _ _ rfl hy7 ?_) | (refine wpList_build2 rfl (.tmp 52) (.tmp 53) rfl s0 s1 (.slice SA sn sc) (.slice PA pn pc) rfl rfl ?_))
    obtain ⟨gr, hgr⟩ : ∃ gr, gr = w7.heap.size := ⟨_, rfl⟩
    rw [show w7.heap.size = gr from by first | (rw [hgr]; done) | (rw [hgr]; simp)] at HREC
    rw [← hgr]
    clear hgr
    generalize w7.alloc (.cells (cells s0 (.slice SA sn sc) ++ cells s1 (.slice PA pn pc)) 32) = wB at *
    clear hx7 hy7 hf7 hG7 hps hws hb7
    have HFB := Lib.hid hfB
    have HGB := Lib.hid hGB
    have HS0 := Lib.hid hs0B
    have HWS := Lib.hid hwsB
    have hlF := hfB.lt
    have hlG := hGB.lt
    clear hfB hGB hs0B hwsB
    obtain ⟨m5, hm5⟩ : ∃ m5 : Int, m5 = ((r : Int) - 1) := ⟨_, rfl⟩
    rw [← hm5] at HGB
    clear hm5
    go_loopw [56] (fun i wr => ∃ k : Nat, k ≤ 2 ∧ i = .int .i64 (k : Int) ∧ Below wB.heap.size wB wr) (fun i _ => 2 - (intOf i).toNat)
    case atStart => exact ⟨0, by omega, rfl, Below.refl _ _⟩
    case round =>
      obtain ⟨k, hk, rfl, hbr⟩ := hrel
      by_cases hk2 : k < 2
      · obtain ⟨x, XA, xn, xc, hrg, hpx, hmx⟩ := HREC.out wr hbr k hk2
        have hzb := Bx.zero wr
        have hba := (Below.refl wr.heap.size wr).alloc (Nat.le_refl _) (.cells #[.int .u8 0, .int .u8 0, .int .u8 0, .string ⟨#[]⟩, .int .u8 0, .int .u8 0, .bool false, .int .i64 0, .bool false, .int .i64 0, .int .i64 0, .int .i64 0, .int .i64 0, .slice none 0 0, .int .u8 0, .int .u8 0, .int .u8 0, .int .u8 0, .int .u8 0, .int .u8 0, .int .u8 0, .int .u8 0, .int .u8 0, .int .u16 0, .int .u16 0, .int .u16 0, .bool false, .int .i64 0] 32)
        go_wp2_with (first
          | (refine wpList_load_mid rfl _ (.tmp 58) rfl gr (k * 28) (by simp [Act.eval]) (cells x (.slice XA xn xc)).toList _ hrg Try.underlying32 rfl (by kernel_rfl) ?_)
          | (refine wpList_store_bx rfl (.tmp 15) (.tmp 59) rfl wr.heap.size x noSn (.slice XA xn xc) (.slice none 0 0) rfl rfl rfl hzb ?_; intro w10 hx10 hg10; refine Hid.out ?_))
        refine Lib.hid ?_
        have hb10 := hba.grown hg10 hba.size (fun k hk => by injection hk; omega)
        have hbB10 := hbr.trans (hb10.mono hbr.size)
        have hpx10 := hpx.step hb10
        have hf10 := HFB.out.below hbB10
        have hG10 := HGB.out.below hbB10
        have f0 := hf10.c0
        have f1 := hf10.c1
        have q0 := hG10.c0
        have q1 := hG10.c1
        have hbC := (Below.refl w10.heap.size w10).alloc (Nat.le_refl _) (.cells #[.slice FA0 fn0 fc0, .int .i64 fm0, .slice WA wn wc, .int .i64 m5, .slice none 0 0, .int .i64 0] 35)
        have hrow3 := heap_alloc_new w10 (.cells #[.slice FA0 fn0 fc0, .int .i64 fm0, .slice WA wn wc, .int .i64 m5, .slice none 0 0, .int .i64 0] 35)
        have HFIL := Lib.hid (fil_at hrow3 (HS0.out.step (hbB10.trans (hbC.mono hbB10.size))) (HWS.out.step (hbB10.trans (hbC.mono hbB10.size))))
        have hx11 := hx10.below hbC
        have hpx11 := hpx10.step hbC
        have hbB11 := hbB10.trans (hbC.mono hbB10.size)
        clear hba hg10 hzb hrg hpx hb10 hbB10 hpx10 hf10 hG10 hrow3 hbC hx10 hbr
        go_wp2_with fail
        obtain ⟨g3, hg3e⟩ : ∃ g, g = w10.heap.size := ⟨_, rfl⟩
        rw [← hg3e] at HFIL ⊢
        clear hg3e
        generalize w10.alloc (.cells #[.slice FA0 fn0 fc0, .int .i64 fm0, .slice WA wn wc, .int .i64 m5, .slice none 0 0, .int .i64 0] 35) = wC at *
        obtain ⟨b15, hb15⟩ : ∃ b, b = wr.heap.size := ⟨_, rfl⟩
        rw [← hb15] at hx11 ⊢
        clear hb15 f0 f1 q0 q1
        have HX := Lib.hid hx11
        have HP := Lib.hid hpx11
        have HBC := Lib.hid hbB11
        have hl15 := hx11.lt
        clear hx11 hpx11 hbB11
        go_loopw [65] (fun i wq => ∃ j : Nat, j ≤ 3 ∧ i = .int .i64 (j : Int) ∧ Below wC.heap.size wC wq) (fun i _ => 3 - (intOf i).toNat)
        case atStart => exact ⟨0, by omega, rfl, Below.refl _ _⟩
        case round =>
          obtain ⟨j, hj, rfl, hbq⟩ := hrel
          by_cases hj3 : j < 3
          · obtain ⟨FA, fn, fc, lf, m, hrf, hsf⟩ := HFIL.out wr hbq j hj3
            have hx0 := HX.out.below hbq
            have hp0 := HP.out.step hbq
            have hbA := (Below.refl wr.heap.size wr).alloc (Nat.le_refl _) (.cells #[.slice FA fn fc, .int .i64 m] 35)
            have hfA : FBx (wr.alloc (.cells #[.slice FA fn fc, .int .i64 m] 35)) wr.heap.size (.slice FA fn fc) m := heap_alloc_new wr _
            have hxA := hx0.below hbA
            have hpA := hp0.step hbA
            have hsA := hsf.step hbA
            have hbqA := hbq.trans (hbA.mono hbq.size)
            have c0 := hfA.c0
            have c1 := hfA.c1
            obtain ⟨W, hW⟩ : ∃ W, W = stW (vs x) x.sm lf m raw ok := ⟨_, rfl⟩
            obtain ⟨M, hM⟩ : ∃ M, M = stM (vs x) x.sm lf m ok := ⟨_, rfl⟩
            obtain ⟨E, hE⟩ : ∃ E, E = stE (vs x) x.sm lf m := ⟨_, rfl⟩
            obtain ⟨b, hbe⟩ : ∃ b, b = full x lf m := ⟨_, rfl⟩
            obtain ⟨vb, hvb⟩ : ∃ vb, vb = vf (vs x) x.sm lf m := ⟨_, rfl⟩
            have HSP := Lib.hid fun (u : World) (hu : PSl u XA xn xc x.c.p) (hf : Sl u FA fn fc lf) => step_p x XA xn xc FA fn fc lf m raw ok u hu hmx hf
            have HSR := Lib.hid fun (u : World) (hu : PSl u XA xn xc x.c.p) (hf : Sl u FA fn fc lf) => step_r x XA xn xc FA fn fc lf m raw ok u hu hmx hf
            have HRP := Lib.hid fun (u : World) (hu : PSl u XA xn xc x.c.p) (hf : Sl u FA fn fc lf) => read_p x XA xn xc FA fn fc lf m u hu hmx hf
            have HRR := Lib.hid fun (u : World) (hu : PSl u XA xn xc x.c.p) (hf : Sl u FA fn fc lf) => read_r x XA xn xc FA fn fc lf m u hu hmx hf
            have HVP0 := Lib.hid fun (u : World) (hu : PSl u XA xn xc x.c.p) (hf : Sl u FA fn fc lf) => fvalid_p x XA xn xc FA fn fc lf m u hu hmx hf
            have HVR0 := Lib.hid fun (u : World) (hu : PSl u XA xn xc x.c.p) (hf : Sl u FA fn fc lf) => fvalid_r x XA xn xc FA fn fc lf m u hu hmx hf
            rw [← hW, ← hM, ← hE] at HSP HSR
            rw [← hbe] at HRP HRR
            rw [← hvb] at HVP0 HVR0
            have e1 : (vb != vb) = false := by cases vb <;> rfl
            have e2 : (E != E) = false := by simp
            have e4 : (b != b) = false := by cases b <;> rfl
            clear hW hM hE hbe hvb hx0 hp0 hsf hbA
            go_wp2_with (first
              | (refine wpList_load_mid rfl _ (.tmp 67) rfl g3 (j * 2) (by simp [Act.eval]) [.slice FA fn fc, .int .i64 m] _ hrf Try.underlying35 rfl (by kernel_rfl) ?_)
              | (refine wpList_load_bx rfl (.tmp 15) rfl _ _ _ rfl hxA ?_))
            refine (HSP.out _ hpA hsA).mono ?_
            rintro e u1 ⟨A1, n1, d1, rfl, ⟨hw1, -⟩, hu1⟩
            have hu1b := hu1.alloc hu1.size (.cells #[.slice A1 n1 d1, .int .i64 M] 35)
            have h18 : FBx (u1.alloc (.cells #[.slice A1 n1 d1, .int .i64 M] 35)) u1.heap.size (.slice A1 n1 d1) M := heap_alloc_new u1 _
            have hx1 := hxA.below hu1b
            have hf1 := hfA.below hu1b
            have hp1 := hpA.step hu1b
            have hs1 := hsA.step hu1b
            have hw1 := hw1.step ((Below.refl u1.heap.size u1).alloc (Nat.le_refl _) (.cells #[.slice A1 n1 d1, .int .i64 M] 35))
            have hbq1 := hbqA.trans (hu1b.mono hbqA.size)
            have c0 := hf1.c0
            have c1 := hf1.c1
            clear hxA hfA hpA hsA hbqA hu1 hu1b hrf
            go_wp2_with (refine wpList_load_bx rfl (.tmp 15) rfl _ _ _ rfl hx1 ?_)
            obtain ⟨b18, hb18⟩ : ∃ b, b = u1.heap.size := ⟨_, rfl⟩
            obtain ⟨b17, hb17⟩ : ∃ b, b = wr.heap.size := ⟨_, rfl⟩
            rw [← hb18] at h18 ⊢
            rw [← hb17] at hf1 c0 c1 ⊢
            clear hb18 hb17
            generalize u1.alloc (.cells #[.slice A1 n1 d1, .int .i64 M] 35) = v1 at *
            refine (HSR.out _ hp1 hs1).mono ?_
            rintro e u2 ⟨A2, n2, d2, rfl, ⟨hw2, -⟩, hu2⟩
            have hu2b := hu2.alloc hu2.size (.cells #[.slice A2 n2 d2, .int .i64 M] 35)
            have h20 : FBx (u2.alloc (.cells #[.slice A2 n2 d2, .int .i64 M] 35)) u2.heap.size (.slice A2 n2 d2) M := heap_alloc_new u2 _
            have hx2 := hx1.below hu2b
            have hf2 := hf1.below hu2b
            have h18 := h18.below hu2b
            have hp2 := hp1.step hu2b
            have hs2 := hs1.step hu2b
            have hw1 := hw1.step hu2b
            have hw2 := hw2.step ((Below.refl u2.heap.size u2).alloc (Nat.le_refl _) (.cells #[.slice A2 n2 d2, .int .i64 M] 35))
            have hbq2 := hbq1.trans (hu2b.mono hbq1.size)
            have c0 := hf2.c0
            have c1 := hf2.c1
            clear hx1 hf1 hp1 hs1 hbq1 hu2 hu2b
            go_wp2_with (refine wpList_load_bx rfl (.tmp 15) rfl _ _ _ rfl hx2 ?_)
            obtain ⟨b20, hb20⟩ : ∃ b, b = u2.heap.size := ⟨_, rfl⟩
            rw [← hb20] at h20 ⊢
            clear hb20
            generalize u2.alloc (.cells #[.slice A2 n2 d2, .int .i64 M] 35) = v2 at *
            refine (HRP.out _ hp2 hs2).mono ?_
            rintro e v3 ⟨x1, hm1, hm2, rfl, hu3⟩
            have hx3 := hx2.below hu3
            have hf3 := hf2.below hu3
            have h18 := h18.below hu3
            have h20 := h20.below hu3
            have hp3 := hp2.step hu3
            have hs3 := hs2.step hu3
            have hw1 := hw1.step hu3
            have hw2 := hw2.step hu3
            have hbq3 := hbq2.trans (hu3.mono hbq2.size)
            have c0 := hf3.c0
            have c1 := hf3.c1
            clear hx2 hf2 hp2 hs2 hbq2 hu3
            go_wp2_with (refine wpList_load_bx rfl (.tmp 15) rfl _ _ _ rfl hx3 ?_)
            refine (HRR.out _ hp3 hs3).mono ?_
            rintro e v4 ⟨x2, hm3, hm4, rfl, hu4⟩
            obtain rfl : x1 = x2 := full_read hm1 hm3 hm2 hm4
            have hx4 := hx3.below hu4
            have hf4 := hf3.below hu4
            have h18 := h18.below hu4
            have h20 := h20.below hu4
            have hp4 := hp3.step hu4
            have hs4 := hs3.step hu4
            have hw1 := hw1.step hu4
            have hw2 := hw2.step hu4
            have hbq4 := hbq3.trans (hu4.mono hbq3.size)
            have e3 : (((x1.toNat : Nat) : Int) != ((x1.toNat : Nat) : Int)) = false := by simp
            clear hx3 hf3 hp3 hs3 hbq3 hu4 hm1 hm2 hm3 hm4 c0 c1
            go_wp2_with fail
            obtain ⟨v, hvd⟩ : ∃ u, u = v4.drew := ⟨_, rfl⟩
            have hq : Below v4.heap.size v4 v := by rw [hvd]; exact below_drew (Below.refl _ _)
            have KEEP : Hid (∀ U, Below v4.heap.size v4 U → (Bx U b15 x (.slice XA xn xc) ∧ FBx U b17 (.slice FA fn fc) m) ∧ FBx U b18 (.slice A1 n1 d1) M ∧ FBx U b20 (.slice A2 n2 d2) M) := Lib.hid fun U hU => ⟨⟨hx4.below hU, hf4.below hU⟩, h18.below hU, h20.below hU⟩
            have HVP : Hid (∀ u, Below v4.heap.size v4 u → Calls Try.prog 22 #[.agg (cells x (.slice XA xn xc)), .agg #[.slice FA fn fc, .int .i64 m]] u fun e w' => e = .returned (.bool vb) ∧ Below u.heap.size u w') := Lib.hid fun u hu => HVP0.out u (hp4.step hu) (hs4.step hu)
            have HVR : Hid (∀ u, Below v4.heap.size v4 u → Calls Try.prog 23 #[.agg (cells x (.slice XA xn xc)), .agg #[.slice FA fn fc, .int .i64 m]] u fun e w' => e = .returned (.bool vb) ∧ Below u.heap.size u w') := Lib.hid fun u hu => HVR0.out u (hp4.step hu) (hs4.step hu)
            have HSM : Hid (∀ u, Below v4.heap.size v4 u → Calls Try.prog 24 #[.agg #[.slice A1 n1 d1, .int .i64 M], .agg #[.slice A2 n2 d2, .int .i64 M]] u fun e w' => e = .returned (.bool true) ∧ Below u.heap.size u w') := Lib.hid fun u hu => by
              have := same_f A1 A2 n1 d1 n2 d2 W W M M u (hw1.step hu) (hw2.step hu)
              rw [decide_eq_true (rfl : M = M), decide_eq_true (rfl : W = W)] at this
              exact this
            have HBQ := Lib.hid hbq4
            clear hx4 hf4 h18 h20 hp4 hs4 hw1 hw2 hbq4 HSP HSR HRP HRR HVP0 HVR0
            refine wp_region_held_drew (S := (fun W => (Bx W b15 x (.slice XA xn xc) ∧ FBx W b17 (.slice FA fn fc) m) ∧ FBx W b18 (.slice A1 n1 d1) M ∧ FBx W b20 (.slice A2 n2 d2) M)) (by kernel_rfl) ?_ (fun hHeld => ?_)
            · (try dsimp only); rw [← hvd]; exact KEEP.out _ hq
            generalize v4.drew = vg at *
            subst hvd
            refine wpAnyH_take (i := 0) (oi := _) (v := ?vq1_0) rfl (by kernel_rfl) (by kernel_rfl) (by kernel_rfl) (fun _ _ _ h => h) (Or.inl ⟨rfl, ?yq1_0⟩) (by assumption) ?_
            case yq1_0 => intro w hSw; (try dsimp only at hSw); ((refine exec_load_bx2 (.tmp 15) ?_ ?_ hSw.1.1) <;> rfl)
            (try simp only [Act.put, List.getElem_toArray, List.getElem_cons_zero, List.setIfInBounds_toArray, List.set_cons_zero, List.set_cons_succ])
            refine wpAnyH_take (i := 1) (oi := _) (v := ?vq2_1) rfl (by kernel_rfl) (by kernel_rfl) (by kernel_rfl) (fun _ _ _ h => h) (Or.inl ⟨rfl, ?yq2_1⟩) (by assumption) ?_
            case yq2_1 => intro w hSw; (try dsimp only at hSw); ((refine exec_load_f2 (.tmp 17) ?_ ?_ hSw.1.2) <;> rfl)
            (try simp only [Act.put, List.getElem_toArray, List.getElem_cons_succ, List.getElem_cons_zero, List.setIfInBounds_toArray, List.set_cons_zero, List.set_cons_succ])
            refine wpAnyH_take (i := 3) (oi := _) (v := ?vq3_3) rfl (by kernel_rfl) (by kernel_rfl) (by kernel_rfl) (fun _ _ _ h => h) (Or.inl ⟨rfl, ?yq3_3⟩) (by assumption) ?_
            case yq3_3 => intro w hSw; (try dsimp only at hSw); ((refine exec_load_bx2 (.tmp 15) ?_ ?_ hSw.1.1) <;> rfl)
            (try simp only [Act.put, List.getElem_toArray, List.getElem_cons_succ, List.getElem_cons_zero, List.setIfInBounds_toArray, List.set_cons_zero, List.set_cons_succ])
            refine wpAnyH_take (i := 4) (oi := _) (v := ?vq4_4) rfl (by kernel_rfl) (by kernel_rfl) (by kernel_rfl) (fun _ _ _ h => h) (Or.inl ⟨rfl, ?yq4_4⟩) (by assumption) ?_
            case yq4_4 => intro w hSw; (try dsimp only at hSw); ((refine exec_load_f2 (.tmp 17) ?_ ?_ hSw.1.2) <;> rfl)
            (try simp only [Act.put, List.getElem_toArray, List.getElem_cons_succ, List.getElem_cons_zero, List.setIfInBounds_toArray, List.set_cons_zero, List.set_cons_succ])
            refine wpAnyH_ready (rs := [2]) (by kernel_rfl) (by simp) ?_
            refine (AllReadyH.cons (o := _) rfl (fun K hK => ?_) AllReadyH.nil)
            go_simp
            go_at_call 22
            refine (HVP.out _ hq).mono ?_
            rintro e y1 ⟨rfl, hy1⟩
            have hq := hq.trans (hy1.mono hq.size)
            refine hK.out _ _ ?_ (fun hHeld => ?_)
            · (try dsimp only); exact KEEP.out _ hq
            clear hK K
            (try simp only [Act.put, List.getElem_toArray, List.getElem_cons_succ, List.getElem_cons_zero, List.setIfInBounds_toArray, List.set_cons_zero, List.set_cons_succ])
            refine wpAnyH_ready (rs := [5]) (by kernel_rfl) (by simp) ?_
            refine (AllReadyH.cons (o := _) rfl (fun K hK => ?_) AllReadyH.nil)
            go_simp
            go_at_call 23
            refine (HVR.out _ hq).mono ?_
            rintro e y2 ⟨rfl, hy2⟩
            have hq := hq.trans (hy2.mono hq.size)
            refine hK.out _ _ ?_ (fun hHeld => ?_)
            · (try dsimp only); exact KEEP.out _ hq
            clear hK K
            (try simp only [Act.put, List.getElem_toArray, List.getElem_cons_succ, List.getElem_cons_zero, List.setIfInBounds_toArray, List.set_cons_zero, List.set_cons_succ])
            refine wpAnyH_take (i := 6) (oi := _) (v := ?vq5_6) rfl (by kernel_rfl) (by kernel_rfl) (by kernel_rfl) (fun _ _ _ h => h) (Or.inl ⟨rfl, ?yq5_6⟩) (by assumption) ?_
            case yq5_6 => intro w hSw; (try dsimp only at hSw); go_simp; (try with_reducible rfl)
            (try simp only [Act.put, List.getElem_toArray, List.getElem_cons_succ, List.getElem_cons_zero, List.setIfInBounds_toArray, List.set_cons_zero, List.set_cons_succ])
            refine wpAnyH_take (i := 7) (oi := _) (v := ?vq6_7) rfl (by kernel_rfl) (by kernel_rfl) (by kernel_rfl) (fun _ _ _ h => h) (Or.inl ⟨rfl, ?yq6_7⟩) (by assumption) ?_
            case yq6_7 => intro w hSw; (try dsimp only at hSw); go_simp; (try with_reducible rfl)
            (try simp only [Act.put, List.getElem_toArray, List.getElem_cons_succ, List.getElem_cons_zero, List.setIfInBounds_toArray, List.set_cons_zero, List.set_cons_succ])
            refine wpAnyH_take (i := 8) (oi := _) (v := ?vq7_8) rfl (by kernel_rfl) (by kernel_rfl) (by kernel_rfl) (fun _ _ _ h => h) (Or.inl ⟨rfl, ?yq7_8⟩) (by assumption) ?_
            case yq7_8 => intro w hSw; (try dsimp only at hSw); go_simp; (try with_reducible rfl)
            (try simp only [Act.put, List.getElem_toArray, List.getElem_cons_succ, List.getElem_cons_zero, List.setIfInBounds_toArray, List.set_cons_zero, List.set_cons_succ])
            refine wpAnyH_take (i := 9) (oi := _) (v := ?vq8_9) rfl (by kernel_rfl) (by kernel_rfl) (by kernel_rfl) (fun _ _ _ h => h) (Or.inl ⟨rfl, ?yq8_9⟩) (by assumption) ?_
            case yq8_9 => intro w hSw; (try dsimp only at hSw); go_simp; (try with_reducible rfl)
            (try simp only [Act.put, List.getElem_toArray, List.getElem_cons_succ, List.getElem_cons_zero, List.setIfInBounds_toArray, List.set_cons_zero, List.set_cons_succ])
            refine wpAnyH_take (i := 10) (oi := _) (v := ?vq9_10) rfl (by kernel_rfl) (by kernel_rfl) (by kernel_rfl) (fun _ _ _ h => h) (Or.inl ⟨rfl, ?yq9_10⟩) (by assumption) ?_
            case yq9_10 => intro w hSw; (try dsimp only at hSw); go_simp; (try with_reducible rfl)
            (try simp only [Act.put, List.getElem_toArray, List.getElem_cons_succ, List.getElem_cons_zero, List.setIfInBounds_toArray, List.set_cons_zero, List.set_cons_succ])
            refine wpAnyH_take (i := 11) (oi := _) (v := ?vq10_11) rfl (by kernel_rfl) (by kernel_rfl) (by kernel_rfl) (fun _ _ _ h => h) (Or.inl ⟨rfl, ?yq10_11⟩) (by assumption) ?_
            case yq10_11 => intro w hSw; (try dsimp only at hSw); go_simp; (try with_reducible rfl)
            (try simp only [Act.put, List.getElem_toArray, List.getElem_cons_succ, List.getElem_cons_zero, List.setIfInBounds_toArray, List.set_cons_zero, List.set_cons_succ])
            refine wpAnyH_take (i := 12) (oi := _) (v := ?vq11_12) rfl (by kernel_rfl) (by kernel_rfl) (by kernel_rfl) (fun _ _ _ h => h) (Or.inl ⟨rfl, ?yq11_12⟩) (by assumption) ?_
            case yq11_12 => intro w hSw; (try dsimp only at hSw); go_simp; (try with_reducible rfl)
            (try simp only [Act.put, List.getElem_toArray, List.getElem_cons_succ, List.getElem_cons_zero, List.setIfInBounds_toArray, List.set_cons_zero, List.set_cons_succ])
            refine wpAnyH_take (i := 13) (oi := _) (v := ?vq12_13) rfl (by kernel_rfl) (by kernel_rfl) (by kernel_rfl) (fun _ _ _ h => h) (Or.inl ⟨rfl, ?yq12_13⟩) (by assumption) ?_
            case yq12_13 => intro w hSw; (try dsimp only at hSw); ((refine exec_load_f2 (.tmp 18) ?_ ?_ hSw.2.1) <;> rfl)
            (try simp only [Act.put, List.getElem_toArray, List.getElem_cons_succ, List.getElem_cons_zero, List.setIfInBounds_toArray, List.set_cons_zero, List.set_cons_succ])
            refine wpAnyH_take (i := 14) (oi := _) (v := ?vq13_14) rfl (by kernel_rfl) (by kernel_rfl) (by kernel_rfl) (fun _ _ _ h => h) (Or.inl ⟨rfl, ?yq13_14⟩) (by assumption) ?_
            case yq13_14 => intro w hSw; (try dsimp only at hSw); ((refine exec_load_f2 (.tmp 20) ?_ ?_ hSw.2.2) <;> rfl)
            (try simp only [Act.put, List.getElem_toArray, List.getElem_cons_succ, List.getElem_cons_zero, List.setIfInBounds_toArray, List.set_cons_zero, List.set_cons_succ])
            refine wpAnyH_ready (rs := [15]) (by kernel_rfl) (by simp) ?_
            refine (AllReadyH.cons (o := _) rfl (fun K hK => ?_) AllReadyH.nil)
            go_simp
            go_at_call 24
            refine (HSM.out _ hq).mono ?_
            rintro e y3 ⟨rfl, hy3⟩
            have hq := hq.trans (hy3.mono hq.size)
            refine hK.out _ _ ?_ (fun hHeld => ?_)
            · (try dsimp only); exact KEEP.out _ hq
            clear hK K
            (try simp only [Act.put, List.getElem_toArray, List.getElem_cons_succ, List.getElem_cons_zero, List.setIfInBounds_toArray, List.set_cons_zero, List.set_cons_succ])
            refine wpAnyH_take (i := 16) (oi := _) (v := ?vq14_16) rfl (by kernel_rfl) (by kernel_rfl) (by kernel_rfl) (fun _ _ _ h => h) (Or.inl ⟨rfl, ?yq14_16⟩) (by assumption) ?_
            case yq14_16 => intro w hSw; (try dsimp only at hSw); go_simp; (try with_reducible rfl)
            (try simp only [Act.put, List.getElem_toArray, List.getElem_cons_succ, List.getElem_cons_zero, List.setIfInBounds_toArray, List.set_cons_zero, List.set_cons_succ])
            refine wpAnyH_take (i := 17) (oi := _) (v := ?vq15_17) rfl (by kernel_rfl) (by kernel_rfl) (by kernel_rfl) (fun _ _ _ h => h) (Or.inl ⟨rfl, ?yq15_17⟩) (by assumption) ?_
            case yq15_17 => intro w hSw; (try dsimp only at hSw); go_simp; (try with_reducible rfl)
            (try simp only [Act.put, List.getElem_toArray, List.getElem_cons_succ, List.getElem_cons_zero, List.setIfInBounds_toArray, List.set_cons_zero, List.set_cons_succ])
            refine wpAnyH_take (i := 18) (oi := _) (v := ?vq16_18) rfl (by kernel_rfl) (by kernel_rfl) (by kernel_rfl) (fun _ _ _ h => h) (Or.inl ⟨rfl, ?yq16_18⟩) (by assumption) ?_
            case yq16_18 => intro w hSw; (try dsimp only at hSw); go_simp; (try with_reducible rfl)
            (try simp only [Act.put, List.getElem_toArray, List.getElem_cons_succ, List.getElem_cons_zero, List.setIfInBounds_toArray, List.set_cons_zero, List.set_cons_succ])
            refine wpAnyH_take (i := 19) (oi := _) (v := ?vq17_19) rfl (by kernel_rfl) (by kernel_rfl) (by kernel_rfl) (fun _ _ _ h => h) (Or.inl ⟨rfl, ?yq17_19⟩) (by assumption) ?_
            case yq17_19 => intro w hSw; (try dsimp only at hSw); go_simp; (try with_reducible rfl)
            (try simp only [Act.put, List.getElem_toArray, List.getElem_cons_succ, List.getElem_cons_zero, List.setIfInBounds_toArray, List.set_cons_zero, List.set_cons_succ])
            refine wpAnyH_take (i := 20) (oi := _) (v := ?vq18_20) rfl (by kernel_rfl) (by kernel_rfl) (by kernel_rfl) (fun _ _ _ h => h) (Or.inl ⟨rfl, ?yq18_20⟩) (by assumption) ?_
            case yq18_20 => intro w hSw; (try dsimp only at hSw); go_simp; (try with_reducible rfl)
            (try simp only [Act.put, List.getElem_toArray, List.getElem_cons_succ, List.getElem_cons_zero, List.setIfInBounds_toArray, List.set_cons_zero, List.set_cons_succ])
            refine wpAnyH_take (i := 21) (oi := _) (v := ?vq19_21) rfl (by kernel_rfl) (by kernel_rfl) (by kernel_rfl) (fun _ _ _ h => h) (Or.inl ⟨rfl, ?yq19_21⟩) (by assumption) ?_
            case yq19_21 => intro w hSw; (try dsimp only at hSw); go_simp; (try with_reducible rfl)
            (try simp only [Act.put, List.getElem_toArray, List.getElem_cons_succ, List.getElem_cons_zero, List.setIfInBounds_toArray, List.set_cons_zero, List.set_cons_succ])
            refine wpAnyH_take (i := 22) (oi := _) (v := ?vq20_22) rfl (by kernel_rfl) (by kernel_rfl) (by kernel_rfl) (fun _ _ _ h => h) (Or.inl ⟨rfl, ?yq20_22⟩) (by assumption) ?_
            case yq20_22 => intro w hSw; (try dsimp only at hSw); go_simp; (try with_reducible rfl)
            (try simp only [Act.put, List.getElem_toArray, List.getElem_cons_succ, List.getElem_cons_zero, List.setIfInBounds_toArray, List.set_cons_zero, List.set_cons_succ])
            refine wpAnyH_take (i := 23) (oi := _) (v := ?vq21_23) rfl (by kernel_rfl) (by kernel_rfl) (by kernel_rfl) (fun _ _ _ h => h) (Or.inl ⟨rfl, ?yq21_23⟩) (by assumption) ?_
            case yq21_23 => intro w hSw; (try dsimp only at hSw); go_simp; (try with_reducible rfl)
            (try simp only [Act.put, List.getElem_toArray, List.getElem_cons_succ, List.getElem_cons_zero, List.setIfInBounds_toArray, List.set_cons_zero, List.set_cons_succ])
            refine wpAnyH_take (i := 24) (oi := _) (v := ?vq22_24) rfl (by kernel_rfl) (by kernel_rfl) (by kernel_rfl) (fun _ _ _ h => h) (Or.inl ⟨rfl, ?yq22_24⟩) (by assumption) ?_
            case yq22_24 => intro w hSw; (try dsimp only at hSw); go_simp; (try with_reducible rfl)
            (try simp only [Act.put, List.getElem_toArray, List.getElem_cons_succ, List.getElem_cons_zero, List.setIfInBounds_toArray, List.set_cons_zero, List.set_cons_succ])
            refine wpAnyH_take (i := 25) (oi := _) (v := ?vq23_25) rfl (by kernel_rfl) (by kernel_rfl) (by kernel_rfl) (fun _ _ _ h => h) (Or.inl ⟨rfl, ?yq23_25⟩) (by assumption) ?_
            case yq23_25 => intro w hSw; (try dsimp only at hSw); go_simp; (try with_reducible rfl)
            (try simp only [Act.put, List.getElem_toArray, List.getElem_cons_succ, List.getElem_cons_zero, List.setIfInBounds_toArray, List.set_cons_zero, List.set_cons_succ])
            refine wpAnyH_take (i := 26) (oi := _) (v := ?vq24_26) rfl (by kernel_rfl) (by kernel_rfl) (by kernel_rfl) (fun _ _ _ h => h) (Or.inl ⟨rfl, ?yq24_26⟩) (by assumption) ?_
            case yq24_26 => intro w hSw; (try dsimp only at hSw); go_simp; (try with_reducible rfl)
            (try simp only [Act.put, List.getElem_toArray, List.getElem_cons_succ, List.getElem_cons_zero, List.setIfInBounds_toArray, List.set_cons_zero, List.set_cons_succ])
            refine wpAnyH_take (i := 27) (oi := _) (v := ?vq25_27) rfl (by kernel_rfl) (by kernel_rfl) (by kernel_rfl) (fun _ _ _ h => h) (Or.inl ⟨rfl, ?yq25_27⟩) (by assumption) ?_
            case yq25_27 => intro w hSw; (try dsimp only at hSw); go_simp; (try with_reducible rfl)
            (try simp only [Act.put, List.getElem_toArray, List.getElem_cons_succ, List.getElem_cons_zero, List.setIfInBounds_toArray, List.set_cons_zero, List.set_cons_succ])
            refine wpAnyH_done (by kernel_rfl) ?_ _
            clear hHeld
            have hbE := HBQ.out.trans (hq.mono HBQ.out.size)
            clear hq KEEP HVP HVR HSM
            go_wp2_with fail
            exact ⟨⟨j + 1, by omega, by go_num, hbE⟩, by simp [intOf]; omega⟩
          · obtain rfl : j = 3 := by omega
            have hbD := HBC.out.trans (hbq.mono HBC.out.size)
            go_wp2_with fail
            exact ⟨⟨k + 1, by omega, by go_num, hbD⟩, by simp [intOf]; omega⟩
      · obtain rfl : k = 2 := by omega
        go_wp2_with fail
        refine (haw.out _).mono ?_
        rintro e wz ⟨rfl, hbz⟩
        have hbw := hbB.trans (hbr.mono hbB.size)
        go_wp2_with fail
        go_ret
        exact ⟨rfl, hbw.trans (hbz.mono hbw.size)⟩
  · skip
    have q27 := c27 hy7
    have z27 := hy7.fz 27
    have hg8 := set_grown w7 w2.heap.size 27 (.int .i64 5)
    have hy8 := Bx.set hy7 27 (.int .i64 5) { s1 with sm := 5 } (.slice PA pn pc) rfl
    have hx8 := hx7.kept hg8 (fun e => by injection e; omega)
    have hf8 := hf7.kept hg8 (fun e => by injection e; omega)
    have hG8 := hG7.kept hg8 (fun e => by injection e; omega)
    have hown8 := Tl.pown_far hown7 hy7 hg8
    have hob8 := own_kept' hob7 hg8 (by omega)
    have hb8 := hb7.grown hg8 hb7.size (fun k hk => by injection hk; omega)
    have hdz8 := hdz7.grown hg8 (fun e => by injection e; omega) (fun k hk => by injection hk; omega)
    have hsz8 := hg8.size
    clear hx7 hf7 hy7 hG7 hown7 hob7 hb7 hdz7 hg8
    go_wp2_with fail
    generalize w7.setCell ⟨w2.heap.size, 27, none⟩ (.int .i64 5) = w8 at *
    refine (hdz8.next 3 (by omega) (by omega)).mono ?_
    rintro e w9 ⟨r3, hr3, rfl, -, hg9⟩
    have hx9 := hx8.kept hg9 (fun e => by injection e; omega)
    have hf9 := hf8.kept hg9 (fun e => by injection e; omega)
    have hy9 := hy8.kept hg9 (fun e => by injection e; omega)
    have hG9 := hG8.kept hg9 (fun e => by injection e; omega)
    have hown9 := D5.pown_kept hown8 hg9 hs1
    have hob9 := own_kept hob8 hg9 (by omega)
    have hb9 := hb8.grown hg9 hb8.size (fun k hk => by injection hk; omega)
    have q1 := hG9.c1
    have z1 := hG9.fz 1
    have hgA := set_grown w9 w5.heap.size 1 (.int .i64 (r3 : Int))
    have hx7 := hx9.kept hgA (fun e => by injection e; omega)
    have hf7 := hf9.kept hgA (fun e => by injection e; omega)
    have hy7 := hy9.kept hgA (fun e => by injection e; omega)
    have hG7 : FBx (w9.setCell ⟨w5.heap.size, 1, none⟩ (.int .i64 (r3 : Int))) w5.heap.size (.slice WA wn wc) (r3 : Int) := heap_setCell_same w9 w5.heap.size 1 _ _ (.int .i64 (r3 : Int)) hG9
    have hobA := own_far_f hob9 hG9 hgA
    have hownA := pown_far_f hown9 hG9 hgA
    have hws := sl_own hobA (own_len hobA)
    have hps := psl_own' hownA
    have hb7 := hb9.grown hgA hb9.size (fun k hk => by injection hk; omega)
    have hnm2 : ({ s1 with sm := 5 } : Sn).nm.size ≤ maxLen := hnm1
    have hps : PSl (w9.setCell ⟨w5.heap.size, 1, none⟩ (.int .i64 (r3 : Int))) PA pn pc ({ s1 with sm := 5 } : Sn).c.p := hps
    obtain ⟨s2, hs2⟩ : ∃ s2 : Sn, s2 = { s1 with sm := 5 } := ⟨_, rfl⟩
    rw [← hs2] at hy7 hps hnm2
    clear hx8 hf8 hy8 hG8 hown8 hob8 hb8 hdz8 hx9 hf9 hy9 hG9 hown9 hob9 hb9 hgA hobA hownA hg9 hs2
    have hbR := (Below.refl (w9.setCell ⟨w5.heap.size, 1, none⟩ (.int .i64 (r3 : Int))).heap.size (w9.setCell ⟨w5.heap.size, 1, none⟩ (.int .i64 (r3 : Int)))).alloc (Nat.le_refl _) (.cells (cells s0 (.slice SA sn sc) ++ cells s2 (.slice PA pn pc)) 32)
    have hrow := heap_alloc_new (w9.setCell ⟨w5.heap.size, 1, none⟩ (.int .i64 (r3 : Int))) (.cells (cells s0 (.slice SA sn sc) ++ cells s2 (.slice PA pn pc)) 32)
    have hbB := hb7.trans (hbR.mono hb7.size)
    have HREC := Lib.hid (rec_at hrow (HSL.out.step hbB) (hps.step hbR) hnm0 hnm2)
    have hfB := hf7.below hbR
    have hGB := hG7.below hbR
    have hs0B := HF0.out.step hbB
    have hwsB := hws.step hbR
    clear hrow hbR
    go_wp2_with (first | (refine wpList_load_bx rfl (.tmp 5) rfl _ _ _ rfl hx7 ?_) | (refine wpList_load_bx rfl (.tmp 12) rfl _ _ _ rfl hy7 ?_) | (refine wpList_build2 rfl (.tmp 52) (.tmp 53) rfl s0 s2 (.slice SA sn sc) (.slice PA pn pc) rfl rfl ?_))
    obtain ⟨gr, hgr⟩ : ∃ gr, gr = w9.heap.size := ⟨_, rfl⟩
    rw [show (w9.setCell ⟨w5.heap.size, 1, none⟩ (.int .i64 (r3 : Int))).heap.size = gr from by first | (rw [hgr]; done) | (rw [hgr]; simp)] at HREC
    rw [← hgr]
    clear hgr
    generalize (w9.setCell ⟨w5.heap.size, 1, none⟩ (.int .i64 (r3 : Int))).alloc (.cells (cells s0 (.slice SA sn sc) ++ cells s2 (.slice PA pn pc)) 32) = wB at *
    clear hx7 hy7 hf7 hG7 hps hws hb7
    have HFB := Lib.hid hfB
    have HGB := Lib.hid hGB
    have HS0 := Lib.hid hs0B
    have HWS := Lib.hid hwsB
    have hlF := hfB.lt
    have hlG := hGB.lt
    clear hfB hGB hs0B hwsB
    obtain ⟨m5, hm5⟩ : ∃ m5 : Int, m5 = (r3 : Int) := ⟨_, rfl⟩
    rw [← hm5] at HGB
    clear hm5
    go_loopw [56] (fun i wr => ∃ k : Nat, k ≤ 2 ∧ i = .int .i64 (k : Int) ∧ Below wB.heap.size wB wr) (fun i _ => 2 - (intOf i).toNat)
    case atStart => exact ⟨0, by omega, rfl, Below.refl _ _⟩
    case round =>
      obtain ⟨k, hk, rfl, hbr⟩ := hrel
      by_cases hk2 : k < 2
      · obtain ⟨x, XA, xn, xc, hrg, hpx, hmx⟩ := HREC.out wr hbr k hk2
        have hzb := Bx.zero wr
        have hba := (Below.refl wr.heap.size wr).alloc (Nat.le_refl _) (.cells #[.int .u8 0, .int .u8 0, .int .u8 0, .string ⟨#[]⟩, .int .u8 0, .int .u8 0, .bool false, .int .i64 0, .bool false, .int .i64 0, .int .i64 0, .int .i64 0, .int .i64 0, .slice none 0 0, .int .u8 0, .int .u8 0, .int .u8 0, .int .u8 0, .int .u8 0, .int .u8 0, .int .u8 0, .int .u8 0, .int .u8 0, .int .u16 0, .int .u16 0, .int .u16 0, .bool false, .int .i64 0] 32)
        go_wp2_with (first
          | (refine wpList_load_mid rfl _ (.tmp 58) rfl gr (k * 28) (by simp [Act.eval]) (cells x (.slice XA xn xc)).toList _ hrg Try.underlying32 rfl (by kernel_rfl) ?_)
          | (refine wpList_store_bx rfl (.tmp 15) (.tmp 59) rfl wr.heap.size x noSn (.slice XA xn xc) (.slice none 0 0) rfl rfl rfl hzb ?_; intro w10 hx10 hg10; refine Hid.out ?_))
        refine Lib.hid ?_
        have hb10 := hba.grown hg10 hba.size (fun k hk => by injection hk; omega)
        have hbB10 := hbr.trans (hb10.mono hbr.size)
        have hpx10 := hpx.step hb10
        have hf10 := HFB.out.below hbB10
        have hG10 := HGB.out.below hbB10
        have f0 := hf10.c0
        have f1 := hf10.c1
        have q0 := hG10.c0
        have q1 := hG10.c1
        have hbC := (Below.refl w10.heap.size w10).alloc (Nat.le_refl _) (.cells #[.slice FA0 fn0 fc0, .int .i64 fm0, .slice WA wn wc, .int .i64 m5, .slice none 0 0, .int .i64 0] 35)
        have hrow3 := heap_alloc_new w10 (.cells #[.slice FA0 fn0 fc0, .int .i64 fm0, .slice WA wn wc, .int .i64 m5, .slice none 0 0, .int .i64 0] 35)
        have HFIL := Lib.hid (fil_at hrow3 (HS0.out.step (hbB10.trans (hbC.mono hbB10.size))) (HWS.out.step (hbB10.trans (hbC.mono hbB10.size))))
        have hx11 := hx10.below hbC
        have hpx11 := hpx10.step hbC
        have hbB11 := hbB10.trans (hbC.mono hbB10.size)
        clear hba hg10 hzb hrg hpx hb10 hbB10 hpx10 hf10 hG10 hrow3 hbC hx10 hbr
        go_wp2_with fail
        obtain ⟨g3, hg3e⟩ : ∃ g, g = w10.heap.size := ⟨_, rfl⟩
        rw [← hg3e] at HFIL ⊢
        clear hg3e
        generalize w10.alloc (.cells #[.slice FA0 fn0 fc0, .int .i64 fm0, .slice WA wn wc, .int .i64 m5, .slice none 0 0, .int .i64 0] 35) = wC at *
        obtain ⟨b15, hb15⟩ : ∃ b, b = wr.heap.size := ⟨_, rfl⟩
        rw [← hb15] at hx11 ⊢
        clear hb15 f0 f1 q0 q1
        have HX := Lib.hid hx11
        have HP := Lib.hid hpx11
        have HBC := Lib.hid hbB11
        have hl15 := hx11.lt
        clear hx11 hpx11 hbB11
        go_loopw [65] (fun i wq => ∃ j : Nat, j ≤ 3 ∧ i = .int .i64 (j : Int) ∧ Below wC.heap.size wC wq) (fun i _ => 3 - (intOf i).toNat)
        case atStart => exact ⟨0, by omega, rfl, Below.refl _ _⟩
        case round =>
          obtain ⟨j, hj, rfl, hbq⟩ := hrel
          by_cases hj3 : j < 3
          · obtain ⟨FA, fn, fc, lf, m, hrf, hsf⟩ := HFIL.out wr hbq j hj3
            have hx0 := HX.out.below hbq
            have hp0 := HP.out.step hbq
            have hbA := (Below.refl wr.heap.size wr).alloc (Nat.le_refl _) (.cells #[.slice FA fn fc, .int .i64 m] 35)
            have hfA : FBx (wr.alloc (.cells #[.slice FA fn fc, .int .i64 m] 35)) wr.heap.size (.slice FA fn fc) m := heap_alloc_new wr _
            have hxA := hx0.below hbA
            have hpA := hp0.step hbA
            have hsA := hsf.step hbA
            have hbqA := hbq.trans (hbA.mono hbq.size)
            have c0 := hfA.c0
            have c1 := hfA.c1
            obtain ⟨W, hW⟩ : ∃ W, W = stW (vs x) x.sm lf m raw ok := ⟨_, rfl⟩
            obtain ⟨M, hM⟩ : ∃ M, M = stM (vs x) x.sm lf m ok := ⟨_, rfl⟩
            obtain ⟨E, hE⟩ : ∃ E, E = stE (vs x) x.sm lf m := ⟨_, rfl⟩
            obtain ⟨b, hbe⟩ : ∃ b, b = full x lf m := ⟨_, rfl⟩
            obtain ⟨vb, hvb⟩ : ∃ vb, vb = vf (vs x) x.sm lf m := ⟨_, rfl⟩
            have HSP := Lib.hid fun (u : World) (hu : PSl u XA xn xc x.c.p) (hf : Sl u FA fn fc lf) => step_p x XA xn xc FA fn fc lf m raw ok u hu hmx hf
            have HSR := Lib.hid fun (u : World) (hu : PSl u XA xn xc x.c.p) (hf : Sl u FA fn fc lf) => step_r x XA xn xc FA fn fc lf m raw ok u hu hmx hf
            have HRP := Lib.hid fun (u : World) (hu : PSl u XA xn xc x.c.p) (hf : Sl u FA fn fc lf) => read_p x XA xn xc FA fn fc lf m u hu hmx hf
            have HRR := Lib.hid fun (u : World) (hu : PSl u XA xn xc x.c.p) (hf : Sl u FA fn fc lf) => read_r x XA xn xc FA fn fc lf m u hu hmx hf
            have HVP0 := Lib.hid fun (u : World) (hu : PSl u XA xn xc x.c.p) (hf : Sl u FA fn fc lf) => fvalid_p x XA xn xc FA fn fc lf m u hu hmx hf
            have HVR0 := Lib.hid fun (u : World) (hu : PSl u XA xn xc x.c.p) (hf : Sl u FA fn fc lf) => fvalid_r x XA xn xc FA fn fc lf m u hu hmx hf
            rw [← hW, ← hM, ← hE] at HSP HSR
            rw [← hbe] at HRP HRR
            rw [← hvb] at HVP0 HVR0
            have e1 : (vb != vb) = false := by cases vb <;> rfl
            have e2 : (E != E) = false := by simp
            have e4 : (b != b) = false := by cases b <;> rfl
            clear hW hM hE hbe hvb hx0 hp0 hsf hbA
            go_wp2_with (first
              | (refine wpList_load_mid rfl _ (.tmp 67) rfl g3 (j * 2) (by simp [Act.eval]) [.slice FA fn fc, .int .i64 m] _ hrf Try.underlying35 rfl (by kernel_rfl) ?_)
              | (refine wpList_load_bx rfl (.tmp 15) rfl _ _ _ rfl hxA ?_))
            refine (HSP.out _ hpA hsA).mono ?_
            rintro e u1 ⟨A1, n1, d1, rfl, ⟨hw1, -⟩, hu1⟩
            have hu1b := hu1.alloc hu1.size (.cells #[.slice A1 n1 d1, .int .i64 M] 35)
            have h18 : FBx (u1.alloc (.cells #[.slice A1 n1 d1, .int .i64 M] 35)) u1.heap.size (.slice A1 n1 d1) M := heap_alloc_new u1 _
            have hx1 := hxA.below hu1b
            have hf1 := hfA.below hu1b
            have hp1 := hpA.step hu1b
            have hs1 := hsA.step hu1b
            have hw1 := hw1.step ((Below.refl u1.heap.size u1).alloc (Nat.le_refl _) (.cells #[.slice A1 n1 d1, .int .i64 M] 35))
            have hbq1 := hbqA.trans (hu1b.mono hbqA.size)
            have c0 := hf1.c0
            have c1 := hf1.c1
            clear hxA hfA hpA hsA hbqA hu1 hu1b hrf
            go_wp2_with (refine wpList_load_bx rfl (.tmp 15) rfl _ _ _ rfl hx1 ?_)
            obtain ⟨b18, hb18⟩ : ∃ b, b = u1.heap.size := ⟨_, rfl⟩
            obtain ⟨b17, hb17⟩ : ∃ b, b = wr.heap.size := ⟨_, rfl⟩
            rw [← hb18] at h18 ⊢
            rw [← hb17] at hf1 c0 c1 ⊢
            clear hb18 hb17
            generalize u1.alloc (.cells #[.slice A1 n1 d1, .int .i64 M] 35) = v1 at *
            refine (HSR.out _ hp1 hs1).mono ?_
            rintro e u2 ⟨A2, n2, d2, rfl, ⟨hw2, -⟩, hu2⟩
            have hu2b := hu2.alloc hu2.size (.cells #[.slice A2 n2 d2, .int .i64 M] 35)
            have h20 : FBx (u2.alloc (.cells #[.slice A2 n2 d2, .int .i64 M] 35)) u2.heap.size (.slice A2 n2 d2) M := heap_alloc_new u2 _
            have hx2 := hx1.below hu2b
            have hf2 := hf1.below hu2b
            have h18 := h18.below hu2b
            have hp2 := hp1.step hu2b
            have hs2 := hs1.step hu2b
            have hw1 := hw1.step hu2b
            have hw2 := hw2.step ((Below.refl u2.heap.size u2).alloc (Nat.le_refl _) (.cells #[.slice A2 n2 d2, .int .i64 M] 35))
            have hbq2 := hbq1.trans (hu2b.mono hbq1.size)
            have c0 := hf2.c0
            have c1 := hf2.c1
            clear hx1 hf1 hp1 hs1 hbq1 hu2 hu2b
            go_wp2_with (refine wpList_load_bx rfl (.tmp 15) rfl _ _ _ rfl hx2 ?_)
            obtain ⟨b20, hb20⟩ : ∃ b, b = u2.heap.size := ⟨_, rfl⟩
            rw [← hb20] at h20 ⊢
            clear hb20
            generalize u2.alloc (.cells #[.slice A2 n2 d2, .int .i64 M] 35) = v2 at *
            refine (HRP.out _ hp2 hs2).mono ?_
            rintro e v3 ⟨x1, hm1, hm2, rfl, hu3⟩
            have hx3 := hx2.below hu3
            have hf3 := hf2.below hu3
            have h18 := h18.below hu3
            have h20 := h20.below hu3
            have hp3 := hp2.step hu3
            have hs3 := hs2.step hu3
            have hw1 := hw1.step hu3
            have hw2 := hw2.step hu3
            have hbq3 := hbq2.trans (hu3.mono hbq2.size)
            have c0 := hf3.c0
            have c1 := hf3.c1
            clear hx2 hf2 hp2 hs2 hbq2 hu3
            go_wp2_with (refine wpList_load_bx rfl (.tmp 15) rfl _ _ _ rfl hx3 ?_)
            refine (HRR.out _ hp3 hs3).mono ?_
            rintro e v4 ⟨x2, hm3, hm4, rfl, hu4⟩
            obtain rfl : x1 = x2 := full_read hm1 hm3 hm2 hm4
            have hx4 := hx3.below hu4
            have hf4 := hf3.below hu4
            have h18 := h18.below hu4
            have h20 := h20.below hu4
            have hp4 := hp3.step hu4
            have hs4 := hs3.step hu4
            have hw1 := hw1.step hu4
            have hw2 := hw2.step hu4
            have hbq4 := hbq3.trans (hu4.mono hbq3.size)
            have e3 : (((x1.toNat : Nat) : Int) != ((x1.toNat : Nat) : Int)) = false := by simp
            clear hx3 hf3 hp3 hs3 hbq3 hu4 hm1 hm2 hm3 hm4 c0 c1
            go_wp2_with fail
            obtain ⟨v, hvd⟩ : ∃ u, u = v4.drew := ⟨_, rfl⟩
            have hq : Below v4.heap.size v4 v := by rw [hvd]; exact below_drew (Below.refl _ _)
            have KEEP : Hid (∀ U, Below v4.heap.size v4 U → (Bx U b15 x (.slice XA xn xc) ∧ FBx U b17 (.slice FA fn fc) m) ∧ FBx U b18 (.slice A1 n1 d1) M ∧ FBx U b20 (.slice A2 n2 d2) M) := Lib.hid fun U hU => ⟨⟨hx4.below hU, hf4.below hU⟩, h18.below hU, h20.below hU⟩
            have HVP : Hid (∀ u, Below v4.heap.size v4 u → Calls Try.prog 22 #[.agg (cells x (.slice XA xn xc)), .agg #[.slice FA fn fc, .int .i64 m]] u fun e w' => e = .returned (.bool vb) ∧ Below u.heap.size u w') := Lib.hid fun u hu => HVP0.out u (hp4.step hu) (hs4.step hu)
            have HVR : Hid (∀ u, Below v4.heap.size v4 u → Calls Try.prog 23 #[.agg (cells x (.slice XA xn xc)), .agg #[.slice FA fn fc, .int .i64 m]] u fun e w' => e = .returned (.bool vb) ∧ Below u.heap.size u w') := Lib.hid fun u hu => HVR0.out u (hp4.step hu) (hs4.step hu)
            have HSM : Hid (∀ u, Below v4.heap.size v4 u → Calls Try.prog 24 #[.agg #[.slice A1 n1 d1, .int .i64 M], .agg #[.slice A2 n2 d2, .int .i64 M]] u fun e w' => e = .returned (.bool true) ∧ Below u.heap.size u w') := Lib.hid fun u hu => by
              have := same_f A1 A2 n1 d1 n2 d2 W W M M u (hw1.step hu) (hw2.step hu)
              rw [decide_eq_true (rfl : M = M), decide_eq_true (rfl : W = W)] at this
              exact this
            have HBQ := Lib.hid hbq4
            clear hx4 hf4 h18 h20 hp4 hs4 hw1 hw2 hbq4 HSP HSR HRP HRR HVP0 HVR0
            refine wp_region_held_drew (S := (fun W => (Bx W b15 x (.slice XA xn xc) ∧ FBx W b17 (.slice FA fn fc) m) ∧ FBx W b18 (.slice A1 n1 d1) M ∧ FBx W b20 (.slice A2 n2 d2) M)) (by kernel_rfl) ?_ (fun hHeld => ?_)
            · (try dsimp only); rw [← hvd]; exact KEEP.out _ hq
            generalize v4.drew = vg at *
            subst hvd
            refine wpAnyH_take (i := 0) (oi := _) (v := ?vq26_0) rfl (by kernel_rfl) (by kernel_rfl) (by kernel_rfl) (fun _ _ _ h => h) (Or.inl ⟨rfl, ?yq26_0⟩) (by assumption) ?_
            case yq26_0 => intro w hSw; (try dsimp only at hSw); ((refine exec_load_bx2 (.tmp 15) ?_ ?_ hSw.1.1) <;> rfl)
            (try simp only [Act.put, List.getElem_toArray, List.getElem_cons_zero, List.setIfInBounds_toArray, List.set_cons_zero, List.set_cons_succ])
            refine wpAnyH_take (i := 1) (oi := _) (v := ?vq27_1) rfl (by kernel_rfl) (by kernel_rfl) (by kernel_rfl) (fun _ _ _ h => h) (Or.inl ⟨rfl, ?yq27_1⟩) (by assumption) ?_
            case yq27_1 => intro w hSw; (try dsimp only at hSw); ((refine exec_load_f2 (.tmp 17) ?_ ?_ hSw.1.2) <;> rfl)
            (try simp only [Act.put, List.getElem_toArray, List.getElem_cons_succ, List.getElem_cons_zero, List.setIfInBounds_toArray, List.set_cons_zero, List.set_cons_succ])
            refine wpAnyH_take (i := 3) (oi := _) (v := ?vq28_3) rfl (by kernel_rfl) (by kernel_rfl) (by kernel_rfl) (fun _ _ _ h => h) (Or.inl ⟨rfl, ?yq28_3⟩) (by assumption) ?_
            case yq28_3 => intro w hSw; (try dsimp only at hSw); ((refine exec_load_bx2 (.tmp 15) ?_ ?_ hSw.1.1) <;> rfl)
            (try simp only [Act.put, List.getElem_toArray, List.getElem_cons_succ, List.getElem_cons_zero, List.setIfInBounds_toArray, List.set_cons_zero, List.set_cons_succ])
            refine wpAnyH_take (i := 4) (oi := _) (v := ?vq29_4) rfl (by kernel_rfl) (by kernel_rfl) (by kernel_rfl) (fun _ _ _ h => h) (Or.inl ⟨rfl, ?yq29_4⟩) (by assumption) ?_
            case yq29_4 => intro w hSw; (try dsimp only at hSw); ((refine exec_load_f2 (.tmp 17) ?_ ?_ hSw.1.2) <;> rfl)
            (try simp only [Act.put, List.getElem_toArray, List.getElem_cons_succ, List.getElem_cons_zero, List.setIfInBounds_toArray, List.set_cons_zero, List.set_cons_succ])
            refine wpAnyH_ready (rs := [2]) (by kernel_rfl) (by simp) ?_
            refine (AllReadyH.cons (o := _) rfl (fun K hK => ?_) AllReadyH.nil)
            go_simp
            go_at_call 22
            refine (HVP.out _ hq).mono ?_
            rintro e y1 ⟨rfl, hy1⟩
            have hq := hq.trans (hy1.mono hq.size)
            refine hK.out _ _ ?_ (fun hHeld => ?_)
            · (try dsimp only); exact KEEP.out _ hq
            clear hK K
            (try simp only [Act.put, List.getElem_toArray, List.getElem_cons_succ, List.getElem_cons_zero, List.setIfInBounds_toArray, List.set_cons_zero, List.set_cons_succ])
            refine wpAnyH_ready (rs := [5]) (by kernel_rfl) (by simp) ?_
            refine (AllReadyH.cons (o := _) rfl (fun K hK => ?_) AllReadyH.nil)
            go_simp
            go_at_call 23
            refine (HVR.out _ hq).mono ?_
            rintro e y2 ⟨rfl, hy2⟩
            have hq := hq.trans (hy2.mono hq.size)
            refine hK.out _ _ ?_ (fun hHeld => ?_)
            · (try dsimp only); exact KEEP.out _ hq
            clear hK K
            (try simp only [Act.put, List.getElem_toArray, List.getElem_cons_succ, List.getElem_cons_zero, List.setIfInBounds_toArray, List.set_cons_zero, List.set_cons_succ])
            refine wpAnyH_take (i := 6) (oi := _) (v := ?vq30_6) rfl (by kernel_rfl) (by kernel_rfl) (by kernel_rfl) (fun _ _ _ h => h) (Or.inl ⟨rfl, ?yq30_6⟩) (by assumption) ?_
            case yq30_6 => intro w hSw; (try dsimp only at hSw); go_simp; (try with_reducible rfl)
            (try simp only [Act.put, List.getElem_toArray, List.getElem_cons_succ, List.getElem_cons_zero, List.setIfInBounds_toArray, List.set_cons_zero, List.set_cons_succ])
            refine wpAnyH_take (i := 7) (oi := _) (v := ?vq31_7) rfl (by kernel_rfl) (by kernel_rfl) (by kernel_rfl) (fun _ _ _ h => h) (Or.inl ⟨rfl, ?yq31_7⟩) (by assumption) ?_
            case yq31_7 => intro w hSw; (try dsimp only at hSw); go_simp; (try with_reducible rfl)
            (try simp only [Act.put, List.getElem_toArray, List.getElem_cons_succ, List.getElem_cons_zero, List.setIfInBounds_toArray, List.set_cons_zero, List.set_cons_succ])
            refine wpAnyH_take (i := 8) (oi := _) (v := ?vq32_8) rfl (by kernel_rfl) (by kernel_rfl) (by kernel_rfl) (fun _ _ _ h => h) (Or.inl ⟨rfl, ?yq32_8⟩) (by assumption) ?_
            case yq32_8 => intro w hSw; (try dsimp only at hSw); go_simp; (try with_reducible rfl)
            (try simp only [Act.put, List.getElem_toArray, List.getElem_cons_succ, List.getElem_cons_zero, List.setIfInBounds_toArray, List.set_cons_zero, List.set_cons_succ])
            refine wpAnyH_take (i := 9) (oi := _) (v := ?vq33_9) rfl (by kernel_rfl) (by kernel_rfl) (by kernel_rfl) (fun _ _ _ h => h) (Or.inl ⟨rfl, ?yq33_9⟩) (by assumption) ?_
            case yq33_9 => intro w hSw; (try dsimp only at hSw); go_simp; (try with_reducible rfl)
            (try simp only [Act.put, List.getElem_toArray, List.getElem_cons_succ, List.getElem_cons_zero, List.setIfInBounds_toArray, List.set_cons_zero, List.set_cons_succ])
            refine wpAnyH_take (i := 10) (oi := _) (v := ?vq34_10) rfl (by kernel_rfl) (by kernel_rfl) (by kernel_rfl) (fun _ _ _ h => h) (Or.inl ⟨rfl, ?yq34_10⟩) (by assumption) ?_
            case yq34_10 => intro w hSw; (try dsimp only at hSw); go_simp; (try with_reducible rfl)
            (try simp only [Act.put, List.getElem_toArray, List.getElem_cons_succ, List.getElem_cons_zero, List.setIfInBounds_toArray, List.set_cons_zero, List.set_cons_succ])
            refine wpAnyH_take (i := 11) (oi := _) (v := ?vq35_11) rfl (by kernel_rfl) (by kernel_rfl) (by kernel_rfl) (fun _ _ _ h => h) (Or.inl ⟨rfl, ?yq35_11⟩) (by assumption) ?_
            case yq35_11 => intro w hSw; (try dsimp only at hSw); go_simp; (try with_reducible rfl)
            (try simp only [Act.put, List.getElem_toArray, List.getElem_cons_succ, List.getElem_cons_zero, List.setIfInBounds_toArray, List.set_cons_zero, List.set_cons_succ])
            refine wpAnyH_take (i := 12) (oi := _) (v := ?vq36_12) rfl (by kernel_rfl) (by kernel_rfl) (by kernel_rfl) (fun _ _ _ h => h) (Or.inl ⟨rfl, ?yq36_12⟩) (by assumption) ?_
            case yq36_12 => intro w hSw; (try dsimp only at hSw); go_simp; (try with_reducible rfl)
            (try simp only [Act.put, List.getElem_toArray, List.getElem_cons_succ, List.getElem_cons_zero, List.setIfInBounds_toArray, List.set_cons_zero, List.set_cons_succ])
            refine wpAnyH_take (i := 13) (oi := _) (v := ?vq37_13) rfl (by kernel_rfl) (by kernel_rfl) (by kernel_rfl) (fun _ _ _ h => h) (Or.inl ⟨rfl, ?yq37_13⟩) (by assumption) ?_
            case yq37_13 => intro w hSw; (try dsimp only at hSw); ((refine exec_load_f2 (.tmp 18) ?_ ?_ hSw.2.1) <;> rfl)
            (try simp only [Act.put, List.getElem_toArray, List.getElem_cons_succ, List.getElem_cons_zero, List.setIfInBounds_toArray, List.set_cons_zero, List.set_cons_succ])
            refine wpAnyH_take (i := 14) (oi := _) (v := ?vq38_14) rfl (by kernel_rfl) (by kernel_rfl) (by kernel_rfl) (fun _ _ _ h => h) (Or.inl ⟨rfl, ?yq38_14⟩) (by assumption) ?_
            case yq38_14 => intro w hSw; (try dsimp only at hSw); ((refine exec_load_f2 (.tmp 20) ?_ ?_ hSw.2.2) <;> rfl)
            (try simp only [Act.put, List.getElem_toArray, List.getElem_cons_succ, List.getElem_cons_zero, List.setIfInBounds_toArray, List.set_cons_zero, List.set_cons_succ])
            refine wpAnyH_ready (rs := [15]) (by kernel_rfl) (by simp) ?_
            refine (AllReadyH.cons (o := _) rfl (fun K hK => ?_) AllReadyH.nil)
            go_simp
            go_at_call 24
            refine (HSM.out _ hq).mono ?_
            rintro e y3 ⟨rfl, hy3⟩
            have hq := hq.trans (hy3.mono hq.size)
            refine hK.out _ _ ?_ (fun hHeld => ?_)
            · (try dsimp only); exact KEEP.out _ hq
            clear hK K
            (try simp only [Act.put, List.getElem_toArray, List.getElem_cons_succ, List.getElem_cons_zero, List.setIfInBounds_toArray, List.set_cons_zero, List.set_cons_succ])
            refine wpAnyH_take (i := 16) (oi := _) (v := ?vq39_16) rfl (by kernel_rfl) (by kernel_rfl) (by kernel_rfl) (fun _ _ _ h => h) (Or.inl ⟨rfl, ?yq39_16⟩) (by assumption) ?_
            case yq39_16 => intro w hSw; (try dsimp only at hSw); go_simp; (try with_reducible rfl)
            (try simp only [Act.put, List.getElem_toArray, List.getElem_cons_succ, List.getElem_cons_zero, List.setIfInBounds_toArray, List.set_cons_zero, List.set_cons_succ])
            refine wpAnyH_take (i := 17) (oi := _) (v := ?vq40_17) rfl (by kernel_rfl) (by kernel_rfl) (by kernel_rfl) (fun _ _ _ h => h) (Or.inl ⟨rfl, ?yq40_17⟩) (by assumption) ?_
            case yq40_17 => intro w hSw; (try dsimp only at hSw); go_simp; (try with_reducible rfl)
            (try simp only [Act.put, List.getElem_toArray, List.getElem_cons_succ, List.getElem_cons_zero, List.setIfInBounds_toArray, List.set_cons_zero, List.set_cons_succ])
            refine wpAnyH_take (i := 18) (oi := _) (v := ?vq41_18) rfl (by kernel_rfl) (by kernel_rfl) (by kernel_rfl) (fun _ _ _ h => h) (Or.inl ⟨rfl, ?yq41_18⟩) (by assumption) ?_
            case yq41_18 => intro w hSw; (try dsimp only at hSw); go_simp; (try with_reducible rfl)
            (try simp only [Act.put, List.getElem_toArray, List.getElem_cons_succ, List.getElem_cons_zero, List.setIfInBounds_toArray, List.set_cons_zero, List.set_cons_succ])
            refine wpAnyH_take (i := 19) (oi := _) (v := ?vq42_19) rfl (by kernel_rfl) (by kernel_rfl) (by kernel_rfl) (fun _ _ _ h => h) (Or.inl ⟨rfl, ?yq42_19⟩) (by assumption) ?_
            case yq42_19 => intro w hSw; (try dsimp only at hSw); go_simp; (try with_reducible rfl)
            (try simp only [Act.put, List.getElem_toArray, List.getElem_cons_succ, List.getElem_cons_zero, List.setIfInBounds_toArray, List.set_cons_zero, List.set_cons_succ])
            refine wpAnyH_take (i := 20) (oi := _) (v := ?vq43_20) rfl (by kernel_rfl) (by kernel_rfl) (by kernel_rfl) (fun _ _ _ h => h) (Or.inl ⟨rfl, ?yq43_20⟩) (by assumption) ?_
            case yq43_20 => intro w hSw; (try dsimp only at hSw); go_simp; (try with_reducible rfl)
            (try simp only [Act.put, List.getElem_toArray, List.getElem_cons_succ, List.getElem_cons_zero, List.setIfInBounds_toArray, List.set_cons_zero, List.set_cons_succ])
            refine wpAnyH_take (i := 21) (oi := _) (v := ?vq44_21) rfl (by kernel_rfl) (by kernel_rfl) (by kernel_rfl) (fun _ _ _ h => h) (Or.inl ⟨rfl, ?yq44_21⟩) (by assumption) ?_
            case yq44_21 => intro w hSw; (try dsimp only at hSw); go_simp; (try with_reducible rfl)
            (try simp only [Act.put, List.getElem_toArray, List.getElem_cons_succ, List.getElem_cons_zero, List.setIfInBounds_toArray, List.set_cons_zero, List.set_cons_succ])
            refine wpAnyH_take (i := 22) (oi := _) (v := ?vq45_22) rfl (by kernel_rfl) (by kernel_rfl) (by kernel_rfl) (fun _ _ _ h => h) (Or.inl ⟨rfl, ?yq45_22⟩) (by assumption) ?_
            case yq45_22 => intro w hSw; (try dsimp only at hSw); go_simp; (try with_reducible rfl)
            (try simp only [Act.put, List.getElem_toArray, List.getElem_cons_succ, List.getElem_cons_zero, List.setIfInBounds_toArray, List.set_cons_zero, List.set_cons_succ])
            refine wpAnyH_take (i := 23) (oi := _) (v := ?vq46_23) rfl (by kernel_rfl) (by kernel_rfl) (by kernel_rfl) (fun _ _ _ h => h) (Or.inl ⟨rfl, ?yq46_23⟩) (by assumption) ?_
            case yq46_23 => intro w hSw; (try dsimp only at hSw); go_simp; (try with_reducible rfl)
            (try simp only [Act.put, List.getElem_toArray, List.getElem_cons_succ, List.getElem_cons_zero, List.setIfInBounds_toArray, List.set_cons_zero, List.set_cons_succ])
            refine wpAnyH_take (i := 24) (oi := _) (v := ?vq47_24) rfl (by kernel_rfl) (by kernel_rfl) (by kernel_rfl) (fun _ _ _ h => h) (Or.inl ⟨rfl, ?yq47_24⟩) (by assumption) ?_
            case yq47_24 => intro w hSw; (try dsimp only at hSw); go_simp; (try with_reducible rfl)
            (try simp only [Act.put, List.getElem_toArray, List.getElem_cons_succ, List.getElem_cons_zero, List.setIfInBounds_toArray, List.set_cons_zero, List.set_cons_succ])
            refine wpAnyH_take (i := 25) (oi := _) (v := ?vq48_25) rfl (by kernel_rfl) (by kernel_rfl) (by kernel_rfl) (fun _ _ _ h => h) (Or.inl ⟨rfl, ?yq48_25⟩) (by assumption) ?_
            case yq48_25 => intro w hSw; (try dsimp only at hSw); go_simp; (try with_reducible rfl)
            (try simp only [Act.put, List.getElem_toArray, List.getElem_cons_succ, List.getElem_cons_zero, List.setIfInBounds_toArray, List.set_cons_zero, List.set_cons_succ])
            refine wpAnyH_take (i := 26) (oi := _) (v := ?vq49_26) rfl (by kernel_rfl) (by kernel_rfl) (by kernel_rfl) (fun _ _ _ h => h) (Or.inl ⟨rfl, ?yq49_26⟩) (by assumption) ?_
            case yq49_26 => intro w hSw; (try dsimp only at hSw); go_simp; (try with_reducible rfl)
            (try simp only [Act.put, List.getElem_toArray, List.getElem_cons_succ, List.getElem_cons_zero, List.setIfInBounds_toArray, List.set_cons_zero, List.set_cons_succ])
            refine wpAnyH_take (i := 27) (oi := _) (v := ?vq50_27) rfl (by kernel_rfl) (by kernel_rfl) (by kernel_rfl) (fun _ _ _ h => h) (Or.inl ⟨rfl, ?yq50_27⟩) (by assumption) ?_
            case yq50_27 => intro w hSw; (try dsimp only at hSw); go_simp; (try with_reducible rfl)
            (try simp only [Act.put, List.getElem_toArray, List.getElem_cons_succ, List.getElem_cons_zero, List.setIfInBounds_toArray, List.set_cons_zero, List.set_cons_succ])
            refine wpAnyH_done (by kernel_rfl) ?_ _
            clear hHeld
            have hbE := HBQ.out.trans (hq.mono HBQ.out.size)
            clear hq KEEP HVP HVR HSM
            go_wp2_with fail
            exact ⟨⟨j + 1, by omega, by go_num, hbE⟩, by simp [intOf]; omega⟩
          · obtain rfl : j = 3 := by omega
            have hbD := HBC.out.trans (hbq.mono HBC.out.size)
            go_wp2_with fail
            exact ⟨⟨k + 1, by omega, by go_num, hbD⟩, by simp [intOf]; omega⟩
      · obtain rfl : k = 2 := by omega
        go_wp2_with fail
        refine (haw.out _).mono ?_
        rintro e wz ⟨rfl, hbz⟩
        have hbw := hbB.trans (hbr.mono hbB.size)
        go_wp2_with fail
        go_ret
        exact ⟨rfl, hbw.trans (hbz.mono hbw.size)⟩

theorem cells_u8 : Try.prog.cellsOf 5 = 1 := by kernel_rfl
theorem cells_int : Try.prog.cellsOf 3 = 1 := by kernel_rfl
theorem own : ownKnob Try.prog.godebug = none := by kernel_rfl
theorem laidOut : laidOutB Try.prog = true := by kernel_rfl
theorem contract (H : Type) (enc : TypeId × Value → H) (W : World) (base : Nat) (args : Array Value) (ds gs : List (DataW H)) (before : List MemPlace)
    (hval : ∀ (j : Nat) t v, Try.f3.params[j]? = some t → args[j]? = some v → Value.okWide Try.prog W .any base t v)
    (hW : DataW.Whole enc Try.prog Try.f3.params.toList Rows.samplingStepsSpec.vars false W args.toList ds gs before) :
    Calls Try.prog 3 args W fun e W' => ∃ v, e = .returned v ∧ Rows.samplingStepsSpec.post enc Try.prog Try.f3 false true false false W args v W' := by
  have hW' := hW
  obtain ⟨p, q, hA0, hV, rfl, hfz, hnd⟩ := hW
  have hA : DataW.TrodAll enc Try.prog W 0 (fun _ => true) true Try.f3.params.toList args.toList ds p := hA0
  rw [Try.params3] at hA hval
  obtain ⟨v0, vs0, d0, ds0, p0, q0, hargs, rfl, rfl, h0, r0⟩ := trodAll_cons hA
  obtain ⟨v1, vs1, d1, ds1, p1, q1, rfl, rfl, rfl, h1, r1⟩ := trodAll_cons r0
  obtain ⟨v2, vs2, d2, ds2, p2, q2, rfl, rfl, rfl, h2, r2⟩ := trodAll_cons r1
  obtain ⟨v3, vs3, d3, ds3, p3, q3, rfl, rfl, rfl, h3, r3⟩ := trodAll_cons r2
  obtain ⟨v4, vs4, d4, ds4, p4, q4, rfl, rfl, rfl, h4, r4⟩ := trodAll_cons r3
  obtain ⟨rfl, rfl, rfl⟩ := trodAll_nil r4
  obtain rfl : args = #[v0, v1, v2, v3, v4] := by cases args; simp_all
  obtain ⟨s0, A0, n0, c0, rfl, hr0, hf0, hg0⟩ := open_sensor Try.underlying32 (by kernel_rfl) ⟨rfl, rfl, rfl, rfl, rfl, rfl, rfl, rfl, rfl, rfl, rfl, rfl, rfl, rfl, rfl⟩ ⟨by kernel_rfl, by kernel_rfl, by kernel_rfl, by kernel_rfl, by kernel_rfl, by kernel_rfl, by kernel_rfl, by kernel_rfl, by kernel_rfl, by kernel_rfl, by kernel_rfl, by kernel_rfl, by kernel_rfl, by kernel_rfl, by kernel_rfl⟩ Try.underlying5 Try.underlying5 Try.underlying5 Try.underlying9 (fun h => trod_ent Try.underlying23 (by kernel_rfl) ⟨rfl, rfl⟩ ⟨by kernel_rfl, by kernel_rfl⟩ Try.underlying5 Try.underlying5 h) Try.underlying4 (fun h => trod_conv Try.underlying26 (by kernel_rfl) ⟨rfl, rfl, rfl, rfl, rfl, rfl, rfl⟩ ⟨by kernel_rfl, by kernel_rfl, by kernel_rfl, by kernel_rfl, by kernel_rfl, by kernel_rfl, by kernel_rfl⟩ Try.underlying3 Try.underlying4 Try.underlying3 Try.underlying3 Try.underlying3 Try.underlying3 Try.underlying24 Try.underlying139 (by kernel_rfl) rfl rfl (by kernel_rfl) (by kernel_rfl) Try.underlying5 Try.underlying3 h) (fun h => trod_lim Try.underlying29 (by kernel_rfl) ⟨rfl, rfl⟩ ⟨by kernel_rfl, by kernel_rfl⟩ Try.underlying5 Try.underlying27 (by kernel_rfl) Try.underlying5 h) Try.underlying5 Try.underlying5 Try.underlying30 Try.underlying30 Try.underlying30 Try.underlying4 Try.underlying3 (hval 0 32 v0 rfl rfl) h0
  obtain ⟨A1, n1, c1, l1, m1, rfl, hr1, hm1⟩ := open_filter Try.underlying35 (by kernel_rfl) rfl rfl (by kernel_rfl) (by kernel_rfl) Try.underlying33 Try.underlying5 cells_u8 Try.underlying3 (hval 1 35 v1 rfl rfl) h1
  obtain ⟨A2, n2, c2, l2, rfl, hn2, hr2, hw2, hc2, hm2, hk2⟩ := open_int_list Try.underlying36 Try.underlying3 cells_int (hval 2 36 v2 rfl rfl) h2
  obtain ⟨a3, rfl, -, -, w3⟩ := open_int Try.underlying5 (hval 3 5 v3 rfl rfl) h3
  obtain ⟨b4, rfl, -, -⟩ := open_bool Try.underlying4 (hval 4 4 v4 rfl rfl) h4
  clear hA0
  refine (walk s0 A0 n0 c0 hf0 hg0 A1 n1 c1 l1 m1 hm1 A2 n2 c2 l2 hn2 hw2 hc2 hm2 hk2 a3 (bounds_u8 w3) b4 W hr0 hr1 hr2).mono fun e W' ⟨he, hb⟩ => ?_
  subst he
  exact ⟨_, rfl, law_post laidOut (types_fit (by kernel_rfl)) (by kernel_rfl) Try.underlying4 rfl (fun xs hx => by
    match xs, hx with
    | [_, _, _, _, _], _ => rfl) hW' hb⟩

theorem lifted (os : Os) (started : os.Started) (H : Type) (enc : TypeId × Value → H) :
    ReturnsInHanded {} Try.checked os 3 .any (Rows.samplingStepsSpec.pre6 enc Try.prog Try.f3 Rows.samplingStepsRow.domain false) (Rows.samplingStepsSpec.post enc Try.prog Try.f3 false true false false) := by
  refine returnsInHanded_of_change (C := Try.checked) own started (by kernel_rfl) Try.func3
    (ChangeSpec.witness6 (enc := enc) (C := Try.checked) false ⟨#[], #[.agg #[.int .u8 0, .int .u8 0, .int .u8 0, .string ⟨#[]⟩, .int .u8 0, .int .u8 0, .bool false, .int .i64 0, .bool false, .int .i64 0, .int .i64 0, .int .i64 0, .int .i64 0, .slice none 0 0, .int .u8 0, .int .u8 0, .int .u8 0, .int .u8 0, .int .u8 0, .int .u8 0, .int .u8 0, .int .u8 0, .int .u8 0, .int .u16 0, .int .u16 0, .int .u16 0, .bool false, .int .i64 0], .agg #[.slice none 0 0, .int .i64 0], .slice none 0 0, .int .u8 0, .bool false], []⟩ 8 (by kernel_rfl) (by kernel_rfl) (by kernel_rfl) (by kernel_rfl)) ?_
  intro W base args ds gs before hval hW _ _
  exact contract H enc W base args ds gs before hval hW

theorem proved : Rows.SamplingStepsSaid :=
  OpenClaim.holds_of_wide 3 Try.f3 rfl rfl rfl rfl rfl rfl rfl ⟨rfl, rfl, rfl, rfl, rfl⟩ rfl rfl rfl rfl rfl (by kernel_rfl) Try.func3 (by kernel_rfl)
    (of_decide_eq_true (by kernel_rfl)) (by unfold Func.isWrapper; first | (rw [if_pos (by decide +kernel)]; kernel_rfl) | (rw [if_neg (by decide +kernel)]; exact ⟨rfl, rfl⟩))
    (fun os started H enc _ => lifted os started H enc)
end Go.Proofs.Ytekhpcfggbegaaa.samplingSteps
