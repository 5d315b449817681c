/- Walks: a new sector is opened. -/
import Derived.Test.YtekhpcfggbegaaaGh
import Derived.BigRegion
namespace Go.Proofs.Ytekhpcfggbegaaa.G9
open Go.RowKit Go.Proofs.Ytekhpcfggbegaaa.Mem Go.Proofs.Ytekhpcfggbegaaa.F2p Go.Proofs.Ytekhpcfggbegaaa.E5p Go.Proofs.Ytekhpcfggbegaaa.E5m Go.Proofs.Ytekhpcfggbegaaa.E5a Go.Proofs.Ytekhpcfggbegaaa.E5d Go.Proofs.Ytekhpcfggbegaaa.V7 Go.Proofs.Ytekhpcfggbegaaa.V9
set_option maxRecDepth 100000
set_option maxHeartbeats 4000000

theorem open_1 {s : Fl} {L : Lg} {t : Nat} (h : 2147483648 < L.newest + 1) : Lg.openSec s L t = (s, L, 3) := by unfold Lg.openSec; rw [if_pos h]
theorem open_2 {s : Fl} {L : Lg} {t : Nat} {r1 : Fl × Int} (h : ¬ 2147483648 < L.newest + 1) (h1 : Lg.wipe s L (L.newest + 1) = r1) (e1 : r1.2 ≠ 0) : Lg.openSec s L t = (r1.1, L, r1.2) := by
  unfold Lg.openSec
  dsimp only
  rw [if_neg h, h1, if_pos e1]
theorem open_3 {s : Fl} {L : Lg} {t : Nat} {r1 r2 : Fl × Int} (h : ¬ 2147483648 < L.newest + 1) (h1 : Lg.wipe s L (L.newest + 1) = r1) (e1 : r1.2 = 0)
    (h2 : r1.1.program (L.start s (L.newest + 1)) (Lg.hdr (L.newest + 1) t L.nid) = r2) (e2 : r2.2 ≠ 0) : Lg.openSec s L t = (r2.1, L, r2.2) := by
  unfold Lg.openSec
  dsimp only
  rw [if_neg h, h1, if_neg (by simp [e1]), h2, if_pos e2]
theorem open_4 {s : Fl} {L : Lg} {t : Nat} {r1 r2 r3 : Fl × Int} (h : ¬ 2147483648 < L.newest + 1) (h1 : Lg.wipe s L (L.newest + 1) = r1) (e1 : r1.2 = 0)
    (h2 : r1.1.program (L.start s (L.newest + 1)) (Lg.hdr (L.newest + 1) t L.nid) = r2) (e2 : r2.2 = 0) (h3 : r2.1.program (L.start s (L.newest + 1) + 10) [0] = r3) (e3 : r3.2 ≠ 0) : Lg.openSec s L t = (r3.1, L, r3.2) := by
  unfold Lg.openSec
  dsimp only
  rw [if_neg h, h1, if_neg (by simp [e1]), h2, if_neg (by simp [e2]), h3, if_pos e3]
theorem open_5 {s : Fl} {L : Lg} {t : Nat} {r1 r2 r3 : Fl × Int} (h : ¬ 2147483648 < L.newest + 1) (h1 : Lg.wipe s L (L.newest + 1) = r1) (e1 : r1.2 = 0)
    (h2 : r1.1.program (L.start s (L.newest + 1)) (Lg.hdr (L.newest + 1) t L.nid) = r2) (e2 : r2.2 = 0) (h3 : r2.1.program (L.start s (L.newest + 1) + 10) [0] = r3) (e3 : r3.2 = 0) : Lg.openSec s L t = (r3.1, L.opened t, 0) := by
  unfold Lg.openSec
  dsimp only
  rw [if_neg h, h1, if_neg (by simp [e1]), h2, if_neg (by simp [e2]), h3, if_neg (by simp [e3])]
section
variable {B : Nat} {W w w' : World} {d : Sh} {s s' : Fl} {m m' g n n' : Nat} {rv rv' : Value} {L L' : Lg}
/-- The block b is none of the log's. -/
def Far (d : Sh) (g : Nat) (rv : Value) (b : Nat) : Prop := b ≠ d.g ∧ b ≠ d.gb ∧ b ≠ d.gw ∧ b ≠ g ∧ rv.ownBlock ≠ some b
theorem LA.far (h : LA B W w d s m g rv L n) {b : Nat} (hb : w.heap.size ≤ b) : Far d g rv b := by
  have h1 := h.dev.dev.lg; have h2 := h.dev.dev.lb.2; have h3 := h.dev.dev.lw.2; have h4 := h.lg
  exact ⟨by omega, by omega, by omega, by omega, fun e => by have := (h.r1 e).2.2.2.2; omega⟩
theorem Kp.at_ (k : Kp d g rv rv' w w') {b : Nat} (hf : Far d g rv b) (hb : b < w.heap.size) : w'.heap[b]? = w.heap[b]? ∧ Far d g rv' b := by
  obtain ⟨a1, a2, a3, a4, a5⟩ := hf
  obtain ⟨h1, h2⟩ := k.block b hb a1 a2 a3 a4 a5
  exact ⟨h1, a1, a2, a3, a4, h2⟩
theorem Kp.cell (k : Kp d g rv rv' w w') {b i : Nat} (hf : Far d g rv b) (hb : b < w.heap.size) : w'.cell? ⟨b, i, none⟩ = w.cell? ⟨b, i, none⟩ := World.cell?_of_block (k.at_ hf hb).1
theorem off_own {base n c : Nat} {A : Option Addr} {l : List UInt8} (h : Mem.Own base w' (.slice A n c) l) (hd : LA B W w d s m g rv L n') (hb : w.heap.size ≤ base) : Off d A l := fun hl a ha => by
  have h1 := hd.dev.dev.lg; have h2 := hd.dev.dev.lb.2; have h3 := hd.dev.dev.lw.2
  rcases h.2 with ⟨hv, h0⟩ | ⟨g', cap, cur, hv, h4, _⟩
  · injection hv with e1
    rw [e1] at ha
    cases ha
  · injection hv with e1
    rw [e1] at ha
    injection ha with ha
    subst ha
    exact ⟨by show g' ≠ _; omega, by show g' ≠ _; omega, by show g' ≠ _; omega⟩
theorem LA.m_ (h : LA B W w d s m g rv L n) (hm : m ≤ m') : LA B W w d s m' g rv L n := ⟨⟨h.dev.dev, h.dev.ok.more hm, h.dev.low⟩, h.head, h.own, h.low, h.ok⟩
theorem LA.program (h : LA B W w d s m g rv L n) (hm : m ≤ 900000) (A : Option Addr) (n1 c : Nat) (b : List UInt8) (hb : Sl w A n1 c b) (hB : Off d A b) (k : Nat) (hk : k ≤ 1000000) (hn : b.length ≤ 1000) :
    Calls Try.prog 149 #[.pointer (some ⟨d.g, 0, none⟩), .int .i64 (k : Int), .slice A n1 c] w fun e w' => e = .returned (.int .i64 (s.program k b).2) ∧ LA B W w' d (s.program k b).1 (m + b.length) g rv L n ∧ Kp d g rv rv w w' :=
  (h.dev.program hm A n1 c b hb hB (k : Int) (by omega) (by omega) (by have := hb.len; omega)).mono fun e w' ⟨h1, h2, h3⟩ => ⟨h1, by rw [hb.len] at h2; exact h.kept h3 h2 (program_like s _ _), Kp.of_kept h3⟩
/-- Other records, in the same block or a new one, and the head tells it. -/
theorem LA.recs (h : LA B W w d s m g rv L n) (hg : w.grownBy w' rv.ownBlock) {M : List Rc} (hr : ROwn B w' rv' M) (hne : ∀ i, rv'.ownBlock = some i → i ≠ g) (ok : ({ L with recs := M } : Lg).Ok s n') :
    LA B W (w'.setCell ⟨g, 8, none⟩ rv') d s m g rv' { L with recs := M } n' := by
  have hk : ∀ i, i < w.heap.size → rv.ownBlock ≠ some i → w'.heap[i]? = w.heap[i]? := fun i hi hn => hg.block i hi (fun e => hn e.symm)
  have hd := h.dev.dev.stays (hk _ h.dev.dev.lg (fun e => (h.r1 e).1 rfl)) (hk _ h.dev.dev.lb.2 (fun e => (h.r1 e).2.1 rfl)) (hk _ h.dev.dev.lw.2 (fun e => (h.r1 e).2.2.1 rfl))
  have hh : Hd w' g (headOf d L rv) := (hk _ h.lg (fun e => (h.r1 e).2.2.2.1 rfl)).trans h.head
  have hb : Below B W w' := h.dev.low.grown hg h.dev.base (fun q hq => (h.own.blk hq).1)
  have ho : ∀ k, k ≠ g → (w'.setCell ⟨g, 8, none⟩ rv').heap[k]? = w'.heap[k]? := fun k hk => other_block w' g 8 k rv' hk
  refine ⟨⟨hd.stays (ho _ h.n1.symm) (ho _ h.n2.symm) (ho _ h.n3.symm), h.dev.ok, hb.grown (set_grown w' g 8 rv') (by have := h.dev.base; exact Nat.le_trans this hg.size) (fun q hq => by injection hq with hq; rw [← hq]; exact h.low)⟩, ?_, row_any hr (fun k hk => ho k (hne k hk)), h.low, ok⟩
  unfold Hd
  rw [heap_setCell_same w' g 8 _ _ rv' hh]
  rfl
theorem one_max : 1 ≤ maxLen := by unfold maxLen; omega
theorem cast10 (X : Nat) : ((X + 10 : Nat) : Int) = (X : Int) + 10 := by omega
theorem wrap10 (X : Nat) (h : X ≤ 100000) : wrap64 ((X : Int) + 10) = (X : Int) + 10 := by unfold wrap64; omega
theorem open_p (h : LA B W w d s m g rv L n) (hm : m ≤ 800000) (t : Nat) (ht1 : 1 ≤ t) (ht2 : t ≤ L.newest + 2) (hn : n ≤ 900) :
    Calls Try.prog 148 #[.pointer (some ⟨g, 0, none⟩), .int .i64 (t : Int)] w fun x w' => ∃ rv', x = .returned (.int .i64 (Lg.openSec s L t).2.2) ∧ LA B W w' d (Lg.openSec s L t).1 (m + 20) g rv' (Lg.openSec s L t).2.1 n ∧ Kp d g rv rv' w w' := by
  have hlg := h.lg
  have hnw := h.ok.newest
  have HFAR := Lib.hid (fun b => h.far (b := b))
  have hni := h.ok.nid
  obtain ⟨X, hX⟩ : ∃ X, X = L.start s (L.newest + 1) := ⟨_, rfl⟩
  have hle : X + s.size ≤ s.bytes.length := by rw [hX]; exact start_le h.ok h.dev.ok (L.newest + 1)
  have HX := Lib.hid hX
  clear hX
  have hby := h.dev.ok.bytes_le
  have hsz1 := h.dev.ok.size1
  have hal : Below w.heap.size w (w.alloc (.cells #[.int .i64 (t : Int)] 3)) := (Below.refl _ _).alloc (Nat.le_refl _) _
  have h0 := h.step hal
  have cb : (w.alloc (.cells #[.int .i64 (t : Int)] 3)).cell? ⟨w.heap.size, 0, none⟩ = some (.int .i64 (t : Int)) := cell_of_row _ _ 0 _ _ _ (heap_alloc_new w _)
  have hz0 : (w.alloc (.cells #[.int .i64 (t : Int)] 3)).heap.size = w.heap.size + 1 := by simp
  have K0 : Kp d g rv rv w (w.alloc (.cells #[.int .i64 (t : Int)] 3)) := Kp.of_below hal (Nat.le_refl _)
  have HT2 := Lib.hid ht2
  have hN := Lib.hid hn
  clear h hal hn ht2
  go_enter Try.func148, Try.ntmps148
  go_wp2_with fail
  obtain ⟨w0, hw0⟩ : ∃ w0, w0 = w.alloc (.cells #[.int .i64 (t : Int)] 3) := ⟨_, rfl⟩
  rw [← hw0] at h0 cb hz0 K0 ⊢
  clear hw0
  obtain ⟨bx, hbx⟩ : ∃ bx, bx = w.heap.size := ⟨_, rfl⟩
  rw [← hbx] at cb hz0 hlg ⊢
  have hbw : bx < w0.heap.size := by omega
  have hlw := h0.lg
  have HZ := Lib.hid hz0
  have HBX := Lib.hid hbx
  have c4 := h0.c4; have c7 := h0.c7
  have H0 := Lib.hid h0
  have HK0 := Lib.hid K0
  clear hbx hz0 h0 K0 hlg
  go_region
  have hal1 : Below w0.heap.size w0 ((w0.alloc (.cells #[.int .i64 ((L.newest : Int) + 1), .int .i64 (t : Int), .int .u16 (L.nid : Int)] 185)).drew) := below_drew ((Below.refl _ _).alloc (Nat.le_refl _) _)
  have h1 := H0.out.step hal1
  have hh1 : ((w0.alloc (.cells #[.int .i64 ((L.newest : Int) + 1), .int .i64 (t : Int), .int .u16 (L.nid : Int)] 185)).drew).heap[w0.heap.size]? = some (.cells #[.int .i64 ((L.newest : Int) + 1), .int .i64 (t : Int), .int .u16 (L.nid : Int)] 185 (0, 0)) := heap_alloc_new w0 _
  have cb1 := (hal1.cell (p := ⟨bx, 0, none⟩) hbw).trans cb
  have K1 := HK0.out.trans (Kp.of_below (d := d) (g := g) (rv := rv) hal1 (Nat.le_refl _))
  have hz1 : ((w0.alloc (.cells #[.int .i64 ((L.newest : Int) + 1), .int .i64 (t : Int), .int .u16 (L.nid : Int)] 185)).drew).heap.size = w0.heap.size + 1 := by show (w0.alloc _).heap.size = _; simp
  obtain ⟨bh, hbh⟩ : ∃ bh, bh = w0.heap.size := ⟨_, rfl⟩
  have HFB := Lib.hid (HFAR.out bx (by have := HBX.out; omega))
  have HFH := Lib.hid (HFAR.out bh (by have := HZ.out; have := HBX.out; omega))
  rw [← hbh] at hh1 hz1 hbw ⊢
  generalize (w0.alloc (.cells #[.int .i64 ((L.newest : Int) + 1), .int .i64 (t : Int), .int .u16 (L.nid : Int)] 185)).drew = w1 at *
  clear hbh hal1 cb c4 c7 hlw HZ HBX HFAR H0 HK0
  have k0 : w1.cell? ⟨bh, 0, none⟩ = some (.int .i64 ((L.newest : Int) + 1)) := cell_of_row _ _ 0 _ _ _ hh1
  rcases Nat.lt_or_ge 2147483648 (L.newest + 1) with hlim | hlim0
  · have q0 : (2147483648 : Int) < (L.newest : Int) + 1 := by omega
    have HO := Lib.hid (open_1 (s := s) (t := t) hlim)
    replace K1 := Lib.hid K1
    replace h1 := Lib.hid h1
    clear hh1 cb1
    go_wp2_with fail
    go_ret
    rw [HO.out]
    first | exact ⟨rv, rfl, h1.out.m_ (Nat.le_add_right m 20), K1.out⟩ | exact ⟨rfl, rv, h1.out.m_ (Nat.le_add_right m 20), K1.out⟩
  · have q0 : ¬ (2147483648 : Int) < (L.newest : Int) + 1 := by omega
    have hlim : ¬ 2147483648 < L.newest + 1 := Nat.not_lt.2 hlim0
    clear hlim0
    have HL := Lib.hid hlim
    obtain ⟨Q, hQ⟩ : ∃ Q, Q = L.newest + 1 := ⟨_, rfl⟩
    have hQi : (L.newest : Int) + 1 = (Q : Int) := by omega
    have HQ := Lib.hid hQ
    rw [hQi] at k0 hh1 q0
    have hw1 := wipe_p h1 (by omega) Q (by omega) (by omega)
    obtain ⟨r1, hr1⟩ : ∃ r1, r1 = Lg.wipe s L Q := ⟨_, rfl⟩
    rw [← hr1] at hw1
    have HR1 : Hid (Lg.wipe s L (L.newest + 1) = r1) := Lib.hid (by rw [hr1, HQ.out])
    have HW1 := Lib.hid hw1
    have hk0 := Lib.hid hh1
    have HLE := Lib.hid hle
    replace K1 := Lib.hid K1
    have H1 := Lib.hid h1
    have CB1 := Lib.hid cb1
    have hq2 : Q ≤ 2147483648 := by omega
    have hq1 : 1 ≤ Q := by omega
    have hm11 : m + 11 ≤ 900000 := by omega
    have hX2 : X ≤ 100000 := by omega
    have hX3 : X + 10 ≤ 1000000 := by omega
    have hq3 : Q ≤ 4294967296 := by omega
    have hbh1 : bh < w1.heap.size := by omega
    have hbx1 : bx < w1.heap.size := by omega
    have hLk := Lib.hid (show Like s r1.1 from by rw [hr1]; exact wipe_like s L Q)
    clear hQ hr1 hlim h1 hw1 hh1 cb1 hle hz1 hbw hnw hQi
    go_wp2_with fail
    refine HW1.out.mono ?_
    rintro e w2 ⟨rfl, h2, kp2⟩
    have hc2 := (kp2.at_ HFH.out hbh1)
    have hx2 := (kp2.at_ HFB.out hbx1)
    have hh2 := Lib.hid (hc2.1.trans hk0.out)
    have CB2 := Lib.hid ((World.cell?_of_block (a := ⟨bx, 0, none⟩) hx2.1).trans CB1.out)
    have K2 := Lib.hid (K1.out.trans kp2)
    have hbh2 : bh < w2.heap.size := Nat.lt_of_lt_of_le hbh1 kp2.size
    have hbx2 : bx < w2.heap.size := Nat.lt_of_lt_of_le hbx1 kp2.size
    clear hc2 hx2 K1 hk0 CB1 kp2 HW1 hbh1 hbx1 H1 k0
    obtain ⟨s1, e1⟩ := r1
    simp only at h2 hLk ⊢
    rcases Classical.em (e1 = 0) with he | he
    · subst he
      have H2 := Lib.hid h2
      have k0 : w2.cell? ⟨bh, 0, none⟩ = some (.int .i64 (Q : Int)) := cell_of_row _ _ 0 _ _ _ hh2.out
      have HST := Lib.hid (start_p h2 Q hq1 hq3)
      have HXS : Hid (L.start s1 Q = X) := Lib.hid (by rw [HX.out, ← HQ.out]; exact hLk.out.start L Q)
      rw [HXS.out] at HST
      clear h2
      go_wp2_with fail
      refine HST.out.mono ?_
      rintro e w3 ⟨rfl, k3, rfl⟩
      have HV := H2.out.drewN k3
      have K3 := K2.out.drewN k3
      have hh3 : (w2.drewN k3).heap[bh]? = some (.cells #[.int .i64 (Q : Int), .int .i64 (t : Int), .int .u16 (L.nid : Int)] 185 (0, 0)) := hh2.out
      have CB3 : (w2.drewN k3).cell? ⟨bx, 0, none⟩ = some (.int .i64 (t : Int)) := CB2.out
      have hbh3 : bh < (w2.drewN k3).heap.size := hbh2
      have hbx3 : bx < (w2.drewN k3).heap.size := hbx2
      clear HST H2 K2 hh2 CB2 hbh2 hbx2 k0
      generalize w2.drewN k3 = w3 at *
      obtain ⟨r2, hr2⟩ : ∃ r2, r2 = s1.program (X : Int) (Lg.hdr Q t L.nid) := ⟨_, rfl⟩
      have HR2 : Hid (s1.program (L.start s (L.newest + 1)) (Lg.hdr (L.newest + 1) t L.nid) = r2) := Lib.hid (by rw [hr2, ← HX.out, ← HQ.out])
      have HRR := Lib.hid hr2
      have hQ3 : t ≤ Q + 1 := by have := HQ.out; have := HT2.out; omega
      have HH := Lib.hid (fun u => hdr_p Q t L.nid (by omega) (by omega) (by omega) u)
      have HPG : Hid (∀ V A4 n4 c4, LA B W V d s1 (m + 1) g rv L n → Sl V A4 n4 c4 (Lg.hdr Q t L.nid) → Off d A4 (Lg.hdr Q t L.nid) →
          Calls Try.prog 149 #[.pointer (some ⟨d.g, 0, none⟩), .int .i64 (X : Int), .slice A4 n4 c4] V fun e w' => e = .returned (.int .i64 r2.2) ∧ LA B W w' d r2.1 (m + 11) g rv L n ∧ Kp d g rv rv V w') := Lib.hid (fun V A4 n4 c4 hV hs hf => by
        have := hV.program (by omega) A4 n4 c4 _ hs hf X (by omega) (by rw [hdr_len]; omega)
        rw [hdr_len, ← hr2] at this
        exact this)
      clear hr2
      have KEEP : Hid (∀ V s m, LA B W V d s m g rv L n → V.heap[bh]? = some (.cells #[.int .i64 (Q : Int), .int .i64 (t : Int), .int .u16 (L.nid : Int)] 185 (0, 0)) → V.cell? ⟨g, 0, none⟩ = some (.pointer (some ⟨d.g, 0, none⟩)) ∧ V.cell? ⟨bh, 0, none⟩ = some (.int .i64 (Q : Int)) ∧ V.cell? ⟨bh, 1, none⟩ = some (.int .i64 (t : Int)) ∧ V.cell? ⟨bh, 2, none⟩ = some (.int .u16 (L.nid : Int))) :=
        Lib.hid fun V _ _ hV hb => ⟨hV.c0, cell_of_row _ _ 0 _ _ _ hb, cell_of_row _ _ 1 _ _ _ hb, cell_of_row _ _ 2 _ _ _ hb⟩
      go_wp2_with fail
      have HV := HV.drew
      have K3 := K3.drew
      have hh3 : w3.drew.heap[bh]? = some (.cells #[.int .i64 (Q : Int), .int .i64 (t : Int), .int .u16 (L.nid : Int)] 185 (0, 0)) := hh3
      go_region_held3 (fun V => V.cell? ⟨g, 0, none⟩ = some (.pointer (some ⟨d.g, 0, none⟩)) ∧ V.cell? ⟨bh, 0, none⟩ = some (.int .i64 (Q : Int)) ∧ V.cell? ⟨bh, 1, none⟩ = some (.int .i64 (t : Int)) ∧ V.cell? ⟨bh, 2, none⟩ = some (.int .u16 (L.nid : Int))) (first | exact KEEP.out _ _ _ HV hh3)
        (first
          | (go_at_call 172; refine (HH.out _).mono ?_; rintro e w4 ⟨v4, rfl, ho4, hb4⟩; obtain ⟨A4, n4, c4, rfl, hs4⟩ := Sl.of_own ho4; have hf4 := off_own ho4 HV (Nat.le_refl _); clear ho4; have HV := HV.step hb4; have K3 := K3.trans (Kp.of_below hb4 (Nat.le_refl _)); have hh3 := (hb4.block bh hbh3).trans hh3; have CB3 := (hb4.cell (p := ⟨bx, 0, none⟩) hbx3).trans CB3; have hbh3 := Nat.lt_of_lt_of_le hbh3 hb4.size; have hbx3 := Nat.lt_of_lt_of_le hbx3 hb4.size; clear hb4)
          | (go_at_call 149; refine (HPG.out _ _ _ _ HV hs4 hf4).mono ?_; rintro e w5 ⟨rfl, HV, KK⟩; have hh3 := (KK.at_ HFH.out hbh3).1.trans hh3; have CB3 := (KK.cell HFB.out hbx3).trans CB3; have K3 := K3.trans KK; have hbh3 := Nat.lt_of_lt_of_le hbh3 KK.size; have hbx3 := Nat.lt_of_lt_of_le hbx3 KK.size; clear KK))
      obtain ⟨s2, e2⟩ := r2
      have HL2 : Hid (Like s s2) := Lib.hid (hLk.out.trans (by have := program_like s1 (X : Int) (Lg.hdr Q t L.nid); rw [← HRR.out] at this; exact this))
      simp only at HV ⊢
      clear HH HPG hs4 hf4 KEEP
      rcases Classical.em (e2 = 0) with he2 | he2
      · subst he2
        have HW10 : Hid (wrap64 ((X : Int) + 10) = (X : Int) + 10) := Lib.hid (wrap10 X hX2)
        have hX10 := cast10 X
        obtain ⟨r3, hr3⟩ : ∃ r3, r3 = s2.program ((X : Int) + 10) [0] := ⟨_, rfl⟩
        have HR3 : Hid (s2.program ((L.start s (L.newest + 1) : Int) + 10) [0] = r3) := Lib.hid (by rw [hr3, ← HX.out])
        have hal5 : Below w5.heap.size w5 (w5.alloc (.cells #[.int .u8 0] 5)) := (Below.refl _ _).alloc (Nat.le_refl _) _
        have hs5 : Sl (w5.alloc (.cells #[.int .u8 0] 5)) (some ⟨w5.heap.size, 0, none⟩) 1 1 [0] :=
          ⟨rfl, (row_new w5 #[.int .u8 0] 5 [0] rfl (B := w5.heap.size + 1) (Nat.lt_succ_self _)).more (by simp), Nat.le_refl _, one_max, fun hh => by cases hh⟩
        have hPG := (HV.step hal5).program hm11 _ 1 1 [0] hs5 (Off.new HV.dev.dev (Nat.le_refl _)) (X + 10) hX3 (by simp)
        rw [hX10, ← hr3] at hPG
        have HPG := Lib.hid hPG
        have K5 := K3.trans (Kp.of_below (d := d) (g := g) (rv := rv) hal5 (Nat.le_refl _))
        have hh5 := (hal5.block bh hbh3).trans hh3
        have CB5 := (hal5.cell (p := ⟨bx, 0, none⟩) hbx3).trans CB3
        have hbh5 := Nat.lt_of_lt_of_le hbh3 hal5.size
        have hbx5 := Nat.lt_of_lt_of_le hbx3 hal5.size
        have c0 := HV.c0
        have hlg5 := HV.lg
        have HL3 : Hid (Like s r3.1) := Lib.hid (HL2.out.trans (by rw [hr3]; exact program_like s2 _ _))
        replace K5 := Lib.hid K5
        replace hh5 := Lib.hid hh5
        replace CB5 := Lib.hid CB5
        clear hr3 hX10 hs5 hPG HV K3 hh3 CB3 hal5
        go_wp2_with fail
        refine HPG.out.mono ?_
        rintro e w6 ⟨rfl, h6, K6⟩
        have hh6 := (K6.at_ HFH.out hbh5).1.trans hh5.out
        have CB6 := (K6.cell HFB.out hbx5).trans CB5.out
        have K7 := K5.out.trans K6
        have hbh6 := Nat.lt_of_lt_of_le hbh5 K6.size
        have hbx6 := Nat.lt_of_lt_of_le hbx5 K6.size
        obtain ⟨s3, e3⟩ := r3
        simp only at h6 HL3 ⊢
        clear HPG K5 hh5 CB5 hbh5 hbx5 c0 K6 hlg5
        replace K7 := Lib.hid K7
        rcases Classical.em (e3 = 0) with he3 | he3
        · subst he3
          have HO := Lib.hid (open_5 HL.out HR1.out rfl HR2.out rfl HR3.out rfl)
          have k0 : w6.cell? ⟨bh, 0, none⟩ = some (.int .i64 (Q : Int)) := cell_of_row _ _ 0 _ _ _ hh6
          have f4 := h6.fz 4; have f5 := h6.fz 5; have f6 := h6.fz 6
          have c4 := h6.c4; have c5 := h6.c5; have c6 := h6.c6
          have hlg6 := h6.lg
          have H6 := Lib.hid h6
          replace hh6 := Lib.hid hh6
          clear h6
          go_wp2_with fail
          go_region
          have o1 : ({ L with newest := Q } : Lg).Ok s3 n := { two := H6.out.ok.two, fits := H6.out.ok.fits, newest := hq2, tail0 := H6.out.ok.tail0, tail1 := Nat.le_trans H6.out.ok.tail1 (by rw [HQ.out]; exact Nat.le_succ _), used := H6.out.ok.used, none := fun e => absurd e (Nat.ne_of_gt hq1), nid := H6.out.ok.nid, many := H6.out.ok.many, fit := H6.out.ok.fit, resv := H6.out.ok.resv }
          have o2 : ({ L with newest := Q, tail := t } : Lg).Ok s3 n := { two := o1.two, fits := o1.fits, newest := hq2, tail0 := ht1, tail1 := hQ3, used := o1.used, none := fun e => absurd e (Nat.ne_of_gt hq1), nid := o1.nid, many := o1.many, fit := o1.fit, resv := o1.resv }
          have o3 : ({ L with newest := Q, tail := t, used := 0 } : Lg).Ok s3 n := { two := o1.two, fits := o1.fits, newest := hq2, tail0 := ht1, tail1 := hQ3, used := Nat.zero_le _, none := fun e => absurd e (Nat.ne_of_gt hq1), nid := o1.nid, many := o1.many, fit := o1.fit, resv := o1.resv }
          have p1 := H6.out.put' 4 (.int .i64 (Q : Int)) (L' := { L with newest := Q }) rfl rfl o1
          have p2 := p1.put' 5 (.int .i64 (t : Int)) (L' := { L with newest := Q, tail := t }) rfl rfl o2
          have p3 := (p2.put' 6 (.int .i64 0) (L' := { L with newest := Q, tail := t, used := 0 }) rfl rfl o3).drew
          have q1 := (((K7.out.trans (Kp.put (.int .i64 (Q : Int)) 4)).trans (Kp.put (.int .i64 (t : Int)) 5)).trans (Kp.put (.int .i64 0) 6)).drew
          have CB7 : (((w6.setCell ⟨g, 4, none⟩ (.int .i64 (Q : Int))).setCell ⟨g, 5, none⟩ (.int .i64 (t : Int))).setCell ⟨g, 6, none⟩ (.int .i64 0)).drew.cell? ⟨bx, 0, none⟩ = some (.int .i64 (t : Int)) := by
            have kk : Kp d g rv rv w6 (((w6.setCell ⟨g, 4, none⟩ (.int .i64 (Q : Int))).setCell ⟨g, 5, none⟩ (.int .i64 (t : Int))).setCell ⟨g, 6, none⟩ (.int .i64 0)).drew := (((Kp.put (.int .i64 (Q : Int)) 4).trans (Kp.put (.int .i64 (t : Int)) 5)).trans (Kp.put (.int .i64 0) 6)).drew
            exact (kk.cell HFB.out hbx6).trans CB6
          have hz7 : (((w6.setCell ⟨g, 4, none⟩ (.int .i64 (Q : Int))).setCell ⟨g, 5, none⟩ (.int .i64 (t : Int))).setCell ⟨g, 6, none⟩ (.int .i64 0)).drew.heap.size = w6.heap.size := by show (((w6.setCell _ _).setCell _ _).setCell _ _).heap.size = _; simp
          generalize (((w6.setCell ⟨g, 4, none⟩ (.int .i64 (Q : Int))).setCell ⟨g, 5, none⟩ (.int .i64 (t : Int))).setCell ⟨g, 6, none⟩ (.int .i64 0)).drew = w7 at *
          have c8 := p3.c8
          have hlg7 := p3.lg
          have HDEL := Lib.hid (delete_p B rv L.recs t bx w7 p3.own (fun r hr => Nat.le_trans (o3.fit r hr).2 (by decide)) CB7 (by rw [hz7]; exact hbx6) HFB.out.2.2.2.2 (Nat.le_trans o3.many (Nat.le_trans hN.out (by decide))))
          have P3 := Lib.hid p3
          have Q1 := Lib.hid q1
          have O3 := Lib.hid o3
          clear o1 o2 o3 p1 p2 p3 q1 CB7 hz7 H6 f4 f5 f6 c4 c5 c6 k0 hbx6 hbh6 CB6 hh6
          go_wp2_with fail
          refine HDEL.out.mono ?_
          rintro e w8 ⟨rv8, rfl, ho8, hg8, hbk⟩
          obtain ⟨A8, n8, cc8, rfl, -⟩ := ho8.sl
          have HO8 := Lib.hid ho8
          have HG8 := Lib.hid hg8
          have HBK := Lib.hid hbk
          have hlg8 : g < w8.heap.size := Nat.lt_of_lt_of_le hlg7 hg8.size
          have hgne : ∀ i, (Value.slice A8 n8 cc8).ownBlock = some i → i ≠ g := fun i hi => P3.out.ne i (by rw [← HBK.out]; exact hi)
          have hcell8 : w8.heap[g]? = w7.heap[g]? := hg8.block g hlg7 (fun e => P3.out.ne g e.symm rfl)
          have c8' : w8.cell? ⟨g, 8, none⟩ = some rv := (World.cell?_of_block (a := ⟨g, 8, none⟩) hcell8).trans c8
          have f8 : w8.frozen? ⟨g, 8, none⟩ = false := frozen_of_row w8 g 8 _ _ (hcell8.trans P3.out.head)
          clear ho8 hg8 hbk HDEL c8 hcell8
          go_wp2_with fail
          go_ret
          rw [HO.out]
          have hfin := P3.out.recs HG8.out HO8.out hgne { two := O3.out.two, fits := O3.out.fits, newest := O3.out.newest, tail0 := O3.out.tail0, tail1 := O3.out.tail1, used := O3.out.used, none := O3.out.none, nid := O3.out.nid, many := Nat.le_trans (List.length_filter_le _ _) O3.out.many, fit := fun r hr => O3.out.fit r (List.mem_filter.1 hr).1, resv := O3.out.resv }
          rw [HQ.out] at hfin
          have kfin := (Q1.out.trans (Kp.rows HG8.out (rv' := .slice A8 n8 cc8) (fun i _ hn e => hn (by rw [← HBK.out]; exact e)))).trans (Kp.put (.slice A8 n8 cc8) 8)
          first | exact ⟨_, rfl, hfin.m_ (Nat.add_le_add_left (by decide : 12 ≤ 20) m), kfin⟩ | exact ⟨rfl, _, hfin.m_ (Nat.add_le_add_left (by decide : 12 ≤ 20) m), kfin⟩
        · have g0 : (e3 != 0) = true := by simpa using he3
          have HO := Lib.hid (open_4 HL.out HR1.out rfl HR2.out rfl HR3.out he3)
          have H6 := Lib.hid h6
          clear he3 h6 hh6 CB6
          go_wp2_with fail
          go_ret
          rw [HO.out]
          first | exact ⟨rv, rfl, H6.out.m_ (Nat.add_le_add_left (by decide : 12 ≤ 20) m), K7.out⟩ | exact ⟨rfl, rv, H6.out.m_ (Nat.add_le_add_left (by decide : 12 ≤ 20) m), K7.out⟩
      · have g0 : (e2 != 0) = true := by simpa using he2
        have HO := Lib.hid (open_3 HL.out HR1.out rfl HR2.out he2)
        have H5 := Lib.hid HV
        replace K3 := Lib.hid K3
        clear he2 HV hh3 CB3
        go_wp2_with fail
        go_ret
        rw [HO.out]
        first | exact ⟨rv, rfl, H5.out.m_ (Nat.add_le_add_left (by decide : 11 ≤ 20) m), K3.out⟩ | exact ⟨rfl, rv, H5.out.m_ (Nat.add_le_add_left (by decide : 11 ≤ 20) m), K3.out⟩
    · have g0 : (e1 != 0) = true := by simpa using he
      have HO := Lib.hid (open_2 (t := t) HL.out HR1.out he)
      have H2 := Lib.hid h2
      clear he h2
      go_wp2_with fail
      go_ret
      rw [HO.out]
      first | exact ⟨rv, rfl, H2.out.m_ (Nat.add_le_add_left (by decide : 1 ≤ 20) m), K2.out⟩ | exact ⟨rfl, rv, H2.out.m_ (Nat.add_le_add_left (by decide : 1 ≤ 20) m), K2.out⟩
end
end Go.Proofs.Ytekhpcfggbegaaa.G9
