/- Walks: the record with an ID; the next free ID. -/
import Derived.Test.YtcnkiecdagjgmaaRd
namespace Go.Proofs.Ytcnkiecdagjgmaa.R11
open Go.RowKit Go.Proofs.Ytcnkiecdagjgmaa.Mem
set_option maxRecDepth 100000
set_option maxHeartbeats 1000000

theorem isid_p (r : Rk) (i b : Nat) (u : World) (hb : u.cell? ⟨b, 0, none⟩ = some (.int .u16 (i : Int))) (hbl : b < u.heap.size) :
    Calls Try.prog 132 #[r.v, .pointer (some ⟨b, 0, none⟩)] u fun e u' => e = .returned (.bool (decide (r.id = i))) ∧ Below u.heap.size u u' := by
  have hal : Below u.heap.size u (u.alloc (.cells r.cells 134)) := (Below.refl _ _).alloc (Nat.le_refl _) _
  have c1 : (u.alloc (.cells r.cells 134)).cell? ⟨u.heap.size, 0, none⟩ = some (.int .u16 (r.id : Int)) := cell_of_row _ _ 0 _ _ _ (heap_alloc_new u _)
  have cb := (hal.cell (p := ⟨b, 0, none⟩) hbl).trans hb
  obtain ⟨id, blk, cap, bs⟩ := r
  simp only [Rk.v, Rk.cells] at *
  replace hal := Lib.hid hal
  have hq : ((id : Int) == (i : Int)) = decide (id = i) := by
    rw [Bool.eq_iff_iff]
    simp only [beq_iff_eq, decide_eq_true_eq]
    exact ⟨fun h => by omega, fun h => by rw [h]⟩
  have HQ := Lib.hid hq
  clear hq
  go_enter Try.func132, Try.ntmps132
  go_wp2_with fail
  go_ret
  exact ⟨ret_bool HQ.out, hal.out⟩
theorem index_p (A : Option Addr) (n c : Nat) (l : List Rk) (i b : Nat) (w : World) (hl : KSl w A n c l) (hb : w.cell? ⟨b, 0, none⟩ = some (.int .u16 (i : Int))) (hbl : b < w.heap.size) :
    Calls Try.prog 131 #[.slice A n c, .func (.func 132) #[] #[.pointer (some ⟨b, 0, none⟩)]] w fun e w' => e = .returned (.int .i64 (ixOf i l)) ∧ Below w.heap.size w w' := by
  have HL := Lib.hid hl; have HN := Lib.hid hl.len
  have HF : Hid (∀ r u, Below w.heap.size w u → Calls Try.prog 132 #[Rk.v r, .pointer (some ⟨b, 0, none⟩)] u fun e u' => e = .returned (.bool (decide (r.id = i))) ∧ Below u.heap.size u u') :=
    Lib.hid fun r u hu => isid_p r i b u ((hu.cell (p := ⟨b, 0, none⟩) hbl).trans hb) (Nat.lt_of_lt_of_le hbl hu.size)
  have hcm : n ≤ 2 ^ 63 - 1 := Nat.le_trans hl.cap hl.max
  clear hl hb hbl
  go_enter Try.func131, Try.ntmps131
  go_wp2_with fail
  go_loopw [8] (fun v wr => ∃ j : Nat, j ≤ n ∧ v = .int .i64 (j : Int) ∧ has (l.take j) i = false ∧ Below w.heap.size w wr) (fun v _ => n - (intOf v).toNat)
  case atStart => exact ⟨0, Nat.zero_le _, rfl, by simp [has], Below.refl _ _⟩
  case round =>
    obtain ⟨j, hj, rfl, hall, hbel⟩ := hrel
    by_cases hlt : j < n
    · have b0 : decide ((j : Int) < (n : Int)) = true := by simp; exact hlt
      have hjl : j < l.length := by have := HN.out; omega
      obtain ⟨a, rfl, hab, k0⟩ := krow_k (HL.out.step hbel).row hjl
      have n1 : (j : Int) < (n : Int) := by omega
      have n2 : (0 : Int) ≤ (j : Int) := by omega
      have htk : has (l.take (j + 1)) i = decide (l[j].id = i) := by
        unfold has at hall ⊢
        rw [List.take_succ_eq_append_getElem hjl, List.any_append, hall]; simp
      have hix : decide (l[j].id = i) = true → ixOf i l = (j : Int) := fun hp => by
        unfold ixOf
        have hany : has l i = true := List.any_eq_true.2 ⟨_, List.getElem_mem hjl, hp⟩
        rw [if_pos hany]
        congr 1
        rw [List.findIdx_eq hjl]
        refine ⟨hp, fun q hq => ?_⟩
        have h1 : has (l.take j) i ≠ true := by rw [hall]; decide
        rcases hpi : decide ((l[q]'(Nat.lt_trans hq hjl)).id = i) with _ | _
        · rfl
        · exact absurd (List.any_eq_true.2 ⟨l[q]'(Nat.lt_trans hq hjl), List.mem_take_iff_getElem.2 ⟨q, by omega, rfl⟩, hpi⟩) h1
      have hcl := HF.out l[j] wr hbel
      have HTK := Lib.hid htk
      have HIX := Lib.hid hix
      have HK := Lib.hid k0
      have HC := Lib.hid hcl
      clear hall k0 htk hix hcl
      generalize l[j] = x at *
      go_wp2_with (refine wpList_load_k rfl (.tmp 14) rfl (a.add (j * 2)) x rfl HK.out ?_)
      refine HC.out.mono ?_
      rintro e w2 ⟨rfl, hb2⟩
      have hbel2 := hbel.trans (hb2.mono hbel.size)
      clear HC
      obtain ⟨b1, hb1⟩ : ∃ b1, b1 = decide (x.id = i) := ⟨_, rfl⟩
      rw [← hb1] at HTK HIX ⊢
      clear hb1
      cases b1
      · go_wp2_with fail
        exact ⟨⟨j + 1, by omega, by push_cast; rfl, HTK.out, hbel2⟩, by simp [intOf]; omega⟩
      · go_wp2_with fail
        go_ret
        have hx := HIX.out (by first | rfl | trivial)
        exact ⟨by rw [hx]; rfl, hbel2⟩
    · have b0 : decide ((j : Int) < (n : Int)) = false := by simp; omega
      have htk : l.take j = l := List.take_of_length_le (by have := HN.out; omega)
      rw [htk] at hall
      have HA := Lib.hid hall
      clear htk hall
      go_wp2_with fail
      go_ret
      have hx : ixOf i l = -1 := by unfold ixOf; rw [HA.out]; rfl
      exact ⟨by rw [hx]; rfl, hbel⟩
section
variable {B : Nat} {W w w' : World} {g : Nat} {rv rv' : Value} {S S' : Rp}
theorem find_p (h : RA B W w g rv S) (i : Nat) : Calls Try.prog 111 #[.pointer (some ⟨g, 0, none⟩), .int .u16 (i : Int)] w fun e w' => e = .returned (.int .i64 (ixOf i S.recs)) ∧ Below w.heap.size w w' := by
  have hal : Below w.heap.size w (w.alloc (.cells #[.int .u16 (i : Int)] 30)) := (Below.refl _ _).alloc (Nat.le_refl _) _
  have c1 := h.c1
  have hlg := h.lg
  obtain ⟨A, n, c, rfl, hs⟩ := h.own.sl
  have HI := Lib.hid (index_p A n c S.recs i w.heap.size _ (hs.step hal) (cell_of_row _ _ 0 _ _ _ (heap_alloc_new w _)) (by simp))
  have HAL := Lib.hid hal
  clear h hs hal
  go_enter Try.func111, Try.ntmps111
  go_wp2_with fail
  refine HI.out.mono ?_
  rintro e w1 ⟨rfl, hb1⟩
  go_wp2_with fail
  go_ret
  exact ⟨rfl, HAL.out.trans (hb1.mono HAL.out.size)⟩
theorem ixOf_no {i : Nat} {l : List Rk} (h : has l i = false) : ixOf i l = -1 := by unfold ixOf; rw [h]; rfl
theorem ixOf_yes {i : Nat} {l : List Rk} (h : has l i = true) : ∃ k : Nat, k < l.length ∧ ixOf i l = (k : Int) ∧ k = l.findIdx (fun r => decide (r.id = i)) := by
  refine ⟨_, List.findIdx_lt_length_of_exists (List.any_eq_true.1 h), ?_, rfl⟩
  unfold ixOf
  rw [h]
  rfl
theorem freeid_p (h : RA B W w g rv S) (ok : S.Ok) : Calls Try.prog 103 #[.pointer (some ⟨g, 0, none⟩)] w fun e w' => e = .returned (.int .u16 (fid S.recs S.last : Int)) ∧ Below w.heap.size w w' := by
  have c2 := h.c2
  have hlg := h.lg
  have hst := steps_is S.recs (nxt S.last) (by have := ok.len; omega)
  have hr := nxt_rng S.last ok.last
  have HB := Lib.hid (fun (i : Nat) (hi : i ≤ 65534) (u : World) => behind_p i u hi)
  have HH := Lib.hid h
  have HST := Lib.hid hst
  have HR := Lib.hid hr
  have HLA := Lib.hid ok.last
  have HLN := Lib.hid ok.len
  clear h ok hst hr
  unfold fid
  generalize hK : steps S.recs (nxt S.last) = K at *
  clear hK
  go_enter Try.func103, Try.ntmps103
  go_wp2_with fail
  refine (HB.out S.last HLA.out _).mono ?_
  rintro e w1 ⟨rfl, hw1⟩
  rw [hw1]
  clear hw1 w1
  go_wp2_with fail
  go_loopw [3] (fun v wr => ∃ j : Nat, j ≤ K ∧ v = .int .u16 (nth (nxt S.last) j : Int) ∧ Below w.heap.size w wr) (fun v _ => K - ((intOf v).toNat + 65534 - nxt S.last) % 65534)
  case atStart => exact ⟨0, Nat.zero_le _, by rw [nth_zero HR.out.1 HR.out.2], Below.refl _ _⟩
  case round =>
    obtain ⟨j, hj, rfl, hbel⟩ := hrel
    have HF := Lib.hid (find_p (HH.out.step hbel) (nth (nxt S.last) j))
    have hrg := nth_rng (nxt S.last) j
    rcases Nat.lt_or_ge j K with hlt | hge
    · obtain ⟨k, hk1, hk2, -⟩ := ixOf_yes (HST.out.2.2 j hlt)
      rw [hk2] at HF
      have HME : Hid (K - (((nth (nxt S.last) (j + 1) : Int)).toNat + 65534 - nxt S.last) % 65534 < K - (((nth (nxt S.last) j : Int)).toNat + 65534 - nxt S.last) % 65534) := by
        refine Lib.hid ?_
        have h1 := HR.out
        have h2 := HST.out.1
        have h3 := HLN.out
        have e1 : (((nth (nxt S.last) (j + 1) : Int)).toNat + 65534 - nxt S.last) % 65534 = j + 1 := by
          unfold nth
          rw [Int.toNat_natCast]
          omega
        have e2 : (((nth (nxt S.last) j : Int)).toNat + 65534 - nxt S.last) % 65534 = j := by
          unfold nth
          rw [Int.toNat_natCast]
          omega
        rw [e1, e2]
        omega
      have HNX := Lib.hid (nxt_nth (nxt S.last) j)
      clear hk2
      generalize hI : nth (nxt S.last) j = I at *
      clear hI
      go_wp2_with fail
      refine HF.out.mono ?_
      rintro e w1 ⟨rfl, hb1⟩
      go_wp2_with fail
      refine (HB.out I hrg.2 _).mono ?_
      rintro e w2 ⟨rfl, hw2⟩
      rw [hw2]
      clear hw2 w2
      rw [HNX.out]
      go_wp2_with fail
      exact ⟨⟨j + 1, by omega, rfl, hbel.trans (hb1.mono hbel.size)⟩, HME.out⟩
    · obtain rfl : j = K := Nat.le_antisymm hj hge
      have hix := ixOf_no HST.out.2.1
      rw [hix] at HF
      clear hix hge hj
      generalize hI : nth (nxt S.last) j = I at *
      have HI := Lib.hid hI
      clear hI
      go_wp2_with fail
      refine HF.out.mono ?_
      rintro e w1 ⟨rfl, hb1⟩
      go_wp2_with fail
      go_ret
      rw [HI.out]
      exact ⟨rfl, hbel.trans (hb1.mono hbel.size)⟩
end
end Go.Proofs.Ytcnkiecdagjgmaa.R11
