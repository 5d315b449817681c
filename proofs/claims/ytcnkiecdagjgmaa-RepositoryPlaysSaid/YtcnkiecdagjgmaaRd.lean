/- Walks: a new repository, reservations, free bytes. -/
import Derived.Test.YtcnkiecdagjgmaaRc
namespace Go.Proofs.Ytcnkiecdagjgmaa.R11
open Go.RowKit Go.Proofs.Ytcnkiecdagjgmaa.Mem
set_option maxRecDepth 100000
set_option maxHeartbeats 1000000

theorem new_no (c : Int) (w : World) (h : c < 1 ∨ 10240 < c) :
    Calls Try.prog 49 #[.int .i64 c] w fun e w' => e = .returned (.tuple #[.pointer none, .int .i64 2]) ∧ w' = w := by
  rcases h with h | h
  all_goals
    go_enter Try.func49, Try.ntmps49
    go_wp2_with fail
    go_ret2
    exact ⟨rfl, rfl⟩
theorem new_p (c : Nat) (w : World) (h1 : 1 ≤ c) (h2 : c ≤ 10240) :
    Calls Try.prog 49 #[.int .i64 (c : Int)] w fun e w' => e = .returned (.tuple #[.pointer (some ⟨w.heap.size, 0, none⟩), .int .i64 0]) ∧ RA w.heap.size w w' w.heap.size (.slice none 0 0) (fresh c) := by
  have hal : Below w.heap.size w (w.alloc (.cells (headOf (fresh c) (.slice none 0 0)) 129)) := (Below.refl _ _).alloc (Nat.le_refl _) _
  have HAL := Lib.hid hal
  clear hal
  go_enter Try.func49, Try.ntmps49
  go_wp2_with fail
  go_ret2
  exact ⟨rfl, HAL.out, heap_alloc_new w _, KOwn.nil, by simp [fresh], Nat.le_refl _⟩
section
variable {B : Nat} {W w w' : World} {g : Nat} {rv rv' : Value} {S S' : Rp}
theorem res_p (h : RA B W w g rv S) (ok : S.Ok) : Calls Try.prog 54 #[.pointer (some ⟨g, 0, none⟩)] w fun e w' => e = .returned (.int .u16 (S.res.resv : Int)) ∧ RA B W w' g rv S.res ∧ Kp g rv rv w w' := by
  have c3 := h.c3
  have c4 := h.c4
  have f3 := h.fz 3
  have f4 := h.fz 4
  have hb := ok.resv
  by_cases hm : S.resv = 65535
  · have h1 := h.put0 3 (.int .u16 0) (S' := { S with resv := 0 }) rfl rfl
    have h2 := h1.put0 3 (.int .u16 1) (S' := { S with resv := 1 }) rfl rfl
    have h3 := h2.put0 4 (.bool true) (S' := { S with resv := 1, rsvd := true }) rfl rfl
    have hk := ((Kp.put (g := g) (rv := rv) (w := w) (.int .u16 0) 3).trans (Kp.put (.int .u16 1) 3)).trans (Kp.put (.bool true) 4)
    have e : S.res = { S with resv := 1, rsvd := true } := by unfold Rp.res; rw [if_pos hm]
    have H := Lib.hid (And.intro h3 hk)
    rw [e]
    rw [hm] at c3
    clear h h1 h2 h3 hk e hm
    go_enter Try.func54, Try.ntmps54
    go_wp2_with fail
    go_ret
    exact ⟨rfl, H.out⟩
  · have h2 := h.put0 3 (.int .u16 ((S.resv : Int) + 1)) (S' := { S with resv := S.resv + 1 }) rfl rfl
    have h3 := h2.put0 4 (.bool true) (S' := { S with resv := S.resv + 1, rsvd := true }) rfl rfl
    have hk := (Kp.put (g := g) (rv := rv) (w := w) (.int .u16 ((S.resv : Int) + 1)) 3).trans (Kp.put (.bool true) 4)
    have e : S.res = { S with resv := S.resv + 1, rsvd := true } := by unfold Rp.res; rw [if_neg hm]
    have H := Lib.hid (And.intro h3 hk)
    rw [e]
    have n1 : ((S.resv : Int) == 65535) = false := by simp; omega
    have n2 : S.resv ≤ 65534 := by omega
    clear h h2 h3 hk e hm hb
    go_enter Try.func54, Try.ntmps54
    go_wp2_with fail
    go_ret
    exact ⟨rfl, H.out⟩
theorem valid_p (h : RA B W w g rv S) (v : Nat) : Calls Try.prog 109 #[.pointer (some ⟨g, 0, none⟩), .int .u16 (v : Int)] w fun e w' => e = .returned (.bool (S.valid v)) ∧ w' = w := by
  have c3 := h.c3
  have c4 := h.c4
  have e : ((v : Int) == (S.resv : Int)) = decide (v = S.resv) := by
    rw [Bool.eq_iff_iff]
    simp only [beq_iff_eq, decide_eq_true_eq]
    exact ⟨fun h => by omega, fun h => by rw [h]⟩
  have HE := Lib.hid e
  unfold Rp.valid
  rcases hd : S.rsvd with _ | _
  all_goals
    rw [hd] at c4
    clear hd h e
    go_enter Try.func109, Try.ntmps109
    go_wp2_with fail
    go_ret
    first | exact ⟨rfl, rfl⟩ | exact ⟨ret_bool (by rw [HE.out]; rfl), rfl⟩
theorem free_p (h : RA B W w g rv S) (ok : S.Ok) : Calls Try.prog 63 #[.pointer (some ⟨g, 0, none⟩)] w fun e w' => e = .returned (.int .i64 (S.free : Int)) ∧ Below w.heap.size w w' := by
  have c0 := h.c0
  have c1 := h.c1
  have hcap := ok.cap
  have hlen := ok.len
  obtain ⟨A, n, c, rfl, hs⟩ := h.own.sl
  have HS := Lib.hid hs
  have HN := Lib.hid hs.len
  have HROOM := Lib.hid ok.room
  have hcm : n ≤ 2 ^ 63 - 1 := Nat.le_trans hs.cap hs.max
  clear h hs ok
  unfold Rp.free
  generalize S.recs = l at *
  generalize S.cap = C at *
  go_enter Try.func63, Try.ntmps63
  go_wp2_with fail
  clear c0 c1
  go_loopw [3, 15] (fun v iv wr => ∃ j x : Nat, j ≤ n ∧ iv = .int .i64 (j : Int) ∧ v = .int .i64 (x : Int) ∧ x + sum (l.take j) = C ∧ Below w.heap.size w wr) (fun _ iv _ => n - (intOf iv).toNat)
  case atStart => exact ⟨0, C, Nat.zero_le _, rfl, rfl, by simp [sum_nil], Below.refl _ _⟩
  case round =>
    obtain ⟨j, x, hj, rfl, rfl, hx, hbel⟩ := hrel
    have HX := Lib.hid hx
    clear hx
    rcases Nat.lt_or_ge j n with hlt | hge
    · have n1 : (j : Int) < (n : Int) := by omega
      have n2 : (0 : Int) ≤ (j : Int) := by omega
      have hjl : j < l.length := by have := HN.out; omega
      obtain ⟨a, rfl, hab, k0⟩ := krow_k (HS.out.step hbel).row hjl
      have hle : (l[j].b.length : Nat) ≤ x := by
        have h1 := HROOM.out
        have h2 := HX.out
        have h3 : sum l = sum (l.take j) + (l[j].b.length + sum (l.drop (j + 1))) := by
          conv => lhs; rw [← List.take_append_drop j l]
          rw [sum_app, ← List.getElem_cons_drop hjl, sum_cons]
        omega
      have hsn : sum (l.take (j + 1)) = sum (l.take j) + l[j].b.length := by rw [List.take_succ_eq_append_getElem hjl, sum_app, sum_one]
      have hx2 : x ≤ 10240 := by have := HX.out; omega
      have HSN := Lib.hid hsn
      have HK := Lib.hid k0
      clear hsn k0
      generalize l[j] = r at *
      have hal : Below w.heap.size w (wr.alloc (.cells r.cells 134)) := hbel.alloc hbel.size _
      have HAL := Lib.hid hal
      clear hal
      obtain ⟨rid, rblk, rcap, rb⟩ := r
      dsimp only at hle
      dsimp only [Rk.cells] at HAL
      obtain ⟨m, hm⟩ : ∃ m, m = rb.length := ⟨_, rfl⟩
      dsimp only at HSN
      rw [← hm] at hle HAL HSN
      have HM := Lib.hid hm
      clear hm
      go_wp2_with (refine wpList_load_k rfl (.tmp 17) rfl (a.add (j * 2)) _ rfl HK.out ?_; refine Hid.out ?_)
      dsimp only [Rk.v, Rk.cells]
      rw [← HM.out]
      refine Lib.hid ?_
      go_wp2_with fail
      exact ⟨⟨j + 1, x - m, by omega, by go_num, vi (by omega), by have h1 := HX.out; have h2 := HSN.out; omega, HAL.out⟩, by simp [intOf]; omega⟩
    · have n1 : ¬ (j : Int) < (n : Int) := by omega
      obtain rfl : j = n := Nat.le_antisymm hj hge
      have htk : l.take j = l := List.take_of_length_le (by have := HN.out; omega)
      have hx := HX.out
      rw [htk] at hx
      have HX2 := Lib.hid hx
      clear hx htk HX hge hj
      go_wp2_with fail
      go_ret
      exact ⟨ret_int (by have := HX2.out; omega), hbel⟩
end
theorem behind_p (i : Nat) (w : World) (h : i ≤ 65534) : Calls Try.prog 130 #[.int .u16 (i : Int)] w fun e w' => e = .returned (.int .u16 (nxt i : Int)) ∧ w' = w := by
  unfold nxt
  by_cases hm : i = 65534
  · subst hm
    go_enter Try.func130, Try.ntmps130
    go_wp2_with fail
    go_ret
    exact ⟨rfl, rfl⟩
  · rw [if_neg hm]
    go_enter Try.func130, Try.ntmps130
    go_wp2_with fail
    go_ret
    exact ⟨by rfl, rfl⟩
end Go.Proofs.Ytcnkiecdagjgmaa.R11
