/- Walks: the reference's repository: new, reservations, free bytes, the record with an ID. -/
import Derived.Test.YtcnkiecdagjgmaaRo
import Derived.Test.YtcnkiecdagjgmaaRi
namespace Go.Proofs.Ytcnkiecdagjgmaa.R12
open Go.RowKit Go.Proofs.Ytcnkiecdagjgmaa.Mem
open Go.Proofs.Ytcnkiecdagjgmaa.R11 (Rk Rp sum sum_nil sum_app sum_cons sum_one fresh has has_iff nxt nth steps fid ixOf ixOf_no ixOf_yes plc nid lt_of_some)
set_option maxRecDepth 100000
set_option maxHeartbeats 1000000

theorem rnew_no (c : Int) (w : World) (h : c < 1 ∨ 10240 < c) :
    Calls Try.prog 50 #[.int .i64 c] w fun e w' => e = .returned (.tuple #[.pointer none, .int .i64 2]) ∧ w' = w := by
  rcases h with h | h
  all_goals
    go_enter Try.func50, Try.ntmps50
    go_wp2_with fail
    go_ret2
    exact ⟨rfl, rfl⟩
theorem rnew_p (c : Nat) (w : World) (h1 : 1 ≤ c) (h2 : c ≤ 10240) :
    Calls Try.prog 50 #[.int .i64 (c : Int)] w fun e w' => e = .returned (.tuple #[.pointer (some ⟨w.heap.size, 0, none⟩), .int .i64 0]) ∧ RA w.heap.size w w' w.heap.size (.slice none 0 0) (fresh c) := by
  have hal : Below w.heap.size w (w.alloc (.cells (headOf (fresh c) (.slice none 0 0)) 132)) := (Below.refl _ _).alloc (Nat.le_refl _) _
  have HAL := Lib.hid hal
  clear hal
  go_enter Try.func50, Try.ntmps50
  go_wp2_with fail
  go_ret2
  exact ⟨rfl, HAL.out, heap_alloc_new w _, KOwn.nil, by simp [fresh], Nat.le_refl _⟩
section
variable {B : Nat} {W w w' : World} {g : Nat} {rv rv' : Value} {S S' : Rp}
theorem rres_p (h : RA B W w g rv S) (ok : S.Ok) : Calls Try.prog 53 #[.pointer (some ⟨g, 0, none⟩)] w fun e w' => e = .returned (.int .u16 (S.res.resv : Int)) ∧ RA B W w' g rv S.res ∧ Kp g rv rv w w' := by
  have c2 := h.c2
  have c3 := h.c3
  have f2 := h.fz 2
  have f3 := h.fz 3
  have hb := ok.resv
  obtain ⟨X, hX⟩ : ∃ X, X = S.res.resv := ⟨_, rfl⟩
  have hXe : (X : Int) = (S.resv : Int) % 65535 + 1 := by
    rw [hX]
    unfold Rp.res
    dsimp only
    split <;> omega
  have hXb : X ≤ 65535 := by omega
  have h2 := h.put0 2 (.int .i64 (X : Int)) (S' := { S with resv := X }) rfl rfl
  have h3 := h2.put0 3 (.bool true) (S' := S.res) (by rw [show S.res = { S with resv := X, rsvd := true } by rw [hX]; rfl]; rfl) rfl
  have hk := (Kp.put (g := g) (rv := rv) (w := w) (.int .i64 (X : Int)) 2).trans (Kp.put (.bool true) 3)
  have hh := And.intro h3 hk
  rw [hXe] at hh
  have H := Lib.hid hh
  rw [← hX, hXe]
  generalize S.resv = R at *
  clear h h2 h3 hk hX hXe hh hXb
  go_enter Try.func53, Try.ntmps53
  go_wp2_with fail
  go_ret
  exact ⟨rfl, H.out⟩
theorem rheld_p (h : RA B W w g rv S) (v : Nat) (hv : v ≤ 65535) : Calls Try.prog 110 #[.pointer (some ⟨g, 0, none⟩), .int .u16 (v : Int)] w fun e w' => e = .returned (.bool (S.valid v)) ∧ w' = w := by
  have c2 := h.c2
  have c3 := h.c3
  have e : ((v : Int) == (S.resv : Int)) = decide (v = S.resv) := by
    rw [Bool.eq_iff_iff]
    simp only [beq_iff_eq, decide_eq_true_eq]
    exact ⟨fun h => by omega, fun h => by rw [h]⟩
  have HE := Lib.hid e
  unfold Rp.valid
  rcases hd : S.rsvd with _ | _
  all_goals
    rw [hd] at c3
    clear hd h e
    go_enter Try.func110, Try.ntmps110
    go_wp2_with fail
    go_ret
    first | exact ⟨rfl, rfl⟩ | exact ⟨ret_bool (by rw [HE.out]; rfl), rfl⟩
theorem rfree_p (h : RA B W w g rv S) (ok : S.Ok) : Calls Try.prog 64 #[.pointer (some ⟨g, 0, none⟩)] w fun e w' => e = .returned (.int .i64 (S.free : Int)) ∧ w' = w := by
  have c0 := h.c0
  have c1 := h.c1
  have hcap := ok.cap
  have hlen := ok.len
  obtain ⟨A, n, c, rfl, hs⟩ := h.own.sl
  have HS := Lib.hid hs
  have HN := Lib.hid hs.len
  have HROOM := Lib.hid ok.room
  have hcm : n ≤ 2 ^ 63 - 1 := Nat.le_trans hs.cap hs.max
  clear h hs ok
  unfold Rp.free
  generalize S.recs = l at *
  generalize S.cap = C at *
  go_enter Try.func64, Try.ntmps64
  go_wp2_with fail
  go_loopw [3, 4] (fun v iv wr => ∃ j x : Nat, j ≤ n ∧ iv = .int .i64 (j : Int) ∧ v = .int .i64 (x : Int) ∧ x + sum (l.take j) = C ∧ wr = w) (fun _ iv _ => n - (intOf iv).toNat)
  case atStart => exact ⟨0, C, Nat.zero_le _, rfl, rfl, by simp [sum_nil], rfl⟩
  case round =>
    obtain ⟨j, x, hj, rfl, rfl, hx, rfl⟩ := hrel
    have HX := Lib.hid hx
    clear hx
    rcases Nat.lt_or_ge j n with hlt | hge
    · have n1 : (j : Int) < (n : Int) := by omega
      have n2 : (0 : Int) ≤ (j : Int) := by omega
      have hjl : j < l.length := by have := HN.out; omega
      obtain ⟨a, rfl, hab, -, k1⟩ := krow_at HS.out.row hjl
      have hle : (l[j].b.length : Nat) ≤ x := by
        have h1 := HROOM.out
        have h2 := HX.out
        have h3 : sum l = sum (l.take j) + (l[j].b.length + sum (l.drop (j + 1))) := by
          conv => lhs; rw [← List.take_append_drop j l]
          rw [sum_app, ← List.getElem_cons_drop hjl, sum_cons]
        omega
      have hsn : sum (l.take (j + 1)) = sum (l.take j) + l[j].b.length := by rw [List.take_succ_eq_append_getElem hjl, sum_app, sum_one]
      have hx2 : x ≤ 10240 := by have := HX.out; omega
      have HSN := Lib.hid hsn
      clear hsn
      generalize l[j] = r at *
      obtain ⟨rid, rblk, rcap, rb⟩ := r
      dsimp only at hle k1 HSN
      have k1' : wr.cell? ⟨(a.add (j * 2)).block, (a.add (j * 2)).off + 1, none⟩ = some (.slice (some ⟨rblk, 0, none⟩) rb.length rcap) := by rw [← k1, ← add_add]; rfl
      obtain ⟨m, hm⟩ : ∃ m, m = rb.length := ⟨_, rfl⟩
      rw [← hm] at hle HSN k1'
      clear hm k1
      go_wp2_with fail
      exact ⟨⟨j + 1, x - m, by omega, by go_num, vi (by omega), by have h1 := HX.out; have h2 := HSN.out; omega, trivial⟩, by simp [intOf]; omega⟩
    · have n1 : ¬ (j : Int) < (n : Int) := by omega
      obtain rfl : j = n := Nat.le_antisymm hj hge
      have htk : l.take j = l := List.take_of_length_le (by have := HN.out; omega)
      have hx := HX.out
      rw [htk] at hx
      have HX2 := Lib.hid hx
      clear hx htk HX hge hj
      go_wp2_with fail
      go_ret
      exact ⟨ret_int (by have := HX2.out; omega), rfl⟩
theorem rfind_p (h : RA B W w g rv S) (ok : S.Ok) (i : Nat) : Calls Try.prog 105 #[.pointer (some ⟨g, 0, none⟩), .int .i64 (i : Int)] w fun e w' => e = .returned (.int .i64 (ixOf i S.recs)) ∧ w' = w := by
  have c1 := h.c1
  have hlen := ok.len
  obtain ⟨A, n, c, rfl, hs⟩ := h.own.sl
  have HS := Lib.hid hs
  have HN := Lib.hid hs.len
  have hcm : n ≤ 2 ^ 63 - 1 := Nat.le_trans hs.cap hs.max
  clear h hs ok
  generalize S.recs = l at *
  go_enter Try.func105, Try.ntmps105
  go_wp2_with fail
  go_loopw [5] (fun v wr => ∃ j : Nat, j ≤ n ∧ v = .int .i64 (j : Int) ∧ has (l.take j) i = false ∧ wr = w) (fun v _ => n - (intOf v).toNat)
  case atStart => exact ⟨0, Nat.zero_le _, rfl, by simp [has], rfl⟩
  case round =>
    obtain ⟨j, hj, rfl, hall, rfl⟩ := hrel
    rcases Nat.lt_or_ge j n with hlt | hge
    · have n1 : (j : Int) < (n : Int) := by omega
      have n2 : (0 : Int) ≤ (j : Int) := by omega
      have hjl : j < l.length := by have := HN.out; omega
      obtain ⟨a, rfl, hab, k0, -⟩ := krow_at HS.out.row hjl
      have htk : has (l.take (j + 1)) i = decide (l[j].id = i) := by
        unfold has at hall ⊢
        rw [List.take_succ_eq_append_getElem hjl, List.any_append, hall]; simp
      have hix : decide (l[j].id = i) = true → ixOf i l = (j : Int) := fun hp => by
        unfold ixOf
        have hany : has l i = true := List.any_eq_true.2 ⟨_, List.getElem_mem hjl, hp⟩
        rw [if_pos hany]
        congr 1
        rw [List.findIdx_eq hjl]
        refine ⟨hp, fun q hq => ?_⟩
        have h1 : has (l.take j) i ≠ true := by rw [hall]; decide
        rcases hpi : decide ((l[q]'(Nat.lt_trans hq hjl)).id = i) with _ | _
        · rfl
        · exact absurd (List.any_eq_true.2 ⟨l[q]'(Nat.lt_trans hq hjl), List.mem_take_iff_getElem.2 ⟨q, by omega, rfl⟩, hpi⟩) h1
      have HTK := Lib.hid htk
      have HIX := Lib.hid hix
      clear hall htk hix
      generalize l[j] = r at *
      obtain ⟨rid, rblk, rcap, rb⟩ := r
      dsimp only at k0 HTK HIX
      by_cases he : rid = i
      · subst he
        have HI := Lib.hid (HIX.out (by simp))
        go_wp2_with fail
        go_ret
        exact ⟨by rw [HI.out]; rfl, rfl⟩
      · have hq : ((rid : Int) == (i : Int)) = false := by simp; omega
        have HT : Hid (has (l.take (j + 1)) i = false) := Lib.hid (by rw [HTK.out]; simp [he])
        clear HTK HIX he
        go_wp2_with fail
        exact ⟨⟨j + 1, by omega, by go_num, HT.out, trivial⟩, by simp [intOf]; omega⟩
    · have n1 : ¬ (j : Int) < (n : Int) := by omega
      have htk : l.take j = l := List.take_of_length_le (by have := HN.out; omega)
      rw [htk] at hall
      have HA := Lib.hid (ixOf_no hall)
      clear htk hall
      go_wp2_with fail
      go_ret
      exact ⟨by rw [HA.out]; rfl, rfl⟩
end
end Go.Proofs.Ytcnkiecdagjgmaa.R12
