/- Walks: records are read. -/
import Derived.Test.YtcnkiecdagjgmaaRf
namespace Go.Proofs.Ytcnkiecdagjgmaa.R11
open Go.RowKit Go.Proofs.Ytcnkiecdagjgmaa.Mem
set_option maxRecDepth 100000
set_option maxHeartbeats 1000000

/-- A list in which the record at place k is r and the next ID is q. -/
theorem nid_more {l : List Rk} {k : Nat} (h : k + 1 < l.length) : nid l k = l[k + 1].id := by unfold nid; rw [List.getElem?_eq_getElem h]
theorem nid_last {l : List Rk} {k : Nat} (h : l.length ≤ k + 1) : nid l k = 0 := by unfold nid; rw [List.getElem?_eq_none h]
section
variable {B : Nat} {W w w' : World} {g : Nat} {rv rv' : Value} {S S' : Rp}
theorem stored_no (h : RA B W w g rv S) (i : Nat) (hp : plc S.recs i = none) : Calls Try.prog 106 #[.pointer (some ⟨g, 0, none⟩), .int .u16 (i : Int)] w fun e w' => e = .returned (.tuple #[.slice none 0 0, .int .u16 0, .int .i64 8]) ∧ Below w.heap.size w w' := by
  have c1 := h.c1
  have hlg := h.lg
  have HF := Lib.hid (find_p h i)
  have HH := Lib.hid h
  obtain ⟨A1, n1, cc1, rfl, hs⟩ := h.own.sl
  have hn1 : n1 = S.recs.length := hs.len
  have hcm : n1 ≤ 2 ^ 63 - 1 := Nat.le_trans hs.cap hs.max
  have HN := Lib.hid hn1
  unfold plc at hp
  clear h hs hn1
  by_cases h0 : i = 0
  · subst h0
    rw [if_pos rfl] at hp
    have hl : n1 = 0 := by
      rcases Nat.eq_zero_or_pos n1 with e | e
      · exact e
      · rw [if_neg (by have := HN.out; omega)] at hp; cases hp
    subst hl
    clear hp
    go_enter Try.func106, Try.ntmps106
    go_wp2_with fail
    go_ret3
    exact ⟨rfl, Below.refl _ _⟩
  · rw [if_neg h0] at hp
    have hh : has S.recs i = false := by
      rcases hq : has S.recs i with _ | _
      · rfl
      · rw [hq] at hp; cases hp
    rw [ixOf_no hh] at HF
    have q0 : ((i : Int) != 0) = true := by simp; exact h0
    clear hp hh h0
    go_enter Try.func106, Try.ntmps106
    go_wp2_with fail
    refine HF.out.mono ?_
    rintro e w1 ⟨rfl, hb1⟩
    go_wp2_with fail
    go_ret3
    exact ⟨rfl, hb1⟩
theorem stored_yes (h : RA B W w g rv S) (ok : S.Ok) (i k : Nat) (hp : plc S.recs i = some k) (r : Rk) (hr : S.recs[k]? = some r) : Calls Try.prog 106 #[.pointer (some ⟨g, 0, none⟩), .int .u16 (i : Int)] w fun e w' =>
    e = .returned (.tuple #[.slice (some ⟨r.blk, 0, none⟩) r.b.length r.cap, .int .u16 (nid S.recs k : Int), .int .i64 0]) ∧ Below w.heap.size w w' := by
  have hk := plc_lt hp
  have HR : Hid (S.recs[k] = r) := Lib.hid (by rw [List.getElem?_eq_getElem hk] at hr; exact Option.some.inj hr)
  have HF := Lib.hid (find_p h i)
  have HH := Lib.hid h
  have HL := Lib.hid ok.len
  have hlg := h.lg
  have c1 := h.c1
  obtain ⟨A1, n1, cc1, rfl, hs⟩ := h.own.sl
  have hn1 : n1 = S.recs.length := hs.len
  have hcm : n1 ≤ 2 ^ 63 - 1 := Nat.le_trans hs.cap hs.max
  have hkn : k < n1 := by omega
  have n1' : n1 ≤ 64 := by have := ok.len; omega
  have HN := Lib.hid hn1
  have HS := Lib.hid hs
  have HNID : Hid (nid S.recs k = if h : k + 1 < S.recs.length then (S.recs[k + 1]'h).id else 0) := Lib.hid (by
    split
    · rename_i h; exact nid_more h
    · rename_i h; exact nid_last (Nat.le_of_not_lt h))
  unfold plc at hp
  have m0 : (0 : Int) < (n1 : Int) := by omega
  have m00 : (k : Int) < (n1 : Int) := by omega
  clear h ok hr hn1
  generalize hX : nid S.recs k = X at *
  clear hX
  have HXN : k + 1 < n1 → ∃ hh : k + 1 < S.recs.length, X = (S.recs[k + 1]'hh).id := fun hh => by
    have h2 : k + 1 < S.recs.length := by rw [← HN.out]; exact hh
    refine ⟨h2, ?_⟩
    have := HNID.out
    rw [dif_pos h2] at this
    exact this
  have HXZ : ¬ k + 1 < n1 → X = 0 := fun hh => by
    have := HNID.out
    rw [dif_neg (by rw [← HN.out]; exact hh)] at this
    exact this
  have HXN := Lib.hid HXN
  have HXZ := Lib.hid HXZ
  clear HNID
  by_cases h0 : i = 0
  · subst h0
    rw [if_pos rfl] at hp
    have hk0 : k = 0 := by
      split at hp
      · cases hp
      · injection hp with hp; exact hp.symm
    subst hk0
    obtain ⟨a, rfl, hab, e0, e1⟩ := krow_at HS.out.row hk
    rw [HR.out] at e0 e1
    by_cases hm : 0 + 1 < n1
    · obtain ⟨hh, rfl⟩ := HXN.out hm
      obtain ⟨a', ha', -, e2, -⟩ := krow_at HS.out.row hh
      injection ha' with ha'
      subst ha'
      generalize (S.recs[0 + 1]'hh).id = X at *
      have m1 : (1 : Int) < (n1 : Int) := by omega
      have e1' : w.cell? ⟨a.block, a.off + 1, none⟩ = some (.slice (some ⟨r.blk, 0, none⟩) r.b.length r.cap) := e1
      have e2' : w.cell? ⟨a.block, a.off + 2, none⟩ = some (.int .u16 (X : Int)) := e2
      clear e1 e2 e0 hp HF hm HR hk
      go_enter Try.func106, Try.ntmps106
      go_wp2_with fail
      go_ret3
      exact ⟨rfl, Below.refl _ _⟩
    · obtain rfl := HXZ.out hm
      have m1 : ¬ (1 : Int) < (n1 : Int) := by omega
      have e1' : w.cell? ⟨a.block, a.off + 1, none⟩ = some (.slice (some ⟨r.blk, 0, none⟩) r.b.length r.cap) := e1
      clear e1 e0 hp HF hm HR hk
      go_enter Try.func106, Try.ntmps106
      go_wp2_with fail
      go_ret3
      exact ⟨rfl, Below.refl _ _⟩
  · rw [if_neg h0] at hp
    have hh : has S.recs i = true := by
      rcases hq : has S.recs i with _ | _
      · rw [hq] at hp; cases hp
      · rfl
    rw [if_pos hh] at hp
    obtain ⟨k', -, hk2, hk3⟩ := ixOf_yes hh
    rw [← hk3] at hp
    injection hp with hp
    subst hp
    rw [hk2] at HF
    have q0 : ((i : Int) != 0) = true := by simp; exact h0
    clear hk2 hk3 hh h0
    go_enter Try.func106, Try.ntmps106
    go_wp2_with fail
    refine HF.out.mono ?_
    rintro e w1 ⟨rfl, hb1⟩
    have HH1 := HH.out.step hb1
    have c1 := HH1.c1
    obtain ⟨a, rfl, hab, e0, e1⟩ := krow_at (HS.out.step hb1).row hk
    rw [HR.out] at e0 e1
    have e1' : w1.cell? ⟨(a.add (k' * 2)).block, (a.add (k' * 2)).off + 1, none⟩ = some (.slice (some ⟨r.blk, 0, none⟩) r.b.length r.cap) := by rw [← e1, ← add_add]; rfl
    by_cases hm : k' + 1 < n1
    · obtain ⟨hh, hXe⟩ := HXN.out hm
      obtain ⟨a', ha', -, e2, -⟩ := krow_at (HS.out.step hb1).row hh
      injection ha' with ha'
      subst ha'
      rw [← hXe] at e2
      clear hXe
      have m1 : (k' : Int) + 1 < (n1 : Int) := by omega
      clear e1 e0 HF hm HR hk
      go_wp2_with fail
      go_ret3
      exact ⟨rfl, hb1⟩
    · obtain rfl := HXZ.out hm
      have m1 : ¬ (k' : Int) + 1 < (n1 : Int) := by omega
      clear e1 e0 HF hm HR hk
      go_wp2_with fail
      go_ret3
      exact ⟨rfl, hb1⟩
end
end Go.Proofs.Ytcnkiecdagjgmaa.R11
