/- Walks: Get, Read. -/
import Derived.Test.YtcnkiecdagjgmaaRg
namespace Go.Proofs.Ytcnkiecdagjgmaa.R11
open Go.RowKit Go.Proofs.Ytcnkiecdagjgmaa.Mem
set_option maxRecDepth 100000
set_option maxHeartbeats 1000000

/-- What Get answers. -/
def Rp.get (S : Rp) (i : Nat) : List UInt8 × Nat × Nat := match plc S.recs i with
  | none => ([], 0, 8)
  | some k => match S.recs[k]? with
    | none => ([], 0, 8)
    | some r => (r.b, nid S.recs k, 0)
theorem get_some {S : Rp} {i k : Nat} (h : plc S.recs i = some k) : ∃ r, S.recs[k]? = some r ∧ r ∈ S.recs ∧ S.get i = (r.b, nid S.recs k, 0) := by
  have hk := plc_lt h
  refine ⟨S.recs[k], List.getElem?_eq_getElem hk, List.getElem_mem hk, ?_⟩
  unfold Rp.get
  rw [h]
  dsimp only
  rw [List.getElem?_eq_getElem hk]
theorem get_none {S : Rp} {i : Nat} (h : plc S.recs i = none) : S.get i = ([], 0, 8) := by
  unfold Rp.get
  rw [h]
/-- What Read answers. -/
def Rp.read (S : Rp) (v i : Nat) (o c : Int) : List UInt8 × Nat × Nat :=
  if o ≠ 0 ∧ S.valid v = false then ([], 0, 11) else
  if (S.get i).2.2 ≠ 0 then ([], 0, 8) else
  if o < 0 ∨ c < 0 ∨ ((S.get i).1.length : Int) - c < o then ([], 0, 2) else
  (((S.get i).1.drop o.toNat).take c.toNat, (S.get i).2.1, 0)
section
variable {B : Nat} {W w w' : World} {g : Nat} {rv rv' : Value} {S S' : Rp}
/-- A call that hands out bytes. -/
def Gives (w : World) (R : List UInt8 × Nat × Nat) (e : Ending) (w' : World) : Prop :=
  ∃ A n c, e = .returned (.tuple #[.slice A n c, .int .u16 (R.2.1 : Int), .int .i64 (R.2.2 : Int)]) ∧ Own w.heap.size w' (.slice A n c) R.1 ∧ Below w.heap.size w w'
theorem get_p (h : RA B W w g rv S) (ok : S.Ok) (i : Nat) : Calls Try.prog 55 #[.pointer (some ⟨g, 0, none⟩), .int .u16 (i : Int)] w (Gives w (S.get i)) := by
  rcases hp : plc S.recs i with _ | k
  · rw [get_none hp]
    have HS := Lib.hid (stored_no h i hp)
    have HC := Lib.hid fun u => bclone_p none 0 0 [] u rfl Rd.nil (by omega) (by omega)
    clear h ok hp
    go_enter Try.func55, Try.ntmps55
    go_wp2_with fail
    refine HS.out.mono ?_
    rintro e w1 ⟨rfl, hb1⟩
    go_wp2_with fail
    refine (HC.out _).mono ?_
    rintro e w2 ⟨v2, rfl, ho2, hb2⟩
    obtain ⟨A2, n2, c2, rfl, -⟩ := Sl.of_own ho2
    go_wp2_with fail
    go_ret3
    exact ⟨_, _, _, rfl, ho2.base_ hb1.size, hb1.trans (hb2.mono hb1.size)⟩
  · obtain ⟨r, hr, hm, he⟩ := get_some hp
    rw [he]
    have HS := Lib.hid (stored_yes h ok i k hp r hr)
    have hl := ok.one r hm
    have HC := Lib.hid fun u (hu : Below w.heap.size w u) => bclone_p (some ⟨r.blk, 0, none⟩) r.b.length r.cap r.b u rfl (sl_own ((h.step hu).rows r hm) rfl).row (by omega) (by omega)
    clear h ok hp hr hm he hl
    go_enter Try.func55, Try.ntmps55
    go_wp2_with fail
    refine HS.out.mono ?_
    rintro e w1 ⟨rfl, hb1⟩
    go_wp2_with fail
    refine (HC.out _ hb1).mono ?_
    rintro e w2 ⟨v2, rfl, ho2, hb2⟩
    obtain ⟨A2, n2, c2, rfl, -⟩ := Sl.of_own ho2
    go_wp2_with fail
    go_ret3
    exact ⟨_, _, _, rfl, ho2.base_ hb1.size, hb1.trans (hb2.mono hb1.size)⟩
theorem read_r (h : RA B W w g rv S) (v i : Nat) (o c : Int) (_ho : -9223372036854775808 ≤ o ∧ o ≤ 9223372036854775807) (_hc : -9223372036854775808 ≤ c ∧ c ≤ 9223372036854775807) (h0 : o ≠ 0) (hv : S.valid v = false) :
    Calls Try.prog 57 #[.pointer (some ⟨g, 0, none⟩), .int .u16 (v : Int), .int .u16 (i : Int), .int .i64 o, .int .i64 c] w (Gives w ([], 0, 11)) := by
  have HV := valid_p h v
  rw [hv] at HV
  have HV := Lib.hid HV
  have q0 : (o != 0) = true := by simpa using h0
  clear h h0 hv
  go_enter Try.func57, Try.ntmps57
  go_wp2_with fail
  refine HV.out.mono ?_
  rintro e w1 ⟨rfl, hw1⟩
  rw [hw1]
  clear hw1 w1
  go_wp2_with fail
  go_ret3
  exact ⟨_, _, _, rfl, Own.nil, Below.refl _ _⟩
theorem read_m (h : RA B W w g rv S) (v i : Nat) (o c : Int) (_ho : -9223372036854775808 ≤ o ∧ o ≤ 9223372036854775807) (_hc : -9223372036854775808 ≤ c ∧ c ≤ 9223372036854775807) (h0 : o = 0 ∨ S.valid v = true) (hp : plc S.recs i = none) :
    Calls Try.prog 57 #[.pointer (some ⟨g, 0, none⟩), .int .u16 (v : Int), .int .u16 (i : Int), .int .i64 o, .int .i64 c] w (Gives w ([], 0, 8)) := by
  have HV := Lib.hid (valid_p h v)
  have HS := Lib.hid (stored_no h i hp)
  clear h hp
  by_cases hq : o = 0
  · have q0 : (o != 0) = false := by simpa using hq
    clear h0 hq
    go_enter Try.func57, Try.ntmps57
    go_wp2_with fail
    refine HS.out.mono ?_
    rintro e w1 ⟨rfl, hb1⟩
    go_wp2_with fail
    go_ret3
    exact ⟨_, _, _, rfl, Own.nil, hb1⟩
  · have q0 : (o != 0) = true := by simpa using hq
    rw [h0.resolve_left hq] at HV
    clear h0 hq
    go_enter Try.func57, Try.ntmps57
    go_wp2_with fail
    refine HV.out.mono ?_
    rintro e w1 ⟨rfl, hw1⟩
    rw [hw1]
    clear hw1 w1
    go_wp2_with fail
    refine HS.out.mono ?_
    rintro e w1 ⟨rfl, hb1⟩
    go_wp2_with fail
    go_ret3
    exact ⟨_, _, _, rfl, Own.nil, hb1⟩
theorem read_x (h : RA B W w g rv S) (ok : S.Ok) (v i k : Nat) (o c : Int) (ho : -9223372036854775808 ≤ o ∧ o ≤ 9223372036854775807) (hc : -9223372036854775808 ≤ c ∧ c ≤ 9223372036854775807) (h0 : o = 0 ∨ S.valid v = true) (hp : plc S.recs i = some k) (r : Rk) (hr : S.recs[k]? = some r)
    (hx : o < 0 ∨ c < 0 ∨ (r.b.length : Int) - c < o) :
    Calls Try.prog 57 #[.pointer (some ⟨g, 0, none⟩), .int .u16 (v : Int), .int .u16 (i : Int), .int .i64 o, .int .i64 c] w (Gives w ([], 0, 2)) := by
  have HV := Lib.hid (valid_p h v)
  have HS := stored_yes h ok i k hp r hr
  have hl := ok.one r (List.mem_of_getElem? hr)
  obtain ⟨L, hL⟩ : ∃ L, L = r.b.length := ⟨_, rfl⟩
  rw [← hL] at HS hl hx
  have HS := Lib.hid HS
  clear h hp ok hr hL
  have hl2 := hl.2
  by_cases hq : o = 0
  · have q0 : (o != 0) = false := by simpa using hq
    have q1 : decide (o < 0) = false := by simp; omega
    clear h0
    by_cases hc0 : c < 0
    · have q2 : decide (c < 0) = true := by simpa using hc0
      clear hx hq hc0
      go_enter Try.func57, Try.ntmps57
      go_wp2_with fail
      refine HS.out.mono ?_
      rintro e w1 ⟨rfl, hb1⟩
      go_wp2_with fail
      go_ret3
      exact ⟨_, _, _, rfl, Own.nil, hb1⟩
    · have q2 : decide (c < 0) = false := by simpa using hc0
      have q3 : (L : Int) - c < o := by omega
      clear hx hq hc0
      go_enter Try.func57, Try.ntmps57
      go_wp2_with fail
      refine HS.out.mono ?_
      rintro e w1 ⟨rfl, hb1⟩
      go_wp2_with fail
      go_ret3
      exact ⟨_, _, _, rfl, Own.nil, hb1⟩
  · have q0 : (o != 0) = true := by simpa using hq
    rw [h0.resolve_left hq] at HV
    clear h0 hq
    by_cases ho0 : o < 0
    · have q1 : decide (o < 0) = true := by simpa using ho0
      clear hx ho0
      go_enter Try.func57, Try.ntmps57
      go_wp2_with fail
      refine HV.out.mono ?_
      rintro e w1 ⟨rfl, hw1⟩
      rw [hw1]
      clear hw1 w1
      go_wp2_with fail
      refine HS.out.mono ?_
      rintro e w1 ⟨rfl, hb1⟩
      go_wp2_with fail
      go_ret3
      exact ⟨_, _, _, rfl, Own.nil, hb1⟩
    · have q1 : decide (o < 0) = false := by simpa using ho0
      by_cases hc0 : c < 0
      · have q2 : decide (c < 0) = true := by simpa using hc0
        clear hx ho0 hc0
        go_enter Try.func57, Try.ntmps57
        go_wp2_with fail
        refine HV.out.mono ?_
        rintro e w1 ⟨rfl, hw1⟩
        rw [hw1]
        clear hw1 w1
        go_wp2_with fail
        refine HS.out.mono ?_
        rintro e w1 ⟨rfl, hb1⟩
        go_wp2_with fail
        go_ret3
        exact ⟨_, _, _, rfl, Own.nil, hb1⟩
      · have q2 : decide (c < 0) = false := by simpa using hc0
        have q3 : (L : Int) - c < o := by omega
        clear hx ho0 hc0
        go_enter Try.func57, Try.ntmps57
        go_wp2_with fail
        refine HV.out.mono ?_
        rintro e w1 ⟨rfl, hw1⟩
        rw [hw1]
        clear hw1 w1
        go_wp2_with fail
        refine HS.out.mono ?_
        rintro e w1 ⟨rfl, hb1⟩
        go_wp2_with fail
        go_ret3
        exact ⟨_, _, _, rfl, Own.nil, hb1⟩
theorem read_ok (h : RA B W w g rv S) (ok : S.Ok) (v i k o c : Nat) (h0 : o = 0 ∨ S.valid v = true) (hp : plc S.recs i = some k) (r : Rk) (hr : S.recs[k]? = some r) (hx : o + c ≤ r.b.length) :
    Calls Try.prog 57 #[.pointer (some ⟨g, 0, none⟩), .int .u16 (v : Int), .int .u16 (i : Int), .int .i64 (o : Int), .int .i64 (c : Int)] w (Gives w ((r.b.drop o).take c, nid S.recs k, 0)) := by
  have HV := Lib.hid (valid_p h v)
  have HS := stored_yes h ok i k hp r hr
  have hm := List.mem_of_getElem? hr
  have hl := ok.one r hm
  have hcap := (sl_own (h.rows r hm) rfl).cap
  have hcm : r.cap ≤ 2 ^ 63 - 1 := (sl_own (h.rows r hm) rfl).max
  have HC := Lib.hid fun u (hu : Below w.heap.size w u) A q d (hA : A = if r.cap = o then some ⟨r.blk, 0, none⟩ else (some ⟨r.blk, 0, none⟩ : Option Addr).map (·.add o)) (hq : q = ((r.b.drop o).take c).length) => bclone_p A q d ((r.b.drop o).take c) u hq (by
    rw [hA]; exact row_take (row_cut (sl_own ((h.step hu).rows r hm) rfl).row (by omega) (sl_own ((h.step hu).rows r hm) rfl).cap) c) (by rw [hq, List.length_take, List.length_drop]; omega) (by rw [hq, List.length_take, List.length_drop]; omega)
  have HLN : Hid (((r.b.drop o).take c).length = c) := Lib.hid (by rw [List.length_take, List.length_drop]; omega)
  generalize (r.b.drop o).take c = R at *
  obtain ⟨L, hL⟩ : ∃ L, L = r.b.length := ⟨_, rfl⟩
  rw [← hL] at HS hl hx hcap
  have HS := Lib.hid HS
  clear h hp ok hr hL
  have hl2 := hl.2
  obtain ⟨rid, rblk, rcap, rb⟩ := r
  dsimp only at *
  by_cases hq : o = 0
  · have q0 : ((o : Int) != 0) = false := by simpa using hq
    clear h0 hq
    go_enter Try.func57, Try.ntmps57
    go_wp2_with fail
    refine HS.out.mono ?_
    rintro e w1 ⟨rfl, hb1⟩
    go_wp2_with fail
    all_goals
      refine (HC.out _ hb1 _ _ _ (by first | (rw [if_pos (by first | rfl | assumption)]) | (rw [if_neg (by first | assumption | omega)]; simp [add_spot])) HLN.out.symm).mono ?_
      rintro e w2 ⟨v2, rfl, ho2, hb2⟩
      obtain ⟨A2, n2, c2, rfl, -⟩ := Sl.of_own ho2
      go_wp2_with fail
      go_ret3
      exact ⟨_, _, _, rfl, ho2.base_ hb1.size, hb1.trans (hb2.mono hb1.size)⟩
  · have q0 : ((o : Int) != 0) = true := by simpa using hq
    rw [h0.resolve_left hq] at HV
    clear h0 hq
    go_enter Try.func57, Try.ntmps57
    go_wp2_with fail
    refine HV.out.mono ?_
    rintro e w1 ⟨rfl, hw1⟩
    rw [hw1]
    clear hw1 w1
    go_wp2_with fail
    refine HS.out.mono ?_
    rintro e w1 ⟨rfl, hb1⟩
    go_wp2_with fail
    all_goals
      refine (HC.out _ hb1 _ _ _ (by first | (rw [if_pos (by first | rfl | assumption)]) | (rw [if_neg (by first | assumption | omega)]; simp [add_spot])) HLN.out.symm).mono ?_
      rintro e w2 ⟨v2, rfl, ho2, hb2⟩
      obtain ⟨A2, n2, c2, rfl, -⟩ := Sl.of_own ho2
      go_wp2_with fail
      go_ret3
      exact ⟨_, _, _, rfl, ho2.base_ hb1.size, hb1.trans (hb2.mono hb1.size)⟩
end
end Go.Proofs.Ytcnkiecdagjgmaa.R11
