/- Walks: the reference's decoding of fields: the cases without a loop, and the plain kinds. -/
import Derived.Test.YtkhdldemhaifpaaF2s
namespace Go.Proofs.Ytkhdldemhaifpaa.F2d
open Go.RowKit Go.Proofs.Ytkhdldemhaifpaa.Mem Go.Proofs.Ytkhdldemhaifpaa.F2p Go.Proofs.Ytkhdldemhaifpaa.F2r Go.Proofs.Ytkhdldemhaifpaa.F2s
set_option maxRecDepth 100000
set_option maxHeartbeats 1000000

/-- What Decode returns: kind, value, length, end, error. -/
def out (k : Int) (v : List UInt8) (n : Int) (e : Bool) (c : Int) : Ending := .returned (.tuple #[.agg #[.int .i64 k, .string ⟨v.toArray⟩], .int .i64 n, .bool e, .int .i64 c])

theorem dec_empty (A : Option Addr) (c : Nat) (w : World) :
    Calls Try.prog 23 #[.slice A 0 c] w fun e w' => e = out 0 [] 0 false 4 ∧ Below w.heap.size w w' := by
  go_enter Try.func23, Try.ntmps23
  go_wp2
  exact bodyPost_ret (v := .tuple #[.agg #[.int .i64 0, .string ⟨#[]⟩], .int .i64 0, .bool false, .int .i64 4]) (by simp [results, Try.results23, go_sem]) rfl ⟨rfl, (Below.refl _ _).alloc (Nat.le_refl _) _⟩
theorem dec_end (A : Option Addr) (n c : Nat) (l : List UInt8) (w : World) (h : Sl w A n c l) (h0 : 0 < n) (he : l[0]?.getD 0 = 193) :
    Calls Try.prog 23 #[.slice A n c] w fun e w' => e = out 0 [] 1 true 0 ∧ Below w.heap.size w w' := by
  have hl : 0 < l.length := by rw [← h.len]; exact h0
  obtain ⟨a, rfl, hab, hc⟩ := row_at h.row (k := 0) hl
  rw [List.getElem?_eq_getElem hl, Option.getD_some] at he
  rw [he] at hc
  have hc0 : w.cell? a = some (.int .u8 193) := by simpa [Addr.add] using hc
  have hn0 : ((n : Int) == 0) = false := by rw [beq_eq_false_iff_ne]; omega
  have hn1 : n ≤ 9223372036854775807 := by have := lite h; unfold maxLen at this; omega
  clear he hc
  go_enter Try.func23, Try.ntmps23
  go_wp2
  exact bodyPost_ret (v := .tuple #[.agg #[.int .i64 0, .string ⟨#[]⟩], .int .i64 1, .bool true, .int .i64 0]) (by simp [results, Try.results23, go_sem]) rfl ⟨rfl, (Below.refl _ _).alloc (Nat.le_refl _) _⟩
/-- The first byte, laid for the walk. -/
theorem head_cell {A : Option Addr} {n c : Nat} {l : List UInt8} {w : World} (h : Sl w A n c l) (h0 : 0 < n) : ∃ a, A = some a ∧ a.block < w.heap.size ∧ w.cell? a = some (.int .u8 ((l[0]?.getD 0).toNat : Int)) := by
  have hl : 0 < l.length := by rw [← h.len]; exact h0
  obtain ⟨a, rfl, hab, hc⟩ := row_at h.row (k := 0) hl
  exact ⟨a, rfl, hab, by rw [List.getElem?_eq_getElem hl]; simpa [Addr.add] using hc⟩
theorem dec_short (A : Option Addr) (n c : Nat) (l : List UInt8) (w : World) (h : Sl w A n c l) (h0 : 0 < n) (he : (l[0]?.getD 0).toNat ≠ 193) (hs : n < 1 + (l[0]?.getD 0).toNat % 64) (hn : n ≤ 100000) :
    Calls Try.prog 23 #[.slice A n c] w fun e w' => e = out 0 [] 0 false 4 ∧ Below w.heap.size w w' := by
  obtain ⟨a, rfl, hab, hc0⟩ := head_cell h h0
  have hx := (l[0]?.getD 0).toNat_lt
  have hn0 : ((n : Int) == 0) = false := by rw [beq_eq_false_iff_ne]; omega
  have hn1 : ((((l[0]?.getD 0).toNat : Nat) : Int) == 193) = false := by rw [beq_eq_false_iff_ne]; omega
  generalize (l[0]?.getD 0).toNat = x at *
  clear he
  have hs2 : decide ((n : Int) < 1 + (x : Int) % 64) = true := decide_eq_true (by omega)
  go_enter Try.func23, Try.ntmps23
  go_wp2
  exact bodyPost_ret (v := .tuple #[.agg #[.int .i64 0, .string ⟨#[]⟩], .int .i64 0, .bool false, .int .i64 4]) (by simp [results, Try.results23, go_sem]) rfl ⟨rfl, (Below.refl _ _).alloc (Nat.le_refl _) _⟩
theorem pair_cells {w : World} {g : Nat} {u v : Value} {t : TypeId} (h : w.heap[g]? = some (.cells #[u, v] t (0, 0))) :
    w.cell? ⟨g, 0, none⟩ = some u ∧ w.cell? ⟨g, 1, none⟩ = some v ∧ ∀ i, w.frozen? ⟨g, i, none⟩ = false :=
  ⟨by rw [cell_of_row w g 0 _ _ _ h]; rfl, by rw [cell_of_row w g 1 _ _ _ h]; rfl, fun i => by simp [World.frozen?, h]⟩
theorem own_string {base : Nat} {w : World} {v : Value} {l : List UInt8} (h : Own base w v l) : (convert 31 9 v).run Try.prog w = .ok (.string ⟨l.toArray⟩) w := by
  obtain ⟨A, c, rfl, -, -, hr, -⟩ := h.form
  rcases A with _ | a
  · obtain rfl := hr.empty
    exact run_convert_bytes_nil w _ _ Try.underlying31 Try.underlying5 _ _ _ Try.underlying9
  · refine run_convert_bytes_back w _ _ _ a c l Try.underlying31 Try.underlying5 Try.underlying9 fun j hj => ?_
    obtain ⟨a', e, -, hc⟩ := row_at hr hj
    injection e with e
    subst e
    exact hc
theorem dec_plain (A : Option Addr) (n c : Nat) (l : List UInt8) (w : World) (h : Sl w A n c l) (h0 : 0 < n) (he : (l[0]?.getD 0).toNat ≠ 193) (hs : 1 + (l[0]?.getD 0).toNat % 64 ≤ n)
    (hk : (l[0]?.getD 0).toNat / 64 ≠ 1) (hk2 : (l[0]?.getD 0).toNat / 64 ≠ 2) (hn : n ≤ 100000) :
    Calls Try.prog 23 #[.slice A n c] w fun e w' => e = out ((l[0]?.getD 0).toNat / 64 : Nat) ((l.drop 1).take ((l[0]?.getD 0).toNat % 64)) (1 + (l[0]?.getD 0).toNat % 64 : Nat) false 0 ∧ Below w.heap.size w w' := by
  obtain ⟨a, rfl, hab, hc0⟩ := head_cell h h0
  obtain ⟨i0, hi, hz0, hz1, hz2⟩ := info_parts info5
  have hx := (l[0]?.getD 0).toNat_lt
  have hn0 : ((n : Int) == 0) = false := by rw [beq_eq_false_iff_ne]; omega
  have hn1 : ((((l[0]?.getD 0).toNat : Nat) : Int) == 193) = false := by rw [beq_eq_false_iff_ne]; omega
  have t1 : ((((l[0]?.getD 0).toNat : Nat) : Int) / 64 == 1) = false := by rw [beq_eq_false_iff_ne]; omega
  have t2 : ((((l[0]?.getD 0).toNat : Nat) : Int) / 64 == 2) = false := by rw [beq_eq_false_iff_ne]; omega
  generalize (l[0]?.getD 0).toNat = x at *
  clear he hk hk2
  have hrow := h.row
  have HL := Lib.hid h.len
  go_enter Try.func23, Try.ntmps23
  go_wp2_with fail
  have hbx : Below w.heap.size w (w.alloc (.cells #[.int .i64 0, .string ⟨#[]⟩] 23)) := (Below.refl _ _).alloc (Nat.le_refl _) _
  have hsz : (w.alloc (.cells #[.int .i64 0, .string ⟨#[]⟩] 23)).heap.size = w.heap.size + 1 := by simp
  have hst : (w.alloc (.cells #[.int .i64 0, .string ⟨#[]⟩] 23)).heap[w.heap.size]? = some (.cells #[.int .i64 0, .string ⟨#[]⟩] 23 (0, 0)) := heap_alloc_new w _
  generalize w.alloc (.cells #[.int .i64 0, .string ⟨#[]⟩] 23) = w1 at *
  have hrow1 := Rd.below hrow hbx
  go_loopw [8, 16] (fun v i wr => ∃ j : Nat, j ≤ x % 64 ∧ i = .int .i64 j ∧ Own (w.heap.size + 1) wr v ((l.drop 1).take j) ∧ Below (w.heap.size + 1) w1 wr) (fun _ i _ => x % 64 - (intOf i).toNat)
  case atStart => exact ⟨0, Nat.zero_le _, rfl, Own.nil, Below.refl _ _⟩
  case round =>
    obtain ⟨j, hj, rfl, hown, hbel⟩ := hrel
    by_cases hlt : j < x % 64
    · have hjl : 1 + j < l.length := by rw [← HL.out]; omega
      have hjd : j < (l.drop 1).length := by rw [List.length_drop]; omega
      have hz := hbel.size
      rw [hsz] at hz
      have hlen : ((l.drop 1).take j).length = j := by rw [List.length_take]; omega
      obtain ⟨a', ea, hab', hcell⟩ := row_at (Rd.below (Rd.more hrow1 (Nat.le_succ _)) hbel) hjl
      injection ea with ea
      subst ea
      have hx1 := (l[1 + j]).toNat_lt
      have hgd : (l.drop 1)[j] = l[1 + j] := by rw [List.getElem_drop]
      have HGD := Lib.hid hgd
      have HLEN := Lib.hid hlen
      clear hgd hlen
      go_wp2_with (at_builtin; (refine wpList_append_rd _ rfl _ _ _ rfl (w.heap.size + 1) 5 i0 _ 1 Try.underlying31 hi hz0 hz1 hz2 rfl _ ((l.drop 1).take j).length (bvs ((l.drop 1).take j)) rfl (World.ownsRow.alloc hown _) _ _ 1 1 (bvs [l[1 + j]]) rfl rfl (Rd.new wr _ _) (fun hh => by cases hh) (bvs_one _) (by rw [HLEN.out]; unfold maxLen; omega) (by rw [HLEN.out]; omega) (by simp; omega) ?_); intro v1 w2 hown1 hg1)
      have hbel1 : Below (w.heap.size + 1) w1 w2 := below_grown (hbel.alloc (by omega) _) (World.ownsRow.alloc hown _) hg1 (by simp; omega)
      exact ⟨⟨j + 1, by omega, by go_num, by rw [take_snoc hjd, HGD.out]; exact own_app hown1, hbel1⟩, by simp [intOf]; omega⟩
    · have hcv := own_string hown
      have hjx : j = x % 64 := by omega
      have HJX := Lib.hid hjx
      have hz := hbel.size
      rw [hsz] at hz
      obtain ⟨c0, c1, hf⟩ := pair_cells ((hbel.block w.heap.size (by omega)).trans hst)
      have f0 := hf 0
      have f1 := hf 1
      have c1' : ∀ v, (wr.setCell ⟨w.heap.size, 0, none⟩ v).cell? ⟨w.heap.size, 1, none⟩ = some (.string ⟨#[]⟩) := fun v => by
        rw [World.cell?_setCell_other _ _ _ _ (by simp)]; exact c1
      have d1 := c1' (.int .i64 ((x : Int) / 64))
      clear hjx hf c1' hst
      go_wp2_with fail
      (refine bodyPost_ret (v := .tuple #[.agg #[.int .i64 ((x : Int) / 64), .string ⟨(l.tail.take j).toArray⟩], .int .i64 (1 + (x : Int) % 64), .bool false, .int .i64 0]) ?_ rfl ⟨?_, ?_⟩)
      · have e0 := World.cell?_setCell_same (v := .int .i64 ((x : Int) / 64)) wr _ c0
        have e1 := World.cell?_setCell_same (v := .string ⟨(l.tail.take j).toArray⟩) _ _ d1
        simp [results, Try.results23, go_sem, e0, e1]
      · rw [show j = x % 64 from HJX.out]
        unfold out
        simp
        done
      · exact (hbx.trans ((hbel.mono (Nat.le_succ _)).setCell (p := ⟨w.heap.size, 0, none⟩) (Nat.le_refl _) _)).setCell (p := ⟨w.heap.size, 1, none⟩) (Nat.le_refl _) _
end Go.Proofs.Ytkhdldemhaifpaa.F2d
