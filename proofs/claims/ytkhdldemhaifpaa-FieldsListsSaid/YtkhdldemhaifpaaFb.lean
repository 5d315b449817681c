/- Walks: the program's package fields: unpacking. -/
import Derived.Test.YtkhdldemhaifpaaFa
namespace Go.Proofs.Ytkhdldemhaifpaa.Fa
open Go.RowKit Go.Proofs.Ytkhdldemhaifpaa.Mem Go.Proofs.Ytkhdldemhaifpaa.F2p
set_option maxRecDepth 100000
set_option maxHeartbeats 1000000

theorem and_u8 (x : Nat) (hx : x < 256) : bits .and .u8 (x : Int) 15 = ((x % 16 : Nat) : Int) := by
  have key : ∀ x, x < 256 → bits .and .u8 ((x : Nat) : Int) 15 = ((x % 16 : Nat) : Int) := by decide
  exact key x hx
theorem and_u64 (x : Nat) (hx : x < 18446744073709551616) : bits .and .u64 (x : Int) 63 = ((x % 64 : Nat) : Int) := by
  have e : (BitVec.ofInt 64 (x : Int)).toNat = x := by
    rw [BitVec.ofInt_natCast, BitVec.toNat_ofNat]; exact Nat.mod_eq_of_lt (by omega)
  show IntKind.u64.wrap ((BitVec.ofInt 64 (x : Int) &&& BitVec.ofInt 64 63).toNat : Int) = _
  rw [BitVec.toNat_and, e, show (BitVec.ofInt 64 63).toNat = 2 ^ 6 - 1 from rfl, Nat.and_two_pow_sub_one_eq_mod, IntKind.wrap_u64]
  omega
theorem sign_index (d : Nat) (hd : d < 13) (y : Int) (hy : y = (d : Int)) (u : World) : (Instr.index 9 (.string ⟨#[48, 49, 50, 51, 52, 53, 54, 55, 56, 57, 32, 45, 46]⟩) (.int .i64 y)).run Try.prog u = .ok (.int .u8 ((sg d).toNat : Int)) u := by
  subst hy
  have h : d = 0 ∨ d = 1 ∨ d = 2 ∨ d = 3 ∨ d = 4 ∨ d = 5 ∨ d = 6 ∨ d = 7 ∨ d = 8 ∨ d = 9 ∨ d = 10 ∨ d = 11 ∨ d = 12 := by omega
  rcases h with rfl | rfl | rfl | rfl | rfl | rfl | rfl | rfl | rfl | rfl | rfl | rfl | rfl <;> (rw [run_index_string _ _ _ _ _ Try.underlying9]; rfl)
theorem bad_all {l : List UInt8} (j : Nat) (hl : j < l.length) (hb : nyb l[j] = false) : l.all nyb = false := by
  rw [List.all_eq_false]
  exact ⟨l[j], List.getElem_mem hl, by simp [hb]⟩
theorem own_string {base : Nat} {w : World} {v : Value} {l : List UInt8} (h : Own base w v l) : (convert 31 9 v).run Try.prog w = .ok (.string ⟨l.toArray⟩) w := by
  obtain ⟨A, c, rfl, -, -, hr, -⟩ := h.form
  rcases A with _ | a
  · obtain rfl := hr.empty
    exact run_convert_bytes_nil w _ _ Try.underlying31 Try.underlying5 _ _ _ Try.underlying9
  · refine run_convert_bytes_back w _ _ _ a c l Try.underlying31 Try.underlying5 Try.underlying9 fun j hj => ?_
    obtain ⟨a', e, -, hc⟩ := row_at hr hj
    injection e with e
    subst e
    exact hc
/-- What an unpacking answers. -/
def uo (r : Option (List UInt8)) : Ending := match r with
  | some v => .returned (.tuple #[.string ⟨v.toArray⟩, .bool true])
  | none => .returned (.tuple #[.string ⟨#[]⟩, .bool false])
theorem unpackBCD_any (A : Option Addr) (n c : Nat) (l : List UInt8) (w : World) (h : Sl w A n c l) (hn : n ≤ 100000) :
    Calls Try.prog 50 #[.slice A n c] w fun e w' => e = uo (und 1 l) ∧ Below w.heap.size w w' := by
  obtain ⟨i0, hi, hz0, hz1, hz2⟩ := info_parts info5
  have hrow := h.row
  have HL := Lib.hid h.len
  have hu : und 1 l = if l.all nyb then some (unb l) else none := rfl
  generalize und 1 l = r at *
  have HU := Lib.hid hu
  clear hu h
  go_enter Try.func50, Try.ntmps50
  go_wp2_with fail
  go_loopw [4, 11] (fun v i wr => ∃ j : Nat, j ≤ n ∧ i = .int .i64 j ∧ (l.take j).all nyb = true ∧ Own w.heap.size wr v (unb (l.take j)) ∧ Below w.heap.size w wr) (fun _ i _ => n - (intOf i).toNat)
  case atStart => exact ⟨0, Nat.zero_le _, rfl, rfl, Own.nil, Below.refl _ _⟩
  case round =>
    obtain ⟨j, hj, rfl, hall, hown, hbel⟩ := hrel
    have hz := hbel.size
    have HALL := Lib.hid hall
    clear hall
    by_cases hlt : j < n
    · have hjl : j < l.length := by rw [← HL.out]; exact hlt
      obtain ⟨a, rfl, hab, hcell⟩ := row_at (Rd.below hrow hbel) hjl
      have hx := (l[j]).toNat_lt
      have HLEN := Lib.hid (show (l.take j).length = j by rw [List.length_take]; omega)
      have hand := and_u8 _ hx
      by_cases hy1 : (l[j]).toNat / 16 < 13
      · have y1 : decide (13 ≤ ((l[j]).toNat : Int) / 16) = false := decide_eq_false (by omega)
        by_cases hy2 : (l[j]).toNat % 16 < 13
        · have y2 : decide (13 ≤ (((l[j]).toNat % 16 : Nat) : Int)) = false := decide_eq_false (by omega)
          have s1 := fun u : World => sign_index ((l[j]).toNat / 16) hy1 (((l[j]).toNat : Int) / 16) (by omega) u
          have s2 := fun u : World => sign_index ((l[j]).toNat % 16) hy2 (((l[j]).toNat : Int) % 16) (by omega) u
          go_wp2_with fail
          go_region_held3 (fun w' => True) (first | go_keep | trivial)
            (first
              | (refine step_append_rd _ rfl (.tmp 27) (.tmp 32) 31 rfl w.heap.size 5 i0 (.int .u8 0) 1 Try.underlying31 hi hz0 hz1 hz2 rfl u4 _ _ rfl ((World.ownsRow.alloc hown _).drew) (wr.heap.size + 1) (some ⟨wr.heap.size, 0, none⟩) 2 2 (bvs [sg ((l[j]).toNat / 16), sg ((l[j]).toNat % 16)]) rfl rfl (Rd.drew (Rd.new wr #[bv (sg ((l[j]).toNat / 16)), bv (sg ((l[j]).toNat % 16))] 5)) (fun hh => by cases hh) (bvs_one _) (by unfold maxLen; rw [unb_len, HLEN.out]; omega) (by rw [unb_len, HLEN.out]; omega) (by simp; omega) ?_; intro v1 w2 hown2 hgr2))
          all_goals
            go_wp2_with fail
            refine ⟨⟨j + 1, by omega, by go_num, ?_, ?_, below_grown ((hbel.alloc (by omega) _).drew) ((World.ownsRow.alloc hown _).drew) hgr2 (by simp; omega)⟩, by simp [intOf]; omega⟩
            · rw [all_take_succ _ _ _ hjl, HALL.out]; simp [nyb, hy1, hy2]
            · refine own_of hown2 ?_ ?_
              · rw [unb_snoc hjl, List.length_append]; rfl
              · rw [unb_snoc hjl, bvs_app]
        · have y2 : decide (13 ≤ ((l[j]).toNat : Int) % 16) = true := decide_eq_true (by omega)
          have hno := Lib.hid (bad_all j hjl (by simp [nyb, hy2]))
          go_wp2_with fail
          go_ret2
          exact ⟨by rw [HU.out, if_neg (by rw [hno.out]; simp)]; rfl, hbel⟩
      · have y1 : decide (13 ≤ ((l[j]).toNat : Int) / 16) = true := decide_eq_true (by omega)
        have hno := Lib.hid (bad_all j hjl (by simp [nyb, hy1]))
        go_wp2_with fail
        go_ret2
        exact ⟨by rw [HU.out, if_neg (by rw [hno.out]; simp)]; rfl, hbel⟩
    · have hcv := own_string hown
      have hjx := Lib.hid (show j = n by omega)
      go_wp2_with fail
      go_ret2
      refine ⟨?_, hbel⟩
      have hh := HALL.out
      have e1 : l.take j = l := by rw [hjx.out, HL.out, List.take_length]
      rw [e1] at hh
      rw [HU.out, if_pos hh, e1]
      rfl
end Go.Proofs.Ytkhdldemhaifpaa.Fa
