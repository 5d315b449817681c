/- Walks: a flash device of the program: its numbers, a step, setting bits, programming. -/
import Derived.Test.YtekhpcfggbegaaaE5m
import Derived.StillTailTactics
namespace Go.Proofs.Ytekhpcfggbegaaa.E5a
open Go.RowKit Go.Proofs.Ytekhpcfggbegaaa.Mem Go.Proofs.Ytekhpcfggbegaaa.E5p Go.Proofs.Ytekhpcfggbegaaa.E5m
set_option maxRecDepth 100000
set_option maxHeartbeats 400000

abbrev PDev := Dev 154
section
variable {base : Nat} {w : World} {d : Sh} {s : Fl}
/-- What a step leaves. -/
def Stepped (T : TypeId) (base : Nat) (w : World) (d : Sh) (s : Fl) (e : Ending) (w' : World) : Prop := e = .returned (.bool s.last) ∧ Dev T base w' d s.step ∧ Kept d w w'

theorem fails_p (h : PDev base w d s) (hu : s.down = false) (hl : s.left ≤ 4611686018427387904) (hs : s.steps ≤ 1000000) :
    Calls Try.prog 175 #[.pointer (some ⟨d.g, 0, none⟩)] w (Stepped 154 base w d s) := by
  obtain ⟨size, bytes, wear, steps, left, torn, down⟩ := s
  dsimp only at hu hl hs
  subst hu
  have c3 := h.c3; have c4 := h.c4; have c6 := h.c6
  dsimp only at c3 c4 c6
  have hf := h.fz
  have f3 := hf 3; have f4 := hf 4; have f6 := hf 6
  clear hf
  rcases left with _ | left
  · go_enter Try.func175, Try.ntmps175
    go_wp2_with fail
    go_ret
    exact ⟨rfl, h.put3 (steps + 1), Kept.put d w 3 _⟩
  · rcases left with _ | left
    · go_enter Try.func175, Try.ntmps175
      go_wp2_with fail
      go_ret
      exact ⟨rfl, ((h.put3 (steps + 1)).put4 0).put6 true, ((Kept.put d w 3 _).trans (Kept.put d _ 4 _)).trans (Kept.put d _ 6 _)⟩
    · have hne : (((left : Int)) + 1 == 0) = false := by simp; omega
      have hla : (⟨size, bytes, wear, steps, left + 1 + 1, torn, false⟩ : Fl).last = false := by simp [Fl.last]
      have hst : (⟨size, bytes, wear, steps, left + 1 + 1, torn, false⟩ : Fl).step = ⟨size, bytes, wear, steps + 1, left + 1, torn, false⟩ := by simp [Fl.step, hla]
      have HE := Lib.hid hst; have HL := Lib.hid hla; clear hst hla
      go_enter Try.func175, Try.ntmps175
      go_wp2_with fail
      go_ret
      unfold Stepped
      rw [HE.out, HL.out]
      exact ⟨rfl, ((h.put3 (steps + 1)).put4 (left + 1)).put6 false, ((Kept.put d w 3 _).trans (Kept.put d _ 4 _)).trans (Kept.put d _ 6 _)⟩
/-- All n bytes are there. -/
theorem holds_p (h : PDev base w d s) (k n : Int) (hk1 : -9223372036854775808 ≤ k) (hk2 : k ≤ 9223372036854775807) (hn1 : -9223372036854775808 ≤ n) (hn2 : n ≤ 9223372036854775807) (hl : s.bytes.length ≤ 1000000) :
    Calls Try.prog 139 #[.pointer (some ⟨d.g, 0, none⟩), .int .i64 k, .int .i64 n] w fun e w' => e = .returned (.bool (s.fits k n)) ∧ ∃ q, w' = w.drewN q := by
  obtain ⟨R, hR⟩ : ∃ R, R = s.fits k n := ⟨_, rfl⟩
  rw [← hR]
  have HR := Lib.hid hR; clear hR
  have c1 := h.c1
  by_cases h1 : 0 ≤ k
  · have g1 : decide (0 ≤ k) = true := by simpa using h1
    by_cases h2 : 0 ≤ n
    · have g2 : decide (0 ≤ n) = true := by simpa using h2
      go_enter Try.func139, Try.ntmps139
      go_wp2_with fail
      go_ret
      refine ⟨ret_bool ?_, 0, rfl⟩
      rw [HR.out]
      unfold Fl.fits
      by_cases h3 : n ≤ (s.bytes.length : Int) - k
      · have h4 : k ≤ (s.bytes.length : Int) := by omega
        simp [h1, h2, h3, h4]
      · simp [h3]
    · have g2 : decide (0 ≤ n) = false := by simpa using h2
      go_enter Try.func139, Try.ntmps139
      go_wp2_with fail
      go_ret
      refine ⟨ret_bool ?_, 0, rfl⟩
      rw [HR.out]
      simp [Fl.fits, g2]
  · have g1 : decide (0 ≤ k) = false := by simpa using h1
    go_enter Try.func139, Try.ntmps139
    go_wp2_with fail
    go_ret
    refine ⟨ret_bool ?_, 0, rfl⟩
    rw [HR.out]
    simp [Fl.fits, g1]
theorem bv_and (x y : UInt8) : Value.int .u8 (bits .and .u8 (x.toNat : Int) (y.toNat : Int)) = bv (x &&& y) := by
  rw [u8_and_nat _ _ x.toNat_lt y.toNat_lt]
  unfold bv
  rw [UInt8.toNat_and]
theorem bv_or (x y : UInt8) : Value.int .u8 (bits .or .u8 (x.toNat : Int) (y.toNat : Int)) = bv (x ||| y) := by
  rw [u8_or_nat _ _ x.toNat_lt y.toNat_lt]
  unfold bv
  rw [UInt8.toNat_or]
theorem or_int (x y : UInt8) : bits .or .u8 (x.toNat : Int) (y.toNat : Int) = ((x ||| y).toNat : Int) := by
  rw [u8_or_nat _ _ x.toNat_lt y.toNat_lt, UInt8.toNat_or]
/-- Bits are set in n bytes. -/
theorem set_p (g k n c cap base : Nat) (m : UInt8) (l : List UInt8) (w : World) (ho : Own base w (.slice (some ⟨g, 0, none⟩) l.length cap) l) (hk : k + n ≤ l.length) (hl : l.length ≤ 1000000) :
    Calls Try.prog 107 #[.slice (some ⟨g, k, none⟩) n c, .int .u8 (m.toNat : Int)] w fun e w' => e = .returned (.tuple #[]) ∧ Own base w' (.slice (some ⟨g, 0, none⟩) l.length cap) (orAt l k n m) ∧ w.grownBy w' (some g) := by
  go_enter Try.func107, Try.ntmps107
  go_wp2_with fail
  go_loopw [4, 7] (fun _ i wr => ∃ j : Nat, j ≤ n ∧ i = .int .i64 j ∧ Own base wr (.slice (some ⟨g, 0, none⟩) l.length cap) (orAt l k j m) ∧ w.grownBy wr (some g)) (fun _ i _ => n - (intOf i).toNat)
  case atStart => exact ⟨0, Nat.zero_le _, rfl, by rw [orAt_none]; exact ho, World.grownBy.refl _ _⟩
  case round =>
    obtain ⟨j, hj, rfl, hown, hgr⟩ := hrel
    by_cases hlt : j < n
    · have hi : k + j < (orAt l k j m).length := by simp; omega
      have hcell := own_cell hown (by simp) hi
      have hfz := own_frozen hown (by simp) (k + j)
      have hadd := add_add ⟨g, 0, none⟩ k j
      have hst := own_store hown (by simp) (k + j) ((orAt l k j m)[k + j] ||| m)
      rw [orAt_here l k j m (by omega) hi, orAt_snoc l k j m (by omega)] at hst
      rw [orAt_here l k j m (by omega) hi] at hcell
      have b1 : (0 : Int) ≤ (j : Int) := by omega
      have b2 : (j : Int) < (n : Int) := by omega
      have HS := Lib.hid hst; clear hst hadd hi
      go_wp2_with fail
      rw [bv_or]
      exact ⟨⟨j + 1, by omega, by go_num, HS.out.1, grown_trans hgr HS.out.2⟩, by simp [intOf]; omega⟩
    · go_wp2_with fail
      go_end0
      obtain rfl : j = n := by omega
      exact ⟨rfl, hown, hgr⟩
/-- What a call on the device leaves: an error, the device. -/
def Erred (T : TypeId) (base : Nat) (w : World) (d : Sh) (r : Fl × Int) (e : Ending) (w' : World) : Prop := e = .returned (.int .i64 r.2) ∧ Dev T base w' d r.1 ∧ Kept d w w'
theorem program_p (h : PDev base w d s) {m : Nat} (ok : s.Ok m) (hm : m ≤ 900000) (A : Option Addr) (n c : Nat) (b : List UInt8) (hb : Sl w A n c b) (hB : Off d A b) (k : Int) (hk1 : -9223372036854775808 ≤ k) (hk2 : k ≤ 9223372036854775807) (hn : n ≤ 100000) :
    Calls Try.prog 149 #[.pointer (some ⟨d.g, 0, none⟩), .int .i64 k, .slice A n c] w (Erred 154 base w d (s.program k b)) := by
  have c6 := h.c6
  by_cases hd : s.down = true
  · rw [hd] at c6
    have hR : s.program k b = (s, 10) := by simp [Fl.program, hd]
    rw [hR]
    go_enter Try.func149, Try.ntmps149
    go_wp2_with fail
    go_ret
    exact ⟨rfl, h, Kept.refl _ _⟩
  · replace hd : s.down = false := by simpa using hd
    rw [hd] at c6
    have HN := Lib.hid hb.len
    have hlen := ok.bytes_le
    have HH := Lib.hid (holds_p h k (n : Int) hk1 hk2 (by omega) (by omega) (by omega))
    cases hf : s.fits k n
    · rw [hf] at HH
      have hR : s.program k b = (s, 2) := by have := HN.out; subst this; simp [Fl.program, hd, hf]
      rw [hR]
      clear hf hR
      go_enter Try.func149, Try.ntmps149
      go_wp2_with fail
      refine HH.out.mono ?_
      rintro e w1 ⟨rfl, q, rfl⟩
      go_wp2_with fail
      go_ret
      exact ⟨rfl, h.drewN q, (Kept.refl _ _).drewN q⟩
    · rw [hf] at HH
      obtain ⟨K, N, rfl, hN, hKN⟩ := Fl.fits_nat hf
      have hnN : N = n := by omega
      subst hnN
      have hnb : K + b.length ≤ s.bytes.length := by have := HN.out; omega
      have hR : s.program (K : Int) b = (s.prog K b, if s.holds b.length then 0 else 10) := by have := HN.out; subst this; simp [Fl.program, hd, hf]
      obtain ⟨R, hR'⟩ : ∃ R, R = s.program (K : Int) b := ⟨_, rfl⟩
      rw [← hR']
      have HR := Lib.hid (hR'.trans hR)
      have hsd := Lib.hid hd
      clear hf hR hN hd hR'
      go_enter Try.func149, Try.ntmps149
      go_wp2_with fail
      refine HH.out.mono ?_
      rintro e w1 ⟨rfl, q, rfl⟩
      clear c6 HH
      go_wp2_with fail
      go_loopw [7, 8, 21] (fun _ _ i wr => ∃ j : Nat, j ≤ N ∧ i = .int .i64 j ∧ PDev base wr d (s.mid K b j) ∧ Kept d w wr ∧ (s.left = 0 ∨ j < s.left)) (fun _ _ i _ => N - (intOf i).toNat)
      case atStart => exact ⟨0, Nat.zero_le _, rfl, by rw [Fl.mid_zero]; exact h.drewN q, (Kept.refl _ _).drewN q, by omega⟩
      case round =>
        obtain ⟨j, hj, rfl, hdev, hk, hlf⟩ := hrel
        by_cases hlt : j < N
        · have hjb : j < b.length := by have := HN.out; omega
          have hrow := hk.row hb.row hB (Nat.le_refl _)
          obtain ⟨a, rfl, ha, hcell⟩ := row_at hrow hjb
          have hokj := Fl.mid_ok ok K b j
          have hF := fails_p hdev hsd.out hokj.left (by have := hokj.steps; omega)
          have HF := Lib.hid hF; clear hF
          have b1 : (0 : Int) ≤ (j : Int) := by omega
          have b2 : (j : Int) < (N : Int) := by omega
          go_wp2_with fail
          refine HF.out.mono ?_
          rintro e w2 ⟨rfl, hdev2, hk2⟩
          clear hcell
          have hi : K + j < (andAt s.bytes K (b.take j)).length := by simp; omega
          have hi2 : K + j < s.bytes.length := by omega
          have hc1 := hdev2.c1
          have hc5 := hdev2.c5
          have hbytes := hdev2.bytes
          rw [Fl.mid_bytes] at hc1 hbytes
          rw [Fl.mid_torn] at hc5
          rw [andAt_len] at hc1 hbytes
          have hcell := own_cell hbytes (by simp) hi
          rw [Fl.mid_here s.bytes K b j hjb hi2 hi] at hcell
          have hfz := own_frozen hbytes (by simp) (K + j)
          have b3 : (0 : Int) ≤ (K : Int) + (j : Int) := by omega
          have b4 : (K : Int) + (j : Int) < (s.bytes.length : Int) := by omega
          have hlb := hdev2.lb
          clear hrow
          by_cases hle : s.left = j + 1
          · rw [Fl.mid_last hle]
            go_wp2_with fail
            have hwr : IntKind.i64.wrap ((K : Int) + (j : Int)) = (K : Int) + (j : Int) := IntWalk.i64_in _ ⟨by omega, by omega⟩
            have htn : ((K : Int) + (j : Int)).toNat = K + j := by omega
            go_region
            all_goals (go_wp2_with fail)
            all_goals (go_ret)
            all_goals
              rw [HR.out, or_int, bv_and]
              have hst := own_store hbytes (by simp) (K + j) (s.bytes[K + j] &&& (b[j] ||| s.torn))
              obtain ⟨q1, q2⟩ := Fl.mid_end hjb hnb hle
              have hD := hdev2.bytes_ (l := (andAt s.bytes K (b.take j)).set (K + j) (s.bytes[K + j] &&& (b[j] ||| s.torn))) (by rw [Fl.mid_bytes]; simp) (by simpa using hst.1) hst.2
              rw [q1] at hD
              rw [q2]
              exact ⟨rfl, hD.drewN 1, ((hk.trans hk2).trans (Kept.grown hst.2 (.inr (.inl rfl)))).drewN 1⟩
          · rw [Fl.mid_not hle]
            have hst := own_store hbytes (by simp) (K + j) (s.bytes[K + j] &&& b[j])
            go_wp2_with fail
            rw [bv_and]
            have hD := hdev2.bytes_ (l := (andAt s.bytes K (b.take j)).set (K + j) (s.bytes[K + j] &&& b[j])) (by rw [Fl.mid_bytes]; simp) (by simpa using hst.1) hst.2
            rw [Fl.mid_on hjb hnb hsd.out hle] at hD
            exact ⟨⟨j + 1, by omega, by go_num, hD, (hk.trans hk2).trans (Kept.grown hst.2 (.inr (.inl rfl))), by omega⟩, by simp [intOf]; omega⟩
        · obtain rfl : j = N := by omega
          obtain ⟨e1, e2⟩ := Fl.mid_all (k := K) hlf HN.out
          rw [e1] at hdev
          go_wp2_with fail
          go_ret
          rw [HR.out, e2]
          exact ⟨rfl, hdev, hk⟩
end
end Go.Proofs.Ytekhpcfggbegaaa.E5a
