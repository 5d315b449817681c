/- Walks: a flash device of the program: reading, copies, a new one. -/
import Derived.Test.YtekhpcfggbegaaaE5b
namespace Go.Proofs.Ytekhpcfggbegaaa.E5a
open Go.RowKit Go.Proofs.Ytekhpcfggbegaaa.Mem Go.Proofs.Ytekhpcfggbegaaa.E5p Go.Proofs.Ytekhpcfggbegaaa.E5m
set_option maxRecDepth 100000
set_option maxHeartbeats 400000
section
variable {base : Nat} {w : World} {d : Sh} {s : Fl}
/-- What reading leaves. -/
def Got (w : World) (r : List UInt8 × Int) (e : Ending) (w' : World) : Prop := ∃ v, e = .returned (.tuple #[v, .int .i64 r.2]) ∧ Own w.heap.size w' v r.1 ∧ Below w.heap.size w w'
theorem read_p (h : PDev base w d s) {m : Nat} (ok : s.Ok m) (k n : Int) (hk1 : -9223372036854775808 ≤ k) (hk2 : k ≤ 9223372036854775807) (hn1 : -9223372036854775808 ≤ n) (hn2 : n ≤ 9223372036854775807) :
    Calls Try.prog 110 #[.pointer (some ⟨d.g, 0, none⟩), .int .i64 k, .int .i64 n] w (Got w (s.read k n)) := by
  have c6 := h.c6
  by_cases hd : s.down = true
  · rw [hd] at c6
    have hR : s.read k n = ([], 10) := by simp [Fl.read, hd]
    rw [hR]
    go_enter Try.func110, Try.ntmps110
    go_wp2_with fail
    go_ret2
    exact ⟨_, rfl, Own.nil, Below.refl _ _⟩
  · replace hd : s.down = false := by simpa using hd
    rw [hd] at c6
    have hlen := ok.bytes_le
    have HH := Lib.hid (holds_p h k n hk1 hk2 hn1 hn2 (by omega))
    cases hf : s.fits k n
    · rw [hf] at HH
      have hR : s.read k n = ([], 2) := by simp [Fl.read, hd, hf]
      rw [hR]
      clear hf hR
      go_enter Try.func110, Try.ntmps110
      go_wp2_with fail
      refine HH.out.mono ?_
      rintro e w1 ⟨rfl, q, rfl⟩
      go_wp2_with fail
      go_ret2
      exact ⟨_, rfl, Own.nil, below_of_drawn⟩
    · rw [hf] at HH
      obtain ⟨K, N, rfl, rfl, hKN⟩ := Fl.fits_nat hf
      have hR : s.read (K : Int) (N : Int) = ((s.bytes.drop K).take N, 0) := by simp [Fl.read, hd, hf]
      obtain ⟨R, hR'⟩ : ∃ R, R = s.read (K : Int) (N : Int) := ⟨_, rfl⟩
      rw [← hR']
      have HR := Lib.hid (hR'.trans hR)
      clear hf hR hR' hd
      have c1 := h.c1
      have hcb := h.sl.cap
      have hmx := h.sl.max
      unfold maxLen at hmx
      have hrow := row_take (row_cut (cap := d.cb) h.sl.row (by omega : K ≤ s.bytes.length) hcb) N
      have hl : N = ((s.bytes.drop K).take N).length := by simp; omega
      have b0 : (0 : Int) ≤ (K : Int) := by omega
      have b1 : (K : Int) ≤ (K : Int) + (N : Int) := by omega
      have b2 : (K : Int) + (N : Int) ≤ (d.cb : Int) := by omega
      have HL := Lib.hid hl; clear hl
      by_cases hc : d.cb = K
      · obtain rfl : N = 0 := by omega
        rw [List.take_zero] at HR
        clear HL hrow
        subst hc
        go_enter Try.func110, Try.ntmps110
        go_wp2_with fail
        refine HH.out.mono ?_
        rintro e w1 ⟨rfl, q, rfl⟩
        go_wp2_with fail
        refine (clone_any (some ⟨d.gb, 0, none⟩) 0 0 [] (w.drewN q) rfl Rd.nil (by omega) (by omega)).mono ?_
        rintro e w2 ⟨v, rfl, ho, hb⟩
        go_wp2_with fail
        go_ret2
        rw [HR.out]
        exact ⟨v, rfl, ho, (below_of_drawn (k := q)).trans hb⟩
      · rw [if_neg hc, Option.map_some, add_spot] at hrow
        have hC := fun c q => clone_any _ N c ((s.bytes.drop K).take N) (w.drewN q) HL.out hrow (by omega) (by omega)
        have HC := Lib.hid hC; clear hC
        go_enter Try.func110, Try.ntmps110
        go_wp2_with fail
        refine HH.out.mono ?_
        rintro e w1 ⟨rfl, q, rfl⟩
        go_wp2_with fail
        refine (HC.out _ q).mono ?_
        rintro e w2 ⟨v, rfl, ho, hb⟩
        go_wp2_with fail
        go_ret2
        rw [HR.out]
        exact ⟨v, rfl, ho, (below_of_drawn (k := q)).trans hb⟩
theorem own_pos {base : Nat} {w : World} {v : Value} {l : List UInt8} (h : Own base w v l) (hl : 0 < l.length) : ∃ g c, v = .slice (some ⟨g, 0, none⟩) l.length c ∧ base ≤ g ∧ g < w.heap.size := by
  obtain ⟨A, c, rfl, _⟩ := h.form
  obtain ⟨g, rfl, h1, h2⟩ := own_some h hl
  exact ⟨g, c, rfl, h1, h2⟩
theorem iown_pos {base : Nat} {w : World} {v : Value} {l : List Int} (h : IOwn base w v l) (hl : 0 < l.length) : ∃ g c, v = .slice (some ⟨g, 0, none⟩) l.length c ∧ base ≤ g ∧ g < w.heap.size := by
  rcases h.2 with ⟨rfl, h0⟩ | ⟨g, cap, cur, rfl, hb, hh, _⟩
  · omega
  · exact ⟨g, cap, rfl, hb, lt_of_some hh⟩
/-- A device just made, which is as s says. -/
def Born (T : TypeId) (w : World) (s : Fl) (d : Sh) (w' : World) : Prop := Dev T w.heap.size w' d s ∧ Below w.heap.size w w'
theorem own_block {base g : Nat} {w : World} {cs : Array Value} {l : List UInt8} (h : w.heap[g]? = some (.cells cs 5 (0, 0))) (hc : cs.toList = bvs l) (hb : base ≤ g) (hl : l.length ≤ maxLen) :
    Own base w (.slice (some ⟨g, 0, none⟩) l.length l.length) l := by
  have hs : cs.size = l.length := by rw [← Array.length_toList, hc, len_bvs]
  exact ⟨by rw [len_bvs, Nat.mul_one], .inr ⟨g, l.length, cs, rfl, hb, h, Nat.le_refl _, hl, by rw [hs, Nat.mul_one], by rw [hc, Nat.mul_one, ← len_bvs, List.take_length]⟩⟩
theorem iown_block {base g : Nat} {w : World} {cs : Array Value} {l : List Int} (h : w.heap[g]? = some (.cells cs 3 (0, 0))) (hc : cs.toList = ivs l) (hb : base ≤ g) (hl : l.length ≤ maxLen) :
    IOwn base w (.slice (some ⟨g, 0, none⟩) l.length l.length) l := by
  have hs : cs.size = l.length := by rw [← Array.length_toList, hc, len_ivs]
  exact ⟨by rw [len_ivs, Nat.mul_one], .inr ⟨g, l.length, cs, rfl, hb, h, Nat.le_refl _, hl, by rw [hs, Nat.mul_one], by rw [hc, Nat.mul_one, ← len_ivs, List.take_length]⟩⟩
theorem make_b (m : Nat) (hm : m ≤ 1000000) : ∃ M : Array Value, M.toList = bvs (List.replicate m 0) ∧ ∀ u : World,
    (Instr.makeSlice 33 (.int .i64 (m : Int)) (.int .i64 (m : Int))).run Try.prog u = .ok (.slice (some ⟨u.heap.size, 0, none⟩) m m) (u.alloc (.cells M 5)) := by
  obtain ⟨i0, hi, hz0, hz1, hz2⟩ := info_parts info5
  refine ⟨madeCells #[.int .u8 0] m, ?_, fun u => ?_⟩
  · have := toList_madeCells_one (.int .u8 0) m
    rw [this]
    simp [bvs, bv]
  · have h := run_make (P := Try.prog) u 33 5 i0 (.int .u8 0) Try.underlying33 hi hz0 .i64 .i64 (m : Int) (m : Int) (by omega) (Int.le_refl _) (by rw [hz2]; omega) (by omega)
    rw [h, hz1]
    simp [Value.cells]
theorem make_i (m : Nat) (hm : m ≤ 1000000) : ∃ M : Array Value, M.toList = ivs (List.replicate m 0) ∧ ∀ u : World,
    (Instr.makeSlice 36 (.int .i64 (m : Int)) (.int .i64 (m : Int))).run Try.prog u = .ok (.slice (some ⟨u.heap.size, 0, none⟩) m m) (u.alloc (.cells M 3)) := by
  obtain ⟨i0, hi, hz0, hz1, hz2⟩ := info_parts infoI
  refine ⟨madeCells #[.int .i64 0] m, ?_, fun u => ?_⟩
  · have := toList_madeCells_one (.int .i64 0) m
    rw [this]
    simp [ivs]
  · have h := run_make (P := Try.prog) u 36 3 i0 (.int .i64 0) Try.underlying36 hi hz0 .i64 .i64 (m : Int) (m : Int) (by omega) (Int.le_refl _) (by rw [hz2]; omega) (by omega)
    rw [h, hz1]
    simp [Value.cells]
theorem three (w : World) (X Y Z : Obj) : (((w.alloc X).alloc Y).alloc Z).drew.heap[w.heap.size]? = some X ∧ (((w.alloc X).alloc Y).alloc Z).drew.heap[w.heap.size + 1]? = some Y ∧
    (((w.alloc X).alloc Y).alloc Z).drew.heap[w.heap.size + 1 + 1]? = some Z ∧ Below w.heap.size w (((w.alloc X).alloc Y).alloc Z).drew := by
  have e1 : (w.alloc X).heap.size = w.heap.size + 1 := by simp
  have e2 : ((w.alloc X).alloc Y).heap.size = w.heap.size + 1 + 1 := by simp
  have b1 : Below (w.heap.size + 1) (w.alloc X) ((w.alloc X).alloc Y) := (Below.refl _ _).alloc (by omega) _
  have b2 : Below (w.heap.size + 1 + 1) ((w.alloc X).alloc Y) (((w.alloc X).alloc Y).alloc Z) := (Below.refl _ _).alloc (by omega) _
  refine ⟨?_, ?_, ?_, ?_⟩
  · show (((w.alloc X).alloc Y).alloc Z).heap[w.heap.size]? = some X
    rw [b2.block _ (by omega), b1.block _ (by omega)]
    exact heap_alloc_new w X
  · show (((w.alloc X).alloc Y).alloc Z).heap[w.heap.size + 1]? = some Y
    rw [b2.block _ (by omega), ← e1]
    exact heap_alloc_new _ Y
  · show (((w.alloc X).alloc Y).alloc Z).heap[w.heap.size + 1 + 1]? = some Z
    rw [← e2]
    exact heap_alloc_new _ Z
  · have := (((Below.refl w.heap.size w).alloc (Nat.le_refl _) X).trans (b1.mono (by omega))).trans (b2.mono (by omega))
    exact ⟨this.os, this.tape, this.output, this.size, this.block⟩
theorem new_set (a b N : Nat) (hN : N = a * b) (hle : N ≤ 16384) (hpos : 0 < N) (ha1 : 1 ≤ a) (ha : a ≤ 16) (M1 M2 : Array Value) (hM1 : M1.toList = bvs (List.replicate N 0)) (hM2 : M2.toList = ivs (List.replicate a 0))
    (w W : World) (g gb gw : Nat) (h1 : w.heap.size ≤ g) (h2 : w.heap.size ≤ gb) (h3 : w.heap.size ≤ gw) (n1 : g ≠ gb) (n2 : g ≠ gw) (n3 : gb ≠ gw) (hb : W.heap[gb]? = some (.cells M1 5 (0, 0))) (hw : W.heap[gw]? = some (.cells M2 3 (0, 0)))
    (hg : W.heap[g]? = some (.cells #[.int .i64 (b : Int), .slice (some ⟨gb, 0, none⟩) N N, .slice (some ⟨gw, 0, none⟩) a a, .int .i64 0, .int .i64 0, .int .u8 0, .bool false] 154 (0, 0))) (hB : Below w.heap.size w W) :
    Calls Try.prog 107 #[.slice (some ⟨gb, 0, none⟩) N N, .int .u8 255] W fun e w' => e = .returned (.tuple #[]) ∧ Born 154 w (Fl.new a b) ⟨g, gb, N, gw, a⟩ w' := by
  have ho := own_block hb hM1 h2 (by simp; unfold maxLen; omega)
  have hi := iown_block hw hM2 h3 (by simp; unfold maxLen; omega)
  unfold IOwn at hi
  rw [List.length_replicate] at ho hi
  refine (set_p gb 0 N N N w.heap.size 255 (List.replicate N 0) W (by rwa [List.length_replicate]) (by simp) (by simp; omega)).mono ?_
  rintro e w1 ⟨rfl, ho1, hg1⟩
  have hlg := lt_of_some hg
  have hlw := lt_of_some hw
  have hhd := (hg1.block g hlg (by simp; exact n1)).trans hg
  refine ⟨rfl, ⟨⟨?_, ?_, ?_, h1, n1, n2, n3⟩, hB.grown hg1 hB.size (fun k hk => by cases hk; exact h2)⟩⟩
  · rw [hhd]; simp [cellsOf, Fl.new, hN]
  · rw [orAt_all N (List.replicate N 0) (by simp)] at ho1
    simpa [Fl.new, hN] using ho1
  · have := row_stays hi (hg1.block gw hlw (by simp; exact n3.symm))
    simpa [Fl.new, IOwn] using this
theorem new_no (a b : Int) (w : World) (hn : ¬ (1 ≤ a ∧ a ≤ 16 ∧ 64 ≤ b ∧ b ≤ 1024)) :
    Calls Try.prog 78 #[.int .i64 a, .int .i64 b] w fun e w' => e = .returned (.tuple #[.pointer none, .int .i64 2]) ∧ w = w' := by
  by_cases h1 : a < 1
  · have g1 : decide (a < 1) = true := by simpa using h1
    go_enter Try.func78, Try.ntmps78
    go_wp2_with fail
    go_ret2
    exact ⟨rfl, rfl⟩
  · have g1 : decide (a < 1) = false := by simpa using h1
    by_cases h2 : 16 < a
    · have g2 : decide (16 < a) = true := by simpa using h2
      go_enter Try.func78, Try.ntmps78
      go_wp2_with fail
      go_ret2
      exact ⟨rfl, rfl⟩
    · have g2 : decide (16 < a) = false := by simpa using h2
      by_cases h3 : b < 64
      · have g3 : decide (b < 64) = true := by simpa using h3
        go_enter Try.func78, Try.ntmps78
        go_wp2_with fail
        go_ret2
        exact ⟨rfl, rfl⟩
      · have g3 : decide (b < 64) = false := by simpa using h3
        have h4 : 1024 < b := by omega
        have g4 : decide (1024 < b) = true := by simpa using h4
        clear hn
        go_enter Try.func78, Try.ntmps78
        go_wp2_with fail
        go_ret2
        exact ⟨rfl, rfl⟩
theorem new_p (a b : Nat) (h1 : 1 ≤ a) (h2 : a ≤ 16) (h3 : 64 ≤ b) (h4 : b ≤ 1024) (w : World) :
    Calls Try.prog 78 #[.int .i64 (a : Int), .int .i64 (b : Int)] w fun e w' => ∃ d, e = .returned (.tuple #[.pointer (some ⟨d.g, 0, none⟩), .int .i64 0]) ∧ Born 154 w (Fl.new a b) d w' := by
  have hle : a * b ≤ 16384 := Nat.le_trans (Nat.mul_le_mul h2 h4) (by decide)
  have hpos : 0 < a * b := Nat.mul_pos (by omega) (by omega)
  obtain ⟨N, hN⟩ : ∃ N, N = a * b := ⟨_, rfl⟩
  have hwr : IntKind.i64.wrap ((a : Int) * (b : Int)) = (N : Int) := by
    have : ((a * b : Nat) : Int) = (a : Int) * (b : Int) := by push_cast; rfl
    rw [hN, ← this]
    exact IntWalk.i64_in _ (by omega)
  rw [← hN] at hle hpos
  have HN := Lib.hid hN; clear hN
  obtain ⟨M1, hM1, hmk1⟩ := make_b N (by omega)
  obtain ⟨M2, hM2, hmk2⟩ := make_i a (by omega)
  have HM1 := Lib.hid hM1; have HM2 := Lib.hid hM2; clear hM1 hM2
  go_enter Try.func78, Try.ntmps78
  go_wp2_with fail
  go_region
  all_goals (go_wp2_with fail)
  · obtain ⟨q1, q2, q3, q4⟩ := three w (.cells M1 5) (.cells M2 3) (.cells #[.int .i64 (b : Int), .slice (some ⟨w.heap.size, 0, none⟩) N N, .slice (some ⟨w.heap.size + 1, 0, none⟩) a a, .int .i64 0, .int .i64 0, .int .u8 0, .bool false] 154)
    refine (new_set a b N HN.out hle hpos h1 h2 M1 M2 HM1.out HM2.out w _ (w.heap.size + 1 + 1) w.heap.size (w.heap.size + 1) (by omega) (by omega) (by omega) (by omega) (by omega) (by omega) q1 q2 q3 q4).mono ?_
    rintro e w1 ⟨rfl, hd⟩
    go_wp2_with fail
    go_ret2
    exact ⟨_, rfl, hd⟩
  · obtain ⟨q1, q2, q3, q4⟩ := three w (.cells M2 3) (.cells M1 5) (.cells #[.int .i64 (b : Int), .slice (some ⟨w.heap.size + 1, 0, none⟩) N N, .slice (some ⟨w.heap.size, 0, none⟩) a a, .int .i64 0, .int .i64 0, .int .u8 0, .bool false] 154)
    refine (new_set a b N HN.out hle hpos h1 h2 M1 M2 HM1.out HM2.out w _ (w.heap.size + 1 + 1) (w.heap.size + 1) w.heap.size (by omega) (by omega) (by omega) (by omega) (by omega) (by omega) q2 q1 q3 q4).mono ?_
    rintro e w1 ⟨rfl, hd⟩
    go_wp2_with fail
    go_ret2
    exact ⟨_, rfl, hd⟩
end
end Go.Proofs.Ytekhpcfggbegaaa.E5a
