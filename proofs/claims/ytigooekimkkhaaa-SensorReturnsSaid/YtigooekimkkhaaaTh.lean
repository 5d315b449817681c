/- Walks: the program's sensor records: flags, numbers, what analog records have. -/
import Derived.Test.YtigooekimkkhaaaTg
import Derived.Test.YtigooekimkkhaaaP5b
import Derived.Lib.AppendStr
namespace Go.Proofs.Ytigooekimkkhaaa.Tb
open Go.RowKit Go.Proofs.Ytigooekimkkhaaa.Mem Go.Proofs.Ytigooekimkkhaaa.F2p Go.Proofs.Ytigooekimkkhaaa.C4l Go.Proofs.Ytigooekimkkhaaa.Ta
set_option maxRecDepth 100000
set_option maxHeartbeats 1000000

theorem own_block {base g : Nat} {w : World} {cs : Array Value} {l : List UInt8} (h : w.heap[g]? = some (.cells cs 5 (0, 0))) (hc : cs.toList = bvs l) (hb : base ≤ g) (hl : l.length ≤ maxLen) :
    Mem.Own base w (.slice (some ⟨g, 0, none⟩) l.length l.length) l := by
  have hs : cs.size = l.length := by rw [← Array.length_toList, hc, len_bvs]
  exact ⟨by rw [len_bvs, Nat.mul_one], .inr ⟨g, l.length, cs, rfl, hb, h, Nat.le_refl _, hl, by rw [hs, Nat.mul_one], by rw [hc, Nat.mul_one, ← len_bvs, List.take_length]⟩⟩
theorem appnum_p (base : Nat) (u : Value) (l : List UInt8) (v : Nat) (w : World) (hown : Mem.Own base w u l) (hb : base ≤ w.heap.size) (hl : l.length ≤ 1000) :
    Calls Try.prog 44 #[u, .int .u16 (v : Int)] w fun e w' => ∃ u', e = .returned u' ∧ Mem.Own base w' u' (l ++ lit v 2) ∧ Below base w w' := by
  obtain ⟨i0, hi, hz0, hz1, hz2⟩ := info_parts info5
  go_enter Try.func44, Try.ntmps44
  go_wp2_with (at_builtin; go_loud (refine wpList_append_rd _ rfl (.tmp 5) (.tmp 11) _ rfl base 5 i0 _ 1 Try.underlying43 hi hz0 hz1 hz2 rfl u l.length (bvs l) rfl (World.ownsRow.alloc hown _) _ _ 2 2 [.int .u8 ((v : Int) % 256), .int .u8 ((v : Int) / 256 % 256)] rfl rfl (Rd.new w _ _) (fun hh => by cases hh) (by intro u hu; simp only [List.mem_cons, List.not_mem_nil, or_false] at hu; rcases hu with rfl | rfl <;> rfl) (by unfold maxLen; omega) (by omega) (by simp; omega) ?_); intro v' w1 hown1 hg1)
  have hbel1 : Below base w w1 := below_grown ((Below.refl _ _).alloc hb _) (World.ownsRow.alloc hown _) hg1 (by simp; omega)
  go_ret
  refine ⟨_, rfl, own_of hown1 (by simp [F2p.lit]) ?_, hbel1⟩
  rw [bvs_app]
  congr 1
  show _ = [bv (UInt8.ofNat (v % 256)), bv (UInt8.ofNat (v / 256 % 256))]
  rw [← bv_nat (Nat.mod_lt _ (by decide)), ← bv_nat (Nat.mod_lt _ (by decide))]
  rfl
theorem flags_p (s : Sn) (V : Value) (w : World) (hw : wid s.sm = true) : Calls Try.prog 43 #[.agg (cells s V)] w fun e w' => e = .returned (.int .u8 ((flg s.d s.on s.sm : Nat) : Int)) ∧ Below w.heap.size w w' := by
  unfold cells
  obtain ⟨nu, ty, un, nm, ei, en, d, ⟨f, sg, m, b, k1, k2, p⟩, mx, r0, r1, r2, r3, r4, r5, hl, hu, st, av, dv, on, sm⟩ := s
  dsimp only at hw ⊢
  have hb : ∀ o, Below w.heap.size w (w.alloc o) := fun o => (Below.refl _ _).alloc (Nat.le_refl _) o
  have HB := Lib.hid hb
  unfold wid at hw
  rw [decide_eq_true_eq] at hw
  clear hb
  have o1 : ∀ x : Fin 3, bits .or .u8 ((4 * (2 * x.val + 1) : Nat) : Int) 1 = ((4 * (2 * x.val + 1) + 1 : Nat) : Int) := by decide +kernel
  rcases hw with rfl | rfl | rfl <;> cases d <;> cases on
  all_goals
    have O1 := Lib.hid o1
    clear o1
    go_enter Try.func43, Try.ntmps43
    go_wp2_with fail
    go_ret
    exact ⟨rfl, HB.out _⟩
end Go.Proofs.Ytigooekimkkhaaa.Tb
