/- Walks: no sector is valid; nothing is sorted; a log is opened. -/
import Derived.Test.YtekhpcfggbegaaaGn
import Derived.Laws.Closers25b
import Derived.Laws.Bits64b
namespace Go.Proofs.Ytekhpcfggbegaaa.G9
open Go.RowKit Go.Proofs.Ytekhpcfggbegaaa.Mem Go.Proofs.Ytekhpcfggbegaaa.E5p Go.Proofs.Ytekhpcfggbegaaa.E5m Go.Proofs.Ytekhpcfggbegaaa.E5a Go.Proofs.Ytekhpcfggbegaaa.E5d Go.Proofs.Ytekhpcfggbegaaa.V7 Go.Proofs.Ytekhpcfggbegaaa.V9
set_option maxRecDepth 100000
set_option maxHeartbeats 4000000

theorem len64_0 (w : World) : Calls Try.prog 128 #[.int .u64 0] w fun e w' => e = .returned (.int .i64 0) ∧ w' = w := by
  go_enter Try.func128, Try.ntmps128
  go_wp2_with fail
  go_ret
  exact ⟨ret_int (by decide +kernel), rfl⟩
theorem len_0 (w : World) : Calls Try.prog 91 #[.int .u64 0] w fun e w' => e = .returned (.int .i64 0) ∧ w' = w := by
  have HL := Lib.hid (len64_0 w)
  go_enter Try.func91, Try.ntmps91
  go_wp2_with fail
  refine HL.out.mono ?_
  rintro e w' ⟨rfl, rfl⟩
  go_wp2_with fail
  go_ret
  exact ⟨rfl, rfl⟩
theorem ins_none (f : Value) (w : World) : Calls Try.prog 184 #[.slice none 0 0, .int .i64 0, .int .i64 0, f] w fun e w' => e = .returned (.tuple #[]) ∧ w' = w := by
  go_enter Try.func184, Try.ntmps184
  go_wp2_with fail
  refine wp_loop_rounds 1 ?_
  rw [rounds_succ]
  go_wp2_with fail
  go_end0
  exact ⟨rfl, rfl⟩
theorem pdq_none (k : Int) (f : Value) (w : World) : Calls Try.prog 170 #[.slice none 0 0, .int .i64 0, .int .i64 0, .int .i64 k, f] w fun e w' => e = .returned (.tuple #[]) ∧ w' = w := by
  have HI := Lib.hid (ins_none f w)
  go_enter Try.func170, Try.ntmps170
  go_wp2_with fail
  refine wp_loop_rounds 1 ?_
  rw [rounds_succ]
  go_wp2_with fail
  refine HI.out.mono ?_
  rintro e w' ⟨rfl, rfl⟩
  go_wp2_with fail
  refine bodyPost_ret (results_none rfl _ _ _) rfl ?_
  exact ⟨rfl, rfl⟩
theorem sort_none (f : Value) (w : World) : Calls Try.prog 144 #[.slice none 0 0, f] w fun e w' => e = .returned (.tuple #[]) ∧ w' = w := by
  have HL := Lib.hid (len_0 w)
  have HP := Lib.hid (pdq_none 0 f w)
  go_enter Try.func144, Try.ntmps144
  go_wp2_with fail
  refine HL.out.mono ?_
  rintro e w' ⟨rfl, rfl⟩
  go_wp2_with fail
  refine HP.out.mono ?_
  rintro e w' ⟨rfl, rfl⟩
  go_wp2_with fail
  go_end0
  exact ⟨rfl, rfl⟩
theorem wrap_id (P : Nat) (h : P ≤ 10000000) : wrap64 (P : Int) = (P : Int) := by unfold wrap64; omega
theorem wpList_mul {ops : Array Oper} {rest : List Oper} {o : Oper} {a : Act} {w : World} {Q : Exit → Act → World → Prop} (hgd : o.guard = none) (x y : Operand) (ho : o.op = .binOp .mul 3 x y 3)
    (i j p : Int) (hx : a.eval x = .int .i64 i) (hy : a.eval y = .int .i64 j) (hp : IntKind.i64.wrap (i * j) = p)
    (h : wpList Try.prog ops Q rest (a.put o.dst (.int .i64 p)) w) : wpList Try.prog ops Q (o :: rest) a w := by
  refine wpList_plain hgd fun K hK => ?_
  unfold Oper.wp execOp
  subst hp
  simp only [ho, hx, hy]
  go_simp
  exact hK _ _ h
theorem wpList_slice2 {ops : Array Oper} {rest : List Oper} {o : Oper} {a : Act} {w : World} {Q : Exit → Act → World → Prop} (hgd : o.guard = none) (x lo hi : Operand) (ho : o.op = .slice 33 x (some lo) (some hi) none)
    (p : Addr) (n c i k : Nat) (hx : a.eval x = .slice (some p) n c) (hl : a.eval lo = .int .i64 (i : Int)) (hh : a.eval hi = .int .i64 ((i + k : Nat) : Int)) (h1 : i + k ≤ c) (h2 : ¬ c = i)
    (h : wpList Try.prog ops Q rest (a.put o.dst (.slice (some (p.add i)) k (c - i))) w) : wpList Try.prog ops Q (o :: rest) a w := by
  refine wpList_plain hgd fun K hK => ?_
  have hk := hK _ _ h
  have e1 : i + k - i = k := Nat.add_sub_cancel_left i k
  unfold Oper.wp execOp
  simp only [ho, hx, Option.map_some, Option.map_none, hl, hh]
  go_simp
  have e2 : ((i : Int) + (k : Int)).toNat = i + k := by omega
  rw [if_pos ⟨by omega, by omega⟩, e2, if_pos (Nat.le_add_right i k), e1]
  exact hk
theorem infoH : (Try.prog.info? 185).map (·.size) = some 3 := by kernel_rfl
theorem meas {S j : Nat} (h : j < S) : S - (intOf (.int .i64 ((j : Int) + 1))).toNat < S - (intOf (.int .i64 (j : Int))).toNat := by simp [intOf]; omega
theorem valid_none (a : Addr) (n c : Nat) (l : List UInt8) (w : World) (hl : Sl w (some a) n c l) (S z : Nat) (hS : 2 ≤ S) (hS2 : S ≤ 100) (hz : 11 ≤ z) (hz2 : z ≤ 1024) (hn : n = S * z) (he : ∀ x ∈ l, x = 255) :
    Calls Try.prog 112 #[.slice (some a) n c, .int .i64 (S : Int)] w fun e w' => e = .returned (.slice none 0 0) ∧ Below w.heap.size w w' := by
  have hlen := hl.len
  have hcap := hl.cap
  have hcm : c ≤ 2 ^ 63 - 1 := hl.max
  have hdiv : ((n : Int) / (S : Int)) = (z : Int) := by
    rw [hn, Int.natCast_mul, Int.mul_comm, Int.mul_ediv_cancel _ (by omega)]
  have HD : Hid (∀ (u : World) (j : Nat), j < S → Below w.heap.size w u → Calls Try.prog 143 #[.slice (some (a.add (j * z))) z (c - j * z), .int .i64 (j : Int), .int .i64 (S : Int)] u fun e w' => (∃ (q t i : Int), e = .returned (.tuple #[.agg #[.int .i64 q, .int .i64 t, .int .u16 i], .bool false])) ∧ Below u.heap.size u w') := Lib.hid (fun u j hj hu => by
    have h1 : (j + 1) * z ≤ S * z := Nat.mul_le_mul_right z hj
    have h2 : (j + 1) * z = j * z + z := by rw [Nat.add_mul, Nat.one_mul]
    have hp := sl_part hl (j * z) ((j + 1) * z) (by omega) (by omega)
    rw [show (j + 1) * z - j * z = z by omega] at hp
    have hlp := hp.len
    have h10 : 10 < ((l.take ((j + 1) * z)).drop (j * z)).length := by omega
    refine hdr_no (a.add (j * z)) z (c - j * z) _ u (hp.step hu) hz ?_ j S
    rw [List.getElem?_eq_getElem h10]
    congr 1
    exact he _ (List.mem_of_mem_take (List.mem_of_mem_drop (List.getElem_mem h10))))
  have HB : Hid (∀ j : Nat, j < S → (j * z + z ≤ n ∧ ((j * z : Nat) : Int) = (j : Int) * (z : Int) ∧ ((j * z + z : Nat) : Int) = ((j : Int) + 1) * (z : Int))) := Lib.hid (fun j hj => by
    have h1 : (j + 1) * z ≤ S * z := Nat.mul_le_mul_right z hj
    have h2 : (j + 1) * z = j * z + z := by rw [Nat.add_mul, Nat.one_mul]
    refine ⟨by omega, Int.natCast_mul _ _, by rw [← h2, Int.natCast_mul]; rfl⟩)
  have HSO := Lib.hid (fun u => sort_none (.func (.func 145) #[] #[]) u)
  have hn2 : n ≤ 102400 := by rw [hn]; exact Nat.mul_le_mul hS2 hz2
  have hN := Lib.hid hn
  clear hl he hn hlen
  have hS0 : ¬ ((S : Int) = 0) := by omega
  go_enter Try.func112, Try.ntmps112
  go_wp2_with fail
  clear hS0
  go_loopw [5, 15] (fun x v wr => ∃ j : Nat, j ≤ S ∧ v = .int .i64 (j : Int) ∧ x = .slice none 0 0 ∧ Below w.heap.size w wr) (fun _ v _ => S - (intOf v).toNat)
  case atStart => exact ⟨0, Nat.zero_le _, rfl, rfl, Below.refl _ _⟩
  case round =>
    obtain ⟨j, hj, rfl, rfl, hbel⟩ := hrel
    rcases Nat.lt_or_ge j S with hlt | hge
    · have n1 : (j : Int) < (S : Int) := by omega
      obtain ⟨hb1, hb2, hb3⟩ := HB.out j hlt
      have hz0 : 0 < z := by omega
      generalize hP : j * z = P at *
      have HC := Lib.hid (HD.out · j hlt)
      rw [hP] at HC
      have o3 : P + z ≤ c := by omega
      have o4 : ¬ c = P := by omega
      have O3 := Lib.hid o3
      have O4 := Lib.hid o4
      have W1 : Hid (IntKind.i64.wrap ((j : Int) * (z : Int)) = (P : Int)) := Lib.hid (by rw [← hb2]; exact IntWalk.i64_in _ ⟨by omega, by omega⟩)
      have W2 : Hid (IntKind.i64.wrap (((j : Int) + 1) * (z : Int)) = ((P + z : Nat) : Int)) := Lib.hid (by rw [← hb3]; exact IntWalk.i64_in _ ⟨by omega, by omega⟩)
      clear hb1 hb2 hb3 hP o3 o4 hz0
      go_wp2_with (first | (refine wpList_mul rfl (.tmp 19) (.tmp 20) rfl (j : Int) (z : Int) (P : Int) rfl rfl W1.out ?_) | (refine wpList_mul rfl (.tmp 23) (.tmp 24) rfl ((j : Int) + 1) (z : Int) ((P + z : Nat) : Int) rfl rfl W2.out ?_) | (refine wpList_slice2 rfl (.tmp 18) (.tmp 21) (.tmp 25) rfl a n c P z rfl rfl rfl O3.out O4.out ?_; refine Hid.out ?_))
      refine Lib.hid ?_
      go_wp2_with fail
      have hA : Below wr.heap.size wr (wr.alloc (.cells #[.int .i64 0, .int .i64 0, .int .u16 0, .slice (some (a.add P)) z (c - P)] 187)) := (Below.refl _ _).alloc (Nat.le_refl _) _
      have hbA := hbel.trans (hA.mono hbel.size)
      refine (HC.out _ hbA).mono ?_
      rintro e w2 ⟨⟨xq, xt, xi, rfl⟩, hb2⟩
      have hrow : w2.heap[wr.heap.size]? = some (.cells #[.int .i64 0, .int .i64 0, .int .u16 0, .slice (some (a.add P)) z (c - P)] 187 (0, 0)) :=
        (hb2.block wr.heap.size (by simp)).trans (heap_alloc_new wr _)
      have hth : w2.there wr.heap.size 0 3 := fun q hq => by
        refine ⟨?_, frozen_of_row _ _ _ _ _ hrow⟩
        rw [cell_of_row _ _ (0 + q) _ _ _ hrow]
        rcases (show q = 0 ∨ q = 1 ∨ q = 2 by omega) with rfl | rfl | rfl <;> rfl
      have hb3 := hbA.trans (hb2.mono hbA.size)
      have hg3 : Below w.heap.size w (w2.setCells wr.heap.size 0 (#[.int .i64 xq, .int .i64 xt, .int .u16 xi] : Array Value).toList) := by
        have s1 := hb3.grown (set_grown w2 wr.heap.size 0 (.int .i64 xq)) hb3.size (fun q hq => by injection hq with hq; rw [← hq]; exact hbel.size)
        have s2 := s1.grown (set_grown _ wr.heap.size 1 (.int .i64 xt)) s1.size (fun q hq => by injection hq with hq; rw [← hq]; exact hbel.size)
        exact s2.grown (set_grown _ wr.heap.size 2 (.int .u16 xi)) s2.size (fun q hq => by injection hq with hq; rw [← hq]; exact hbel.size)
      have HG3 := Lib.hid hg3
      have HTH := Lib.hid hth
      clear hA hbA hrow hth hb3 hg3 hb2
      go_wp2_with (refine wpList_store_mid rfl 185 (.tmp 36) (.tmp 34) rfl wr.heap.size 0 #[.int .i64 xq, .int .i64 xt, .int .u16 xi] rfl rfl HTH.out infoH (by simp [Value.oneCell']) ?_; refine Hid.out ?_)
      refine Lib.hid ?_
      generalize w2.setCells wr.heap.size 0 (#[.int .i64 xq, .int .i64 xt, .int .u16 xi] : Array Value).toList = w3 at *
      clear HC W1 W2 O3 O4 HTH HB HD HSO hdiv
      go_wp2_with fail
      exact ⟨⟨j + 1, hlt, by go_num, rfl, HG3.out⟩, meas hlt⟩
    · have n1 : ¬ (j : Int) < (S : Int) := by omega
      clear hcap hcm hn2 hz hz2 hS hS2 hdiv hj hge HB HD hN
      go_wp2_with fail
      refine (HSO.out _).mono ?_
      rintro e w' ⟨rfl, rfl⟩
      go_wp2_with fail
      go_ret
      exact ⟨rfl, hbel⟩
end Go.Proofs.Ytekhpcfggbegaaa.G9
