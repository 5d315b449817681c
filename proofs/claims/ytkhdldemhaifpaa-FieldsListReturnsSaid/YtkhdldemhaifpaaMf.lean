/- Walks: the dice's lists of fields. -/
import Derived.Test.YtkhdldemhaifpaaFn
import Derived.Test.YtkhdldemhaifpaaFq
namespace Go.Proofs.Ytkhdldemhaifpaa.Made
open Go.RowKit Go.Proofs.Ytkhdldemhaifpaa.Mem Go.Proofs.Ytkhdldemhaifpaa.F2p Go.Proofs.Ytkhdldemhaifpaa.Fa Go.Proofs.Ytkhdldemhaifpaa.Fl
set_option maxRecDepth 100000
set_option maxHeartbeats 2000000

theorem Dz.fields {w : World} {g n c : Nat} {A : Option Addr} {l : List Int} (h : Dz w g A n c l) :
    Calls Try.prog 34 #[.pointer (some ⟨g, 0, none⟩), .int .i64 0] w fun e w' => ∃ (v : Value) (x : List Fi), e = .returned v ∧ FOwn w.heap.size w' v x ∧ okf x = true ∧ (∀ y ∈ x, y.2.size ≤ 100000) ∧ x.length ≤ 16 ∧ Dz w' g A n c l ∧ w.grownBy w' (some g) := by
  have hlt := h.lt
  go_enter Try.func34, Try.ntmps34
  go_wp2_with fail
  refine (h.next 3 (by omega) (by omega)).mono ?_
  rintro e w1 ⟨r, hr, rfl, hd1, hg1⟩
  clear h
  go_wp2_with fail
  refine (hd1.bool 10 (by omega) (by omega)).mono ?_
  rintro e w2 ⟨b, rfl, hd3, hg2⟩
  have hg3 := grown_trans hg1 hg2
  clear hd1 hg1 hg2
  cases b
  · have hmn : min (r : Int) 16 = (r : Int) := by omega
    by_cases hr0 : True
    · go_wp2_with fail
      go_loopw [6, 7] (fun v i wr => ∃ (j : Nat) (x : List Fi), j ≤ r ∧ i = .int .i64 j ∧ x.length = j ∧ okf x = true ∧ (∀ y ∈ x, y.2.size ≤ 100000) ∧ FOwn w.heap.size wr v x ∧ Dz wr g A n c l ∧ w.grownBy wr (some g)) (fun _ i _ => r - (intOf i).toNat)
      case atStart => exact ⟨0, [], Nat.zero_le _, rfl, rfl, rfl, (fun y hy => (by cases hy)), FOwn.nil, hd3, hg3⟩
      case round =>
        clear hd3 hg3
        obtain ⟨j, x, hj, rfl, hx, hok, hsz, hown, hd, hg⟩ := hrel
        have HX := Lib.hid hx
        have HOK := Lib.hid hok
        have HSZ := Lib.hid hsz
        clear hx hok hsz
        by_cases hlt : j < r
        · go_wp2_with fail
          refine hd.field.mono ?_
          rintro e w4 ⟨k, s, rfl, hv, hd4, hg4⟩
          have hown4 : FOwn w.heap.size w4 u6 x := World.ownsRow.kept hown hg4 (.inr (fun e => by have := (World.ownsRow.lt hown _ e).1; omega))
          have hzz := (grown_trans hg hg4).size
          have HV := Lib.hid hv
          clear hown hv
          go_wp2_with (at_builtin; (refine wpList_append_f _ rfl _ _ rfl w.heap.size _ x rfl (World.ownsRow.alloc hown4 _) k s _ 1 rfl (new_pair _ _ rfl _ _ _).1 (new_pair _ _ rfl _ _ _).2 (by have := HX.out; omega) (by simp; omega) ?_); intro v1 w5 hown5 hg5)
          have hob : ∀ b, Value.ownBlock u6 = some b → w.heap.size ≤ b := fun b hb => (World.ownsRow.lt hown4 b hb).1
          have hal := World.grownBy_alloc w4 (.cells #[.int .i64 k, .string s] 23) (none : Option Nat)
          have hdA := hd4.grown hal (by simp) (fun k hk => by cases hk)
          have hd5 := hdA.grown hg5 (fun e => by have := hob _ e; omega) (fun k hk => by have := hob k hk; omega)
          have hgA := grown_new (grown_trans hg hg4) hal (fun b hb => by cases hb)
          have hg6 := grown_new hgA hg5 hob
          refine ⟨⟨j + 1, x ++ [(k, s)], by omega, by go_num, by rw [List.length_append, HX.out]; rfl, ?_, ?_, hown5, hd5, hg6⟩, by simp [intOf]; omega⟩
          · have := HOK.out
            unfold okf at *
            rw [List.all_append, this]
            simpa using HV.out
          · intro y hy
            rcases List.mem_append.1 hy with hy | hy
            · exact HSZ.out y hy
            · rw [List.mem_singleton.1 hy]
              have := vld_size HV.out
              show s.size ≤ _
              omega
        · go_wp2_with fail
          go_ret
          exact ⟨_, x, rfl, hown, HOK.out, HSZ.out, by rw [HX.out]; omega, hd, hg⟩
    · exact absurd trivial hr0
  · by_cases hr0 : True
    · go_wp2_with fail
      go_loopw [6, 7] (fun v i wr => ∃ (j : Nat) (x : List Fi), j ≤ 16 ∧ i = .int .i64 j ∧ x.length = j ∧ okf x = true ∧ (∀ y ∈ x, y.2.size ≤ 100000) ∧ FOwn w.heap.size wr v x ∧ Dz wr g A n c l ∧ w.grownBy wr (some g)) (fun _ i _ => 16 - (intOf i).toNat)
      case atStart => exact ⟨0, [], Nat.zero_le _, rfl, rfl, rfl, (fun y hy => (by cases hy)), FOwn.nil, hd3, hg3⟩
      case round =>
        clear hd3 hg3
        obtain ⟨j, x, hj, rfl, hx, hok, hsz, hown, hd, hg⟩ := hrel
        have HX := Lib.hid hx
        have HOK := Lib.hid hok
        have HSZ := Lib.hid hsz
        clear hx hok hsz
        by_cases hlt : j < 16
        · go_wp2_with fail
          refine hd.field.mono ?_
          rintro e w4 ⟨k, s, rfl, hv, hd4, hg4⟩
          have hown4 : FOwn w.heap.size w4 u6 x := World.ownsRow.kept hown hg4 (.inr (fun e => by have := (World.ownsRow.lt hown _ e).1; omega))
          have hzz := (grown_trans hg hg4).size
          have HV := Lib.hid hv
          clear hown hv
          go_wp2_with (at_builtin; (refine wpList_append_f _ rfl _ _ rfl w.heap.size _ x rfl (World.ownsRow.alloc hown4 _) k s _ 1 rfl (new_pair _ _ rfl _ _ _).1 (new_pair _ _ rfl _ _ _).2 (by have := HX.out; omega) (by simp; omega) ?_); intro v1 w5 hown5 hg5)
          have hob : ∀ b, Value.ownBlock u6 = some b → w.heap.size ≤ b := fun b hb => (World.ownsRow.lt hown4 b hb).1
          have hal := World.grownBy_alloc w4 (.cells #[.int .i64 k, .string s] 23) (none : Option Nat)
          have hdA := hd4.grown hal (by simp) (fun k hk => by cases hk)
          have hd5 := hdA.grown hg5 (fun e => by have := hob _ e; omega) (fun k hk => by have := hob k hk; omega)
          have hgA := grown_new (grown_trans hg hg4) hal (fun b hb => by cases hb)
          have hg6 := grown_new hgA hg5 hob
          refine ⟨⟨j + 1, x ++ [(k, s)], by omega, by go_num, by rw [List.length_append, HX.out]; rfl, ?_, ?_, hown5, hd5, hg6⟩, by simp [intOf]; omega⟩
          · have := HOK.out
            unfold okf at *
            rw [List.all_append, this]
            simpa using HV.out
          · intro y hy
            rcases List.mem_append.1 hy with hy | hy
            · exact HSZ.out y hy
            · rw [List.mem_singleton.1 hy]
              have := vld_size HV.out
              show s.size ≤ _
              omega
        · go_wp2_with fail
          go_ret
          exact ⟨_, x, rfl, hown, HOK.out, HSZ.out, by rw [HX.out]; omega, hd, hg⟩
    · exact absurd trivial hr0
end Go.Proofs.Ytkhdldemhaifpaa.Made
