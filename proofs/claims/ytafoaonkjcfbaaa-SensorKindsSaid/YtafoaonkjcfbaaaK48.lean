/- Walks: valid analog sensors: Step, Reached; the dice's Near. -/
import Derived.Test.YtafoaonkjcfbaaaK47
import Derived.Test.YtafoaonkjcfbaaaK41
import Derived.Deep.RegionHeld3
namespace Go.Proofs.Ytafoaonkjcfbaaa.Ya
open Go.RowKit Go.Proofs.Ytafoaonkjcfbaaa.Mem Go.Proofs.Ytafoaonkjcfbaaa.F2p Go.Proofs.Ytafoaonkjcfbaaa.C4l Go.Proofs.Ytafoaonkjcfbaaa.Made Go.Proofs.Ytafoaonkjcfbaaa.D5 Go.Proofs.Ytafoaonkjcfbaaa.Ta Go.Proofs.Ytafoaonkjcfbaaa.Tb Go.Proofs.Ytafoaonkjcfbaaa.Tl
set_option maxRecDepth 100000
set_option maxHeartbeats 1000000

theorem name_le {s : Sn} (hv : vs s = true) : s.nm.size ≤ maxLen := by
  unfold vs okn at hv
  simp only [Bool.and_eq_true] at hv
  have h := of_decide_eq_true hv.1.1
  rw [bl_len] at h
  unfold maxLen; omega
theorem step_v (s : Sn) (hv : vs s = true) (hd : s.d = false) (A : Option Addr) (n cp : Nat) (st : Nat) (hst : st < 256) (hin : andn8 st s.mx.toNat = 0) (raw : UInt8) (w : World) (hsl : PSl w A n cp s.c.p) :
    Calls Try.prog 48 #[.agg (cells s (.slice A n cp)), .int .u8 (st : Int), .int .u8 (raw.toNat : Int)] w fun e w' => (∃ v, e = .returned (.tuple #[.int .u8 (nxt s (C4p.num s.c.s raw) st : Nat), v, .int .i64 0]) ∧ KOwn w.heap.size w' v (chs st (nxt s (C4p.num s.c.s raw) st) 6)) ∧ Below w.heap.size w w' := by
  refine (step_q s A n cp st hst raw w hsl (name_le hv)).mono ?_
  rintro e w' ⟨hb, h⟩
  rw [if_neg (by rw [hv, hd]; simp), if_neg (by simpa using hin)] at h
  exact ⟨h, hb⟩
theorem u8_any (z : Int) : ∃ x : UInt8, IntKind.u8.wrap z = (x.toNat : Int) := by
  have e : IntKind.u8.wrap z = ((z % 256).toNat : Int) := by
    rw [show IntKind.u8.wrap z = z % 256 from rfl]; omega
  have := Tl.u8_int (z % 256).toNat (by omega)
  obtain ⟨x, hx⟩ := this
  exact ⟨x, e.trans hx⟩
theorem raw_cell {w : World} {r : Nat} {s : Sn} {V : Value} (h : Bx w r s V) (k : Nat) (hk : k < 6) : w.cell? ⟨r, 15 + k, none⟩ = some (.int .u8 ((s.raw.getD k 0).toNat : Int)) := by
  rw [h.c]
  rcases (show k = 0 ∨ k = 1 ∨ k = 2 ∨ k = 3 ∨ k = 4 ∨ k = 5 by omega) with rfl | rfl | rfl | rfl | rfl | rfl <;> rfl
theorem near0 (s : Sn) (V : Value) {w : World} {g n c : Nat} {A : Option Addr} {l : List Int} (h : Dz w g A n c l) :
    Calls Try.prog 87 #[.pointer (some ⟨g, 0, none⟩), .agg (cells s V)] w fun e w' => ∃ x : UInt8, e = .returned (.int .u8 (x.toNat : Int)) ∧ Dz w' g A n c l ∧ w.grownBy w' (some g) := by
  have hlt := h.lt
  have hx0 : Bx (w.alloc (.cells (cells s V) 59)) w.heap.size s V := heap_alloc_new w _
  have hgw := World.grownBy_alloc w (.cells (cells s V) 59) (some g)
  have hd0 := h.grown (World.grownBy_alloc w (.cells (cells s V) 59) none) (by simp) (fun k hk => by cases hk)
  clear h
  go_enter Try.func87, Try.ntmps87
  go_wp2_with fail
  generalize w.alloc (.cells (cells s V) 59) = w1 at *
  refine (hd0.bool 3 (by omega) (by omega)).mono ?_
  rintro e w2 ⟨b, rfl, hd, hg2⟩
  have hx2 := hx0.kept hg2 (fun e => by injection e; omega)
  have hgw := grown_trans hgw hg2
  clear hx0 hd0 hg2
  cases b
  · go_wp2_with fail
    have hx2 : Bx w2.drew w.heap.size s V := hx2
    have hgw := grown_drew hgw
    have hd := dz_drew hd
    refine wp_region_held_drew (S := (fun W => ∀ k, k < 6 → W.cell? ⟨w.heap.size, 15 + k, none⟩ = some (.int .u8 ((s.raw.getD k 0).toNat : Int)))) (by kernel_rfl) ?_ (fun hHeld => ?_)
    · (try dsimp only); exact fun k hk => raw_cell hx2 k hk
    refine wpAnyH_take (i := 0) (oi := _) (v := ?vq1_0) rfl (by kernel_rfl) (by kernel_rfl) (by kernel_rfl) (fun _ _ _ h => h) (Or.inl ⟨rfl, ?yq1_0⟩) (by assumption) ?_
    case yq1_0 => intro w hSw; (try dsimp only at hSw); go_simp; (try with_reducible rfl)
    (try simp only [Act.put, List.getElem_toArray, List.getElem_cons_zero, List.setIfInBounds_toArray, List.set_cons_zero, List.set_cons_succ])
    refine wpAnyH_take (i := 2) (oi := _) (v := ?vq2_2) rfl (by kernel_rfl) (by kernel_rfl) (by kernel_rfl) (fun _ _ _ h => h) (Or.inl ⟨rfl, ?yq2_2⟩) (by assumption) ?_
    case yq2_2 => intro w hSw; (try dsimp only at hSw); go_simp; (try with_reducible rfl)
    (try simp only [Act.put, List.getElem_toArray, List.getElem_cons_succ, List.getElem_cons_zero, List.setIfInBounds_toArray, List.set_cons_zero, List.set_cons_succ])
    refine wpAnyH_take (i := 3) (oi := _) (v := ?vq3_3) rfl (by kernel_rfl) (by kernel_rfl) (by kernel_rfl) (fun _ _ _ h => h) (Or.inl ⟨rfl, ?yq3_3⟩) (by assumption) ?_
    case yq3_3 => intro w hSw; (try dsimp only at hSw); go_simp; (try with_reducible rfl)
    (try simp only [Act.put, List.getElem_toArray, List.getElem_cons_succ, List.getElem_cons_zero, List.setIfInBounds_toArray, List.set_cons_zero, List.set_cons_succ])
    refine wpAnyH_take (i := 7) (oi := _) (v := ?vq4_7) rfl (by kernel_rfl) (by kernel_rfl) (by kernel_rfl) (fun _ _ _ h => h) (Or.inl ⟨rfl, ?yq4_7⟩) (by assumption) ?_
    case yq4_7 => intro w hSw; (try dsimp only at hSw); go_simp; (try with_reducible rfl)
    (try simp only [Act.put, List.getElem_toArray, List.getElem_cons_succ, List.getElem_cons_zero, List.setIfInBounds_toArray, List.set_cons_zero, List.set_cons_succ])
    refine wpAnyH_ready (rs := [1]) (by kernel_rfl) (by simp) ?_
    refine AllReadyH.cons (o := _) rfl (fun K hK => ?_) AllReadyH.nil
    go_simp
    go_at_call 32; refine (hd.next 6 (by omega) (by omega)).mono ?_; rintro e u1 ⟨k, hk, rfl, hd, hgu⟩; have hx2 := hx2.kept hgu (fun e => by injection e; omega); have hgw := grown_trans hgw hgu; clear hgu
    refine hK.out _ _ ?_ (fun hHeld => ?_)
    · (try dsimp only); exact fun k hk => raw_cell hx2 k hk
    clear hK K
    (try simp only [Act.put, List.getElem_toArray, List.getElem_cons_succ, List.getElem_cons_zero, List.setIfInBounds_toArray, List.set_cons_zero, List.set_cons_succ])
    refine wpAnyH_take (i := 4) (oi := _) (v := ?vq5_4) rfl (by kernel_rfl) (by kernel_rfl) (by kernel_rfl) (fun _ _ _ h => h) (Or.inl ⟨rfl, ?yq5_4⟩) (by assumption) ?_
    case yq5_4 => intro w hSw; (try dsimp only at hSw); go_simp; rw [if_pos (by omega)]; (try with_reducible rfl)
    (try simp only [Act.put, List.getElem_toArray, List.getElem_cons_succ, List.getElem_cons_zero, List.setIfInBounds_toArray, List.set_cons_zero, List.set_cons_succ])
    refine wpAnyH_take (i := 5) (oi := _) (v := ?vq6_5) rfl (by kernel_rfl) (by kernel_rfl) (by kernel_rfl) (fun _ _ _ h => h) (Or.inl ⟨rfl, ?yq6_5⟩) (by assumption) ?_
    case yq6_5 => intro w hSw; have hSw := hSw k hk; (try dsimp only at hSw); go_simp; (try with_reducible rfl)
    (try simp only [Act.put, List.getElem_toArray, List.getElem_cons_succ, List.getElem_cons_zero, List.setIfInBounds_toArray, List.set_cons_zero, List.set_cons_succ])
    refine wpAnyH_take (i := 6) (oi := _) (v := ?vq7_6) rfl (by kernel_rfl) (by kernel_rfl) (by kernel_rfl) (fun _ _ _ h => h) (Or.inl ⟨rfl, ?yq7_6⟩) (by assumption) ?_
    case yq7_6 => intro w hSw; (try dsimp only at hSw); go_simp; (try with_reducible rfl)
    (try simp only [Act.put, List.getElem_toArray, List.getElem_cons_succ, List.getElem_cons_zero, List.setIfInBounds_toArray, List.set_cons_zero, List.set_cons_succ])
    refine wpAnyH_ready (rs := [8]) (by kernel_rfl) (by simp) ?_
    refine AllReadyH.cons (o := _) rfl (fun K hK => ?_) AllReadyH.nil
    go_simp
    go_at_call 32; refine (hd.next 9 (by omega) (by omega)).mono ?_; rintro e u8 ⟨j, hj, rfl, hd, hgu⟩; have hx2 := hx2.kept hgu (fun e => by injection e; omega); have hgw := grown_trans hgw hgu; clear hgu
    refine hK.out _ _ ?_ (fun hHeld => ?_)
    · (try dsimp only); exact fun k hk => raw_cell hx2 k hk
    clear hK K
    (try simp only [Act.put, List.getElem_toArray, List.getElem_cons_succ, List.getElem_cons_zero, List.setIfInBounds_toArray, List.set_cons_zero, List.set_cons_succ])
    refine wpAnyH_take (i := 9) (oi := _) (v := ?vq8_9) rfl (by kernel_rfl) (by kernel_rfl) (by kernel_rfl) (fun _ _ _ h => h) (Or.inl ⟨rfl, ?yq8_9⟩) (by assumption) ?_
    case yq8_9 => intro w hSw; (try dsimp only at hSw); go_simp; (try with_reducible rfl)
    (try simp only [Act.put, List.getElem_toArray, List.getElem_cons_succ, List.getElem_cons_zero, List.setIfInBounds_toArray, List.set_cons_zero, List.set_cons_succ])
    refine wpAnyH_take (i := 10) (oi := _) (v := ?vq9_10) rfl (by kernel_rfl) (by kernel_rfl) (by kernel_rfl) (fun _ _ _ h => h) (Or.inl ⟨rfl, ?yq9_10⟩) (by assumption) ?_
    case yq9_10 => intro w hSw; (try dsimp only at hSw); go_simp; (try with_reducible rfl)
    (try simp only [Act.put, List.getElem_toArray, List.getElem_cons_succ, List.getElem_cons_zero, List.setIfInBounds_toArray, List.set_cons_zero, List.set_cons_succ])
    refine wpAnyH_take (i := 11) (oi := _) (v := ?vq10_11) rfl (by kernel_rfl) (by kernel_rfl) (by kernel_rfl) (fun _ _ _ h => h) (Or.inl ⟨rfl, ?yq10_11⟩) (by assumption) ?_
    case yq10_11 => intro w hSw; (try dsimp only at hSw); go_simp; (try with_reducible rfl)
    (try simp only [Act.put, List.getElem_toArray, List.getElem_cons_succ, List.getElem_cons_zero, List.setIfInBounds_toArray, List.set_cons_zero, List.set_cons_succ])
    refine wpAnyH_take (i := 12) (oi := _) (v := ?vq11_12) rfl (by kernel_rfl) (by kernel_rfl) (by kernel_rfl) (fun _ _ _ h => h) (Or.inl ⟨rfl, ?yq11_12⟩) (by assumption) ?_
    case yq11_12 => intro w hSw; (try dsimp only at hSw); go_simp; (try with_reducible rfl)
    (try simp only [Act.put, List.getElem_toArray, List.getElem_cons_succ, List.getElem_cons_zero, List.setIfInBounds_toArray, List.set_cons_zero, List.set_cons_succ])
    refine wpAnyH_take (i := 13) (oi := _) (v := ?vq12_13) rfl (by kernel_rfl) (by kernel_rfl) (by kernel_rfl) (fun _ _ _ h => h) (Or.inl ⟨rfl, ?yq12_13⟩) (by assumption) ?_
    case yq12_13 => intro w hSw; (try dsimp only at hSw); go_simp; (try with_reducible rfl)
    (try simp only [Act.put, List.getElem_toArray, List.getElem_cons_succ, List.getElem_cons_zero, List.setIfInBounds_toArray, List.set_cons_zero, List.set_cons_succ])
    refine wpAnyH_done (by kernel_rfl) ?_ _
    go_wp2_with fail
    obtain ⟨x, hx⟩ := u8_any ((IntKind.i64.wrap (IntKind.i64.wrap (IntKind.i64.wrap ((s.raw[k]?.getD 0).toNat : Int) + (j : Int)) + 252)).tmod 256)
    rw [hx]
    go_ret
    exact ⟨x, rfl, hd, hgw⟩
  · go_wp2_with fail
    refine hd.byte.mono ?_
    rintro e w3 ⟨x, rfl, hd3, hg3⟩
    go_wp2_with fail
    go_ret
    exact ⟨x, rfl, hd3, grown_trans hgw hg3⟩
theorem near_q (s : Sn) (V : Value) {w : World} {g n c : Nat} {A : Option Addr} {l : List Int} (h : Dz w g A n c l) :
    Calls Try.prog 49 #[.pointer (some ⟨g, 0, none⟩), .agg (cells s V)] w fun e w' => ∃ x : UInt8, e = .returned (.int .u8 (x.toNat : Int)) ∧ Dz w' g A n c l ∧ w.grownBy w' (some g) := by
  have hlt := h.lt
  have hx0 : Bx (w.alloc (.cells (cells s V) 59)) w.heap.size s V := heap_alloc_new w _
  have hgw := World.grownBy_alloc w (.cells (cells s V) 59) (some g)
  have hd0 := h.grown (World.grownBy_alloc w (.cells (cells s V) 59) none) (by simp) (fun k hk => by cases hk)
  clear h
  go_enter Try.func49, Try.ntmps49
  go_wp2_with (refine wpList_load_bx rfl (.tmp 3) rfl _ _ _ rfl hx0 ?_)
  generalize w.alloc (.cells (cells s V) 59) = w1 at *
  refine (near0 s V hd0).mono ?_
  rintro e w2 ⟨x, rfl, hd, hg2⟩
  go_wp2_with fail
  go_ret
  exact ⟨x, rfl, hd, grown_trans hgw hg2⟩
end Go.Proofs.Ytafoaonkjcfbaaa.Ya
