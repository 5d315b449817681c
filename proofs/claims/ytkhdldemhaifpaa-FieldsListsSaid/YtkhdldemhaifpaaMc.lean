/- Walks: the dice's fields. -/
import Derived.Test.YtkhdldemhaifpaaMb
import Derived.Test.YtkhdldemhaifpaaF2s
namespace Go.Proofs.Ytkhdldemhaifpaa.Made
open Go.RowKit Go.Proofs.Ytkhdldemhaifpaa.Mem Go.Proofs.Ytkhdldemhaifpaa.F2p Go.Proofs.Ytkhdldemhaifpaa.Fa
set_option maxRecDepth 100000
set_option maxHeartbeats 1000000

def digs : ByteArray := ⟨#[48, 49, 50, 51, 52, 53, 54, 55, 56, 57, 32, 45, 46]⟩
theorem vld1_of {t : ByteArray} {q : Nat} (ht : t.size = 2 * q) (hq : q < 9) (h : ∀ x ∈ bl t, x ∈ bl ⟨#[48, 49, 50, 51, 52, 53, 54, 55, 56, 57, 32, 45, 46]⟩) : vld 1 (bl t) = true := by
  have key : ∀ x ∈ bl digs, decide (0 ≤ dig x.toNat) = true := by decide
  have hok : okd (bl t) = true := List.all_eq_true.2 fun x hx => key x (h x hx)
  unfold vld
  rw [if_neg (by decide), if_pos rfl, hok, Bool.and_true, bl_len]
  exact decide_eq_true (by omega)
theorem vld2_of {t : ByteArray} {q : Nat} (ht : t.size = q) (hq : q < 10) (h4 : q % 4 ≠ 3) (h : ∀ x ∈ bl t, x ∈ bl ⟨#[32, 33, 48, 65, 57, 90, 95, 45, 46, 47]⟩) : vld 2 (bl t) = true := by
  have key : ∀ x ∈ bl ⟨#[32, 33, 48, 65, 57, 90, 95, 45, 46, 47]⟩, decide (32 ≤ x.toNat ∧ x.toNat ≤ 95) = true := by decide
  have hok : oks (bl t) = true := List.all_eq_true.2 fun x hx => key x (h x hx)
  unfold vld
  rw [if_neg (by decide), if_neg (by decide), if_pos rfl, hok, Bool.and_true, bl_len]
  exact decide_eq_true (by unfold sixB; omega)
theorem vld3_of {t : ByteArray} {q : Nat} (ht : t.size = q) (hq : q < 10) (h1 : q ≠ 1) : vld 3 (bl t) = true := by
  unfold vld
  rw [if_neg (by decide), if_neg (by decide), if_neg (by decide), if_pos rfl, bl_len]
  exact decide_eq_true (by omega)
theorem vld0_of {l : List UInt8} (h : l.length ≤ 63) : vld 0 l = true := by
  unfold vld
  rw [if_pos rfl]
  exact decide_eq_true h
theorem Dz.text_at {w : World} {g n c : Nat} {A : Option Addr} {l : List Int} (h : Dz w g A n c l) (s : ByteArray) (m : Nat) (x : Int) (hx : x = (m : Int)) (hs : 1 ≤ s.size) (hs2 : s.size ≤ 1000) (hm : m ≤ 10000) :
    Calls Try.prog 35 #[.pointer (some ⟨g, 0, none⟩), .string s, .int .i64 x] w fun e w' => ∃ t : ByteArray, e = .returned (.string t) ∧ t.size = m ∧ (∀ x ∈ bl t, x ∈ bl s) ∧ Dz w' g A n c l ∧ w.grownBy w' (some g) := by
  subst hx
  exact h.text s m hs hs2 hm
theorem made63 (u : World) : ∃ (M : Array Value) (z : ByteArray), (Instr.makeSlice 31 (.int .i64 63) (.int .i64 63)).run Try.prog u = .ok (.slice (some ⟨u.heap.size, 0, none⟩) 63 63) (u.alloc (.cells M 5)) ∧
    (convert 31 9 (.slice (some ⟨u.heap.size, 0, none⟩) 63 63)).run Try.prog (u.alloc (.cells M 5)) = .ok (.string z) (u.alloc (.cells M 5)) ∧ vld 0 (bl z) = true := by
  obtain ⟨i0, hi, hz0, hz1, hz2⟩ := info_parts info5
  have h := F2s.make_bytes 63 u i0 hi hz0 hz1 hz2 (by omega)
  have ho : Own u.heap.size (u.alloc (.cells (madeCells #[.int .u8 0] 63) 5)) (.slice (some ⟨u.heap.size, 0, none⟩) 63 63) (List.replicate 63 0) := F2s.own_block (heap_alloc_new u _) (Nat.le_refl _) (by omega)
  exact ⟨_, _, h, own_string ho, vld0_of (by show (List.replicate 63 (0 : UInt8)).length ≤ 63; simp)⟩
theorem heap_two {w : World} {g : Nat} {u v x y : Value} {t : TypeId} (h : w.heap[g]? = some (.cells #[u, v] t (0, 0))) : ((w.setCell ⟨g, 0, none⟩ x).setCell ⟨g, 1, none⟩ y).heap[g]? = some (.cells #[x, y] t (0, 0)) := by
  have h1 := heap_setCell_same w g 0 _ _ x h
  have h2 := heap_setCell_same _ g 1 _ _ y h1
  exact h2
/-- What Field leaves. -/
def Fd (w : World) (g n c : Nat) (A : Option Addr) (l : List Int) (e : Ending) (w' : World) : Prop := ∃ (k : Int) (s : ByteArray), e = .returned (.agg #[.int .i64 k, .string s]) ∧ vld k (bl s) = true ∧ Dz w' g A n c l ∧ w.grownBy w' (some g)
theorem Dz.field {w : World} {g n c : Nat} {A : Option Addr} {l : List Int} (h : Dz w g A n c l) :
    Calls Try.prog 25 #[.pointer (some ⟨g, 0, none⟩)] w (Fd w g n c A l) := by
  have hlt := h.lt
  have hal0 := World.grownBy_alloc w (.cells #[.int .i64 0, .string ⟨#[]⟩] 23) (some g)
  have hd0 := h.grown (World.grownBy_alloc w (.cells #[.int .i64 0, .string ⟨#[]⟩] 23) none) (by simp) (fun k hk => by cases hk)
  have hst0 : (w.alloc (.cells #[.int .i64 0, .string ⟨#[]⟩] 23)).heap[w.heap.size]? = some (.cells #[.int .i64 0, .string ⟨#[]⟩] 23 (0, 0)) := heap_alloc_new w _
  clear h
  go_enter Try.func25, Try.ntmps25
  go_wp2_with fail
  generalize w.alloc (.cells #[.int .i64 0, .string ⟨#[]⟩] 23) = w1 at *
  refine (hd0.next 4 (by omega) (by omega)).mono ?_
  rintro e w2 ⟨r, hr, rfl, hd2, hg2⟩
  have hst2 := (hg2.block w.heap.size (lt_of_some hst0) (fun e => by injection e; omega)).trans hst0
  have hgw2 := grown_trans hal0 hg2
  have hsz2 : w.heap.size < w2.heap.size := lt_of_some hst2
  clear hd0 hst0 hal0 hg2
  go_wp2_with fail
  have hd3 := hd2.grown (World.grownBy_alloc w2 (.cells #[.int .i64 (r : Int), .string ⟨#[]⟩] 23) none) (by simp) (fun k hk => by cases hk)
  have hgw3 := grown_trans hgw2 (World.grownBy_alloc w2 (.cells #[.int .i64 (r : Int), .string ⟨#[]⟩] 23) (some g))
  have hst3 : (w2.alloc (.cells #[.int .i64 (r : Int), .string ⟨#[]⟩] 23)).heap[w.heap.size]? = some (.cells #[.int .i64 0, .string ⟨#[]⟩] 23 (0, 0)) := (Below.heap_alloc w2 _ _ hsz2).trans hst2
  have hsu3 : (w2.alloc (.cells #[.int .i64 (r : Int), .string ⟨#[]⟩] 23)).heap[w2.heap.size]? = some (.cells #[.int .i64 (r : Int), .string ⟨#[]⟩] 23 (0, 0)) := heap_alloc_new w2 _
  have hF : w.heap.size ≠ w2.heap.size := by omega
  have hgF : g < w2.heap.size := by omega
  generalize w2.heap.size = F at *
  generalize w2.alloc (.cells #[.int .i64 (r : Int), .string ⟨#[]⟩] 23) = w3 at *
  clear hst2 hd2 hgw2
  refine (hd3.next 9 (by omega) (by omega)).mono ?_
  rintro e w4 ⟨q, hq, rfl, hd4, hg4⟩
  have hst4 := (hg4.block w.heap.size (lt_of_some hst3) (fun e => by injection e; omega)).trans hst3
  have hsu4 := (hg4.block F (lt_of_some hsu3) (fun e => by injection e; omega)).trans hsu3
  have hgw4 := grown_trans hgw3 hg4
  obtain ⟨c0, c1, hf⟩ := pair_cells hsu4
  clear hd3 hst3 hsu3 hgw3 hg4
  have hr4 : r = 0 ∨ r = 1 ∨ r = 2 ∨ r = 3 := by omega
  clear hr
  rcases hr4 with rfl | rfl | rfl | rfl
  · go_wp2_with fail
    refine (hd4.bytes q (by omega)).mono ?_
    rintro e w5 ⟨v, x, rfl, hown, hx, hd5, hg5⟩
    have hv : vld 0 (bl ⟨x.toArray⟩) = true := vld0_of (by show x.length ≤ 63; omega)
    have hcv := own_string hown
    clear hown
    generalize (⟨x.toArray⟩ : ByteArray) = t at *
    have hst5 := (hg5.block w.heap.size (lt_of_some hst4) (fun e => by injection e; omega)).trans hst4
    have hsu5 := (hg5.block F (lt_of_some hsu4) (fun e => by injection e; omega)).trans hsu4
    have hgw5 := grown_trans hgw4 hg5
    obtain ⟨k0, k1, kf⟩ := pair_cells hsu5
    have kf1 := kf 1
    clear kf hst4 hsu4 hgw4 hg5 c0 c1 hf hd4
    go_wp2_with fail
    have hst6 : (w5.setCell ⟨F, 1, none⟩ (.string t)).heap[w.heap.size]? = some (.cells #[.int .i64 0, .string ⟨#[]⟩] 23 (0, 0)) := (heap_setCell_other w5 ⟨F, 1, none⟩ _ _ (fun e => by simp at e; omega)).trans hst5
    have hsu6 := heap_setCell_same w5 F 1 _ _ (.string t) hsu5
    have hd6 := hd5.grown (set_grown w5 F 1 (.string t)) (fun e => by injection e; omega) (fun k hk => by injection hk; omega)
    have hg6 := grown_new hgw5 (set_grown w5 F 1 (.string t)) (fun b hb => by injection hb; omega)
    generalize w5.setCell ⟨F, 1, none⟩ (.string t) = w6 at *
    clear hst5 hsu5 hgw5 k0 k1 kf1 hd5
    refine (hd6.bool 40 (by omega) (by omega)).mono ?_
    rintro e w7 ⟨b, rfl, hd7, hg7⟩
    have hst7 := (hg7.block w.heap.size (lt_of_some hst6) (fun e => by injection e; omega)).trans hst6
    have hsu7 := (hg7.block F (lt_of_some hsu6) (fun e => by injection e; omega)).trans hsu6
    have hgw7 := grown_trans hg6 hg7
    clear hst6 hsu6 hg6 hd6 hg7
    rcases b with _ | _
    · obtain ⟨r0, r1, rf⟩ := pair_cells hst7
      obtain ⟨k0, k1, kf⟩ := pair_cells hsu7
      have rf0 := rf 0
      have rf1 := rf 1
      have HR := Lib.hid r1
      have r1' : ∀ v, (w7.setCell ⟨w.heap.size, 0, none⟩ v).cell? ⟨w.heap.size, 1, none⟩ = some (.string ⟨#[]⟩) := fun v => by
        rw [World.cell?_setCell_other _ _ _ _ (by simp)]; exact r1
      have hfin := fun (x y : Value) => heap_two (x := x) (y := y) hst7
      have HF := Lib.hid hfin
      clear hfin rf kf
      go_wp2_with fail
      refine bodyPost_ret (v := .agg #[.int .i64 _, .string t]) ?_ rfl ⟨_, t, rfl, hv, ?_, ?_⟩
      · have e0 := fun v => World.cell?_setCell_same (v := v) w7 _ r0
        have e1 := fun u v => World.cell?_setCell_same (v := v) _ _ (r1' u)
        simp [results, Try.results25, go_sem, e0, e1]
        done
      · exact (hd7.grown (set_grown w7 w.heap.size 0 _) (fun e => by injection e; omega) (fun k hk => by injection hk; omega)).grown (set_grown _ w.heap.size 1 _) (fun e => by injection e; omega) (fun k hk => by injection hk; omega)
      · exact grown_new (grown_new hgw7 (set_grown w7 w.heap.size 0 _) (fun b hb => by injection hb; omega)) (set_grown _ w.heap.size 1 _) (fun b hb => by injection hb; omega)
    · obtain ⟨M, z, hmk, hcz, hvz⟩ := made63 w7
      have hal := World.grownBy_alloc w7 (.cells M 5) (none : Option Nat)
      have hst8 := (hal.block w.heap.size (lt_of_some hst7) (by simp)).trans hst7
      have hsu8 := (hal.block F (lt_of_some hsu7) (by simp)).trans hsu7
      have hd8 := hd7.grown hal (by simp) (fun k hk => by cases hk)
      have hgw8 := grown_new hgw7 hal (fun b hb => by cases hb)
      obtain ⟨k0, k1, kf⟩ := pair_cells hsu8
      have kf0 := kf 0
      have kf1 := kf 1
      have k1' : ∀ v, ((w7.alloc (.cells M 5)).setCell ⟨F, 0, none⟩ v).cell? ⟨F, 1, none⟩ = some (.string t) := fun v => by
        rw [World.cell?_setCell_other _ _ _ _ (by simp)]; exact k1
      have a0 := fun v => World.cell?_setCell_same (v := v) _ _ k0
      have a1 := fun u v => World.cell?_setCell_same (v := v) _ _ (k1' u)
      obtain ⟨r0, r1, rf⟩ := pair_cells hst8
      have rf0 := rf 0
      have rf1 := rf 1
      have q0 : ∀ u v, (((w7.alloc (.cells M 5)).setCell ⟨F, 0, none⟩ u).setCell ⟨F, 1, none⟩ v).cell? ⟨w.heap.size, 0, none⟩ = some (.int .i64 0) := fun u v => by
        rw [World.cell?_setCell_other _ _ _ _ (by first | (simp; done) | (simp; omega)), World.cell?_setCell_other _ _ _ _ (by first | (simp; done) | (simp; omega))]; exact r0
      have q1 : ∀ u v x, ((((w7.alloc (.cells M 5)).setCell ⟨F, 0, none⟩ u).setCell ⟨F, 1, none⟩ v).setCell ⟨w.heap.size, 0, none⟩ x).cell? ⟨w.heap.size, 1, none⟩ = some (.string ⟨#[]⟩) := fun u v x => by
        rw [World.cell?_setCell_other _ _ _ _ (by simp), World.cell?_setCell_other _ _ _ _ (by first | (simp; done) | (simp; omega)), World.cell?_setCell_other _ _ _ _ (by first | (simp; done) | (simp; omega))]; exact r1
      have HA := Lib.hid r1
      clear rf kf r0 r1 hst7 hsu7
      go_wp2_with fail
      refine bodyPost_ret (v := .agg #[.int .i64 0, .string z]) ?_ rfl ⟨0, z, rfl, hvz, ?_, ?_⟩
      · have e0 := fun u v x => World.cell?_setCell_same (v := x) _ _ (q0 u v)
        have e1 := fun u v x y => World.cell?_setCell_same (v := y) _ _ (q1 u v x)
        simp [results, Try.results25, go_sem, e0, e1]
      · exact (((hd8.grown (set_grown _ F 0 _) (fun e => by injection e; omega) (fun k hk => by injection hk; omega)).grown (set_grown _ F 1 _) (fun e => by injection e; omega) (fun k hk => by injection hk; omega)).grown (set_grown _ w.heap.size 0 _) (fun e => by injection e; omega) (fun k hk => by injection hk; omega)).grown (set_grown _ w.heap.size 1 _) (fun e => by injection e; omega) (fun k hk => by injection hk; omega)
      · exact grown_new (grown_new (grown_new (grown_new hgw8 (set_grown _ F 0 _) (fun b hb => by injection hb; omega)) (set_grown _ F 1 _) (fun b hb => by injection hb; omega)) (set_grown _ w.heap.size 0 _) (fun b hb => by injection hb; omega)) (set_grown _ w.heap.size 1 _) (fun b hb => by injection hb; omega)
  · go_wp2_with fail
    refine (hd4.text_at _ (2 * q) _ (by omega) (by decide) (by decide) (by omega)).mono ?_
    rintro e w5 ⟨t, rfl, ht, hall, hd5, hg5⟩
    have hv := vld1_of ht hq hall
    clear ht hall
    have hst5 := (hg5.block w.heap.size (lt_of_some hst4) (fun e => by injection e; omega)).trans hst4
    have hsu5 := (hg5.block F (lt_of_some hsu4) (fun e => by injection e; omega)).trans hsu4
    have hgw5 := grown_trans hgw4 hg5
    obtain ⟨k0, k1, kf⟩ := pair_cells hsu5
    have kf1 := kf 1
    clear kf hst4 hsu4 hgw4 hg5 c0 c1 hf hd4
    go_wp2_with fail
    have hst6 : (w5.setCell ⟨F, 1, none⟩ (.string t)).heap[w.heap.size]? = some (.cells #[.int .i64 0, .string ⟨#[]⟩] 23 (0, 0)) := (heap_setCell_other w5 ⟨F, 1, none⟩ _ _ (fun e => by simp at e; omega)).trans hst5
    have hsu6 := heap_setCell_same w5 F 1 _ _ (.string t) hsu5
    have hd6 := hd5.grown (set_grown w5 F 1 (.string t)) (fun e => by injection e; omega) (fun k hk => by injection hk; omega)
    have hg6 := grown_new hgw5 (set_grown w5 F 1 (.string t)) (fun b hb => by injection hb; omega)
    generalize w5.setCell ⟨F, 1, none⟩ (.string t) = w6 at *
    clear hst5 hsu5 hgw5 k0 k1 kf1 hd5
    refine (hd6.bool 40 (by omega) (by omega)).mono ?_
    rintro e w7 ⟨b, rfl, hd7, hg7⟩
    have hst7 := (hg7.block w.heap.size (lt_of_some hst6) (fun e => by injection e; omega)).trans hst6
    have hsu7 := (hg7.block F (lt_of_some hsu6) (fun e => by injection e; omega)).trans hsu6
    have hgw7 := grown_trans hg6 hg7
    clear hst6 hsu6 hg6 hd6 hg7
    rcases b with _ | _
    · obtain ⟨r0, r1, rf⟩ := pair_cells hst7
      obtain ⟨k0, k1, kf⟩ := pair_cells hsu7
      have rf0 := rf 0
      have rf1 := rf 1
      have HR := Lib.hid r1
      have r1' : ∀ v, (w7.setCell ⟨w.heap.size, 0, none⟩ v).cell? ⟨w.heap.size, 1, none⟩ = some (.string ⟨#[]⟩) := fun v => by
        rw [World.cell?_setCell_other _ _ _ _ (by simp)]; exact r1
      have hfin := fun (x y : Value) => heap_two (x := x) (y := y) hst7
      have HF := Lib.hid hfin
      clear hfin rf kf
      go_wp2_with fail
      refine bodyPost_ret (v := .agg #[.int .i64 _, .string t]) ?_ rfl ⟨_, t, rfl, hv, ?_, ?_⟩
      · have e0 := fun v => World.cell?_setCell_same (v := v) w7 _ r0
        have e1 := fun u v => World.cell?_setCell_same (v := v) _ _ (r1' u)
        simp [results, Try.results25, go_sem, e0, e1]
        done
      · exact (hd7.grown (set_grown w7 w.heap.size 0 _) (fun e => by injection e; omega) (fun k hk => by injection hk; omega)).grown (set_grown _ w.heap.size 1 _) (fun e => by injection e; omega) (fun k hk => by injection hk; omega)
      · exact grown_new (grown_new hgw7 (set_grown w7 w.heap.size 0 _) (fun b hb => by injection hb; omega)) (set_grown _ w.heap.size 1 _) (fun b hb => by injection hb; omega)
    · obtain ⟨M, z, hmk, hcz, hvz⟩ := made63 w7
      have hal := World.grownBy_alloc w7 (.cells M 5) (none : Option Nat)
      have hst8 := (hal.block w.heap.size (lt_of_some hst7) (by simp)).trans hst7
      have hsu8 := (hal.block F (lt_of_some hsu7) (by simp)).trans hsu7
      have hd8 := hd7.grown hal (by simp) (fun k hk => by cases hk)
      have hgw8 := grown_new hgw7 hal (fun b hb => by cases hb)
      obtain ⟨k0, k1, kf⟩ := pair_cells hsu8
      have kf0 := kf 0
      have kf1 := kf 1
      have k1' : ∀ v, ((w7.alloc (.cells M 5)).setCell ⟨F, 0, none⟩ v).cell? ⟨F, 1, none⟩ = some (.string t) := fun v => by
        rw [World.cell?_setCell_other _ _ _ _ (by simp)]; exact k1
      have a0 := fun v => World.cell?_setCell_same (v := v) _ _ k0
      have a1 := fun u v => World.cell?_setCell_same (v := v) _ _ (k1' u)
      obtain ⟨r0, r1, rf⟩ := pair_cells hst8
      have rf0 := rf 0
      have rf1 := rf 1
      have q0 : ∀ u v, (((w7.alloc (.cells M 5)).setCell ⟨F, 0, none⟩ u).setCell ⟨F, 1, none⟩ v).cell? ⟨w.heap.size, 0, none⟩ = some (.int .i64 0) := fun u v => by
        rw [World.cell?_setCell_other _ _ _ _ (by first | (simp; done) | (simp; omega)), World.cell?_setCell_other _ _ _ _ (by first | (simp; done) | (simp; omega))]; exact r0
      have q1 : ∀ u v x, ((((w7.alloc (.cells M 5)).setCell ⟨F, 0, none⟩ u).setCell ⟨F, 1, none⟩ v).setCell ⟨w.heap.size, 0, none⟩ x).cell? ⟨w.heap.size, 1, none⟩ = some (.string ⟨#[]⟩) := fun u v x => by
        rw [World.cell?_setCell_other _ _ _ _ (by simp), World.cell?_setCell_other _ _ _ _ (by first | (simp; done) | (simp; omega)), World.cell?_setCell_other _ _ _ _ (by first | (simp; done) | (simp; omega))]; exact r1
      have HA := Lib.hid r1
      clear rf kf r0 r1 hst7 hsu7
      go_wp2_with fail
      refine bodyPost_ret (v := .agg #[.int .i64 0, .string z]) ?_ rfl ⟨0, z, rfl, hvz, ?_, ?_⟩
      · have e0 := fun u v x => World.cell?_setCell_same (v := x) _ _ (q0 u v)
        have e1 := fun u v x y => World.cell?_setCell_same (v := y) _ _ (q1 u v x)
        simp [results, Try.results25, go_sem, e0, e1]
      · exact (((hd8.grown (set_grown _ F 0 _) (fun e => by injection e; omega) (fun k hk => by injection hk; omega)).grown (set_grown _ F 1 _) (fun e => by injection e; omega) (fun k hk => by injection hk; omega)).grown (set_grown _ w.heap.size 0 _) (fun e => by injection e; omega) (fun k hk => by injection hk; omega)).grown (set_grown _ w.heap.size 1 _) (fun e => by injection e; omega) (fun k hk => by injection hk; omega)
      · exact grown_new (grown_new (grown_new (grown_new hgw8 (set_grown _ F 0 _) (fun b hb => by injection hb; omega)) (set_grown _ F 1 _) (fun b hb => by injection hb; omega)) (set_grown _ w.heap.size 0 _) (fun b hb => by injection hb; omega)) (set_grown _ w.heap.size 1 _) (fun b hb => by injection hb; omega)
  · by_cases h3 : q % 4 = 3
    · have t3 : (((q : Int) % 4) == 3) = true := by rw [beq_iff_eq]; omega
      go_wp2_with fail
      refine (hd4.text_at _ (q + 1) _ (by omega) (by decide) (by decide) (by omega)).mono ?_
      rintro e w5 ⟨t, rfl, ht, hall, hd5, hg5⟩
      have hv := vld2_of ht (by omega) (by omega) hall
      clear ht hall
      have hst5 := (hg5.block w.heap.size (lt_of_some hst4) (fun e => by injection e; omega)).trans hst4
      have hsu5 := (hg5.block F (lt_of_some hsu4) (fun e => by injection e; omega)).trans hsu4
      have hgw5 := grown_trans hgw4 hg5
      obtain ⟨k0, k1, kf⟩ := pair_cells hsu5
      have kf1 := kf 1
      clear kf hst4 hsu4 hgw4 hg5 c0 c1 hf hd4
      go_wp2_with fail
      have hst6 : (w5.setCell ⟨F, 1, none⟩ (.string t)).heap[w.heap.size]? = some (.cells #[.int .i64 0, .string ⟨#[]⟩] 23 (0, 0)) := (heap_setCell_other w5 ⟨F, 1, none⟩ _ _ (fun e => by simp at e; omega)).trans hst5
      have hsu6 := heap_setCell_same w5 F 1 _ _ (.string t) hsu5
      have hd6 := hd5.grown (set_grown w5 F 1 (.string t)) (fun e => by injection e; omega) (fun k hk => by injection hk; omega)
      have hg6 := grown_new hgw5 (set_grown w5 F 1 (.string t)) (fun b hb => by injection hb; omega)
      generalize w5.setCell ⟨F, 1, none⟩ (.string t) = w6 at *
      clear hst5 hsu5 hgw5 k0 k1 kf1 hd5
      refine (hd6.bool 40 (by omega) (by omega)).mono ?_
      rintro e w7 ⟨b, rfl, hd7, hg7⟩
      have hst7 := (hg7.block w.heap.size (lt_of_some hst6) (fun e => by injection e; omega)).trans hst6
      have hsu7 := (hg7.block F (lt_of_some hsu6) (fun e => by injection e; omega)).trans hsu6
      have hgw7 := grown_trans hg6 hg7
      clear hst6 hsu6 hg6 hd6 hg7
      rcases b with _ | _
      · obtain ⟨r0, r1, rf⟩ := pair_cells hst7
        obtain ⟨k0, k1, kf⟩ := pair_cells hsu7
        have rf0 := rf 0
        have rf1 := rf 1
        have HR := Lib.hid r1
        have r1' : ∀ v, (w7.setCell ⟨w.heap.size, 0, none⟩ v).cell? ⟨w.heap.size, 1, none⟩ = some (.string ⟨#[]⟩) := fun v => by
          rw [World.cell?_setCell_other _ _ _ _ (by simp)]; exact r1
        have hfin := fun (x y : Value) => heap_two (x := x) (y := y) hst7
        have HF := Lib.hid hfin
        clear hfin rf kf
        go_wp2_with fail
        refine bodyPost_ret (v := .agg #[.int .i64 _, .string t]) ?_ rfl ⟨_, t, rfl, hv, ?_, ?_⟩
        · have e0 := fun v => World.cell?_setCell_same (v := v) w7 _ r0
          have e1 := fun u v => World.cell?_setCell_same (v := v) _ _ (r1' u)
          simp [results, Try.results25, go_sem, e0, e1]
          done
        · exact (hd7.grown (set_grown w7 w.heap.size 0 _) (fun e => by injection e; omega) (fun k hk => by injection hk; omega)).grown (set_grown _ w.heap.size 1 _) (fun e => by injection e; omega) (fun k hk => by injection hk; omega)
        · exact grown_new (grown_new hgw7 (set_grown w7 w.heap.size 0 _) (fun b hb => by injection hb; omega)) (set_grown _ w.heap.size 1 _) (fun b hb => by injection hb; omega)
      · obtain ⟨M, z, hmk, hcz, hvz⟩ := made63 w7
        have hal := World.grownBy_alloc w7 (.cells M 5) (none : Option Nat)
        have hst8 := (hal.block w.heap.size (lt_of_some hst7) (by simp)).trans hst7
        have hsu8 := (hal.block F (lt_of_some hsu7) (by simp)).trans hsu7
        have hd8 := hd7.grown hal (by simp) (fun k hk => by cases hk)
        have hgw8 := grown_new hgw7 hal (fun b hb => by cases hb)
        obtain ⟨k0, k1, kf⟩ := pair_cells hsu8
        have kf0 := kf 0
        have kf1 := kf 1
        have k1' : ∀ v, ((w7.alloc (.cells M 5)).setCell ⟨F, 0, none⟩ v).cell? ⟨F, 1, none⟩ = some (.string t) := fun v => by
          rw [World.cell?_setCell_other _ _ _ _ (by simp)]; exact k1
        have a0 := fun v => World.cell?_setCell_same (v := v) _ _ k0
        have a1 := fun u v => World.cell?_setCell_same (v := v) _ _ (k1' u)
        obtain ⟨r0, r1, rf⟩ := pair_cells hst8
        have rf0 := rf 0
        have rf1 := rf 1
        have q0 : ∀ u v, (((w7.alloc (.cells M 5)).setCell ⟨F, 0, none⟩ u).setCell ⟨F, 1, none⟩ v).cell? ⟨w.heap.size, 0, none⟩ = some (.int .i64 0) := fun u v => by
          rw [World.cell?_setCell_other _ _ _ _ (by first | (simp; done) | (simp; omega)), World.cell?_setCell_other _ _ _ _ (by first | (simp; done) | (simp; omega))]; exact r0
        have q1 : ∀ u v x, ((((w7.alloc (.cells M 5)).setCell ⟨F, 0, none⟩ u).setCell ⟨F, 1, none⟩ v).setCell ⟨w.heap.size, 0, none⟩ x).cell? ⟨w.heap.size, 1, none⟩ = some (.string ⟨#[]⟩) := fun u v x => by
          rw [World.cell?_setCell_other _ _ _ _ (by simp), World.cell?_setCell_other _ _ _ _ (by first | (simp; done) | (simp; omega)), World.cell?_setCell_other _ _ _ _ (by first | (simp; done) | (simp; omega))]; exact r1
        have HA := Lib.hid r1
        clear rf kf r0 r1 hst7 hsu7
        go_wp2_with fail
        refine bodyPost_ret (v := .agg #[.int .i64 0, .string z]) ?_ rfl ⟨0, z, rfl, hvz, ?_, ?_⟩
        · have e0 := fun u v x => World.cell?_setCell_same (v := x) _ _ (q0 u v)
          have e1 := fun u v x y => World.cell?_setCell_same (v := y) _ _ (q1 u v x)
          simp [results, Try.results25, go_sem, e0, e1]
        · exact (((hd8.grown (set_grown _ F 0 _) (fun e => by injection e; omega) (fun k hk => by injection hk; omega)).grown (set_grown _ F 1 _) (fun e => by injection e; omega) (fun k hk => by injection hk; omega)).grown (set_grown _ w.heap.size 0 _) (fun e => by injection e; omega) (fun k hk => by injection hk; omega)).grown (set_grown _ w.heap.size 1 _) (fun e => by injection e; omega) (fun k hk => by injection hk; omega)
        · exact grown_new (grown_new (grown_new (grown_new hgw8 (set_grown _ F 0 _) (fun b hb => by injection hb; omega)) (set_grown _ F 1 _) (fun b hb => by injection hb; omega)) (set_grown _ w.heap.size 0 _) (fun b hb => by injection hb; omega)) (set_grown _ w.heap.size 1 _) (fun b hb => by injection hb; omega)
    · have t3 : (((q : Int) % 4) == 3) = false := by rw [beq_eq_false_iff_ne]; omega
      go_wp2_with fail
      refine (hd4.text_at _ (q) _ (by omega) (by decide) (by decide) (by omega)).mono ?_
      rintro e w5 ⟨t, rfl, ht, hall, hd5, hg5⟩
      have hv := vld2_of ht (by omega) h3 hall
      clear ht hall
      have hst5 := (hg5.block w.heap.size (lt_of_some hst4) (fun e => by injection e; omega)).trans hst4
      have hsu5 := (hg5.block F (lt_of_some hsu4) (fun e => by injection e; omega)).trans hsu4
      have hgw5 := grown_trans hgw4 hg5
      obtain ⟨k0, k1, kf⟩ := pair_cells hsu5
      have kf1 := kf 1
      clear kf hst4 hsu4 hgw4 hg5 c0 c1 hf hd4
      go_wp2_with fail
      have hst6 : (w5.setCell ⟨F, 1, none⟩ (.string t)).heap[w.heap.size]? = some (.cells #[.int .i64 0, .string ⟨#[]⟩] 23 (0, 0)) := (heap_setCell_other w5 ⟨F, 1, none⟩ _ _ (fun e => by simp at e; omega)).trans hst5
      have hsu6 := heap_setCell_same w5 F 1 _ _ (.string t) hsu5
      have hd6 := hd5.grown (set_grown w5 F 1 (.string t)) (fun e => by injection e; omega) (fun k hk => by injection hk; omega)
      have hg6 := grown_new hgw5 (set_grown w5 F 1 (.string t)) (fun b hb => by injection hb; omega)
      generalize w5.setCell ⟨F, 1, none⟩ (.string t) = w6 at *
      clear hst5 hsu5 hgw5 k0 k1 kf1 hd5
      refine (hd6.bool 40 (by omega) (by omega)).mono ?_
      rintro e w7 ⟨b, rfl, hd7, hg7⟩
      have hst7 := (hg7.block w.heap.size (lt_of_some hst6) (fun e => by injection e; omega)).trans hst6
      have hsu7 := (hg7.block F (lt_of_some hsu6) (fun e => by injection e; omega)).trans hsu6
      have hgw7 := grown_trans hg6 hg7
      clear hst6 hsu6 hg6 hd6 hg7
      rcases b with _ | _
      · obtain ⟨r0, r1, rf⟩ := pair_cells hst7
        obtain ⟨k0, k1, kf⟩ := pair_cells hsu7
        have rf0 := rf 0
        have rf1 := rf 1
        have HR := Lib.hid r1
        have r1' : ∀ v, (w7.setCell ⟨w.heap.size, 0, none⟩ v).cell? ⟨w.heap.size, 1, none⟩ = some (.string ⟨#[]⟩) := fun v => by
          rw [World.cell?_setCell_other _ _ _ _ (by simp)]; exact r1
        have hfin := fun (x y : Value) => heap_two (x := x) (y := y) hst7
        have HF := Lib.hid hfin
        clear hfin rf kf
        go_wp2_with fail
        refine bodyPost_ret (v := .agg #[.int .i64 _, .string t]) ?_ rfl ⟨_, t, rfl, hv, ?_, ?_⟩
        · have e0 := fun v => World.cell?_setCell_same (v := v) w7 _ r0
          have e1 := fun u v => World.cell?_setCell_same (v := v) _ _ (r1' u)
          simp [results, Try.results25, go_sem, e0, e1]
          done
        · exact (hd7.grown (set_grown w7 w.heap.size 0 _) (fun e => by injection e; omega) (fun k hk => by injection hk; omega)).grown (set_grown _ w.heap.size 1 _) (fun e => by injection e; omega) (fun k hk => by injection hk; omega)
        · exact grown_new (grown_new hgw7 (set_grown w7 w.heap.size 0 _) (fun b hb => by injection hb; omega)) (set_grown _ w.heap.size 1 _) (fun b hb => by injection hb; omega)
      · obtain ⟨M, z, hmk, hcz, hvz⟩ := made63 w7
        have hal := World.grownBy_alloc w7 (.cells M 5) (none : Option Nat)
        have hst8 := (hal.block w.heap.size (lt_of_some hst7) (by simp)).trans hst7
        have hsu8 := (hal.block F (lt_of_some hsu7) (by simp)).trans hsu7
        have hd8 := hd7.grown hal (by simp) (fun k hk => by cases hk)
        have hgw8 := grown_new hgw7 hal (fun b hb => by cases hb)
        obtain ⟨k0, k1, kf⟩ := pair_cells hsu8
        have kf0 := kf 0
        have kf1 := kf 1
        have k1' : ∀ v, ((w7.alloc (.cells M 5)).setCell ⟨F, 0, none⟩ v).cell? ⟨F, 1, none⟩ = some (.string t) := fun v => by
          rw [World.cell?_setCell_other _ _ _ _ (by simp)]; exact k1
        have a0 := fun v => World.cell?_setCell_same (v := v) _ _ k0
        have a1 := fun u v => World.cell?_setCell_same (v := v) _ _ (k1' u)
        obtain ⟨r0, r1, rf⟩ := pair_cells hst8
        have rf0 := rf 0
        have rf1 := rf 1
        have q0 : ∀ u v, (((w7.alloc (.cells M 5)).setCell ⟨F, 0, none⟩ u).setCell ⟨F, 1, none⟩ v).cell? ⟨w.heap.size, 0, none⟩ = some (.int .i64 0) := fun u v => by
          rw [World.cell?_setCell_other _ _ _ _ (by first | (simp; done) | (simp; omega)), World.cell?_setCell_other _ _ _ _ (by first | (simp; done) | (simp; omega))]; exact r0
        have q1 : ∀ u v x, ((((w7.alloc (.cells M 5)).setCell ⟨F, 0, none⟩ u).setCell ⟨F, 1, none⟩ v).setCell ⟨w.heap.size, 0, none⟩ x).cell? ⟨w.heap.size, 1, none⟩ = some (.string ⟨#[]⟩) := fun u v x => by
          rw [World.cell?_setCell_other _ _ _ _ (by simp), World.cell?_setCell_other _ _ _ _ (by first | (simp; done) | (simp; omega)), World.cell?_setCell_other _ _ _ _ (by first | (simp; done) | (simp; omega))]; exact r1
        have HA := Lib.hid r1
        clear rf kf r0 r1 hst7 hsu7
        go_wp2_with fail
        refine bodyPost_ret (v := .agg #[.int .i64 0, .string z]) ?_ rfl ⟨0, z, rfl, hvz, ?_, ?_⟩
        · have e0 := fun u v x => World.cell?_setCell_same (v := x) _ _ (q0 u v)
          have e1 := fun u v x y => World.cell?_setCell_same (v := y) _ _ (q1 u v x)
          simp [results, Try.results25, go_sem, e0, e1]
        · exact (((hd8.grown (set_grown _ F 0 _) (fun e => by injection e; omega) (fun k hk => by injection hk; omega)).grown (set_grown _ F 1 _) (fun e => by injection e; omega) (fun k hk => by injection hk; omega)).grown (set_grown _ w.heap.size 0 _) (fun e => by injection e; omega) (fun k hk => by injection hk; omega)).grown (set_grown _ w.heap.size 1 _) (fun e => by injection e; omega) (fun k hk => by injection hk; omega)
        · exact grown_new (grown_new (grown_new (grown_new hgw8 (set_grown _ F 0 _) (fun b hb => by injection hb; omega)) (set_grown _ F 1 _) (fun b hb => by injection hb; omega)) (set_grown _ w.heap.size 0 _) (fun b hb => by injection hb; omega)) (set_grown _ w.heap.size 1 _) (fun b hb => by injection hb; omega)
  · by_cases h3 : q = 1
    · have t3 : ((q : Int) == 1) = true := by rw [beq_iff_eq]; omega
      go_wp2_with fail
      refine (hd4.text_at _ (2) _ (by omega) (by decide) (by decide) (by omega)).mono ?_
      rintro e w5 ⟨t, rfl, ht, hall, hd5, hg5⟩
      have hv := vld3_of ht (by omega) (by omega)
      clear ht hall
      have hst5 := (hg5.block w.heap.size (lt_of_some hst4) (fun e => by injection e; omega)).trans hst4
      have hsu5 := (hg5.block F (lt_of_some hsu4) (fun e => by injection e; omega)).trans hsu4
      have hgw5 := grown_trans hgw4 hg5
      obtain ⟨k0, k1, kf⟩ := pair_cells hsu5
      have kf1 := kf 1
      clear kf hst4 hsu4 hgw4 hg5 c0 c1 hf hd4
      go_wp2_with fail
      have hst6 : (w5.setCell ⟨F, 1, none⟩ (.string t)).heap[w.heap.size]? = some (.cells #[.int .i64 0, .string ⟨#[]⟩] 23 (0, 0)) := (heap_setCell_other w5 ⟨F, 1, none⟩ _ _ (fun e => by simp at e; omega)).trans hst5
      have hsu6 := heap_setCell_same w5 F 1 _ _ (.string t) hsu5
      have hd6 := hd5.grown (set_grown w5 F 1 (.string t)) (fun e => by injection e; omega) (fun k hk => by injection hk; omega)
      have hg6 := grown_new hgw5 (set_grown w5 F 1 (.string t)) (fun b hb => by injection hb; omega)
      generalize w5.setCell ⟨F, 1, none⟩ (.string t) = w6 at *
      clear hst5 hsu5 hgw5 k0 k1 kf1 hd5
      refine (hd6.bool 40 (by omega) (by omega)).mono ?_
      rintro e w7 ⟨b, rfl, hd7, hg7⟩
      have hst7 := (hg7.block w.heap.size (lt_of_some hst6) (fun e => by injection e; omega)).trans hst6
      have hsu7 := (hg7.block F (lt_of_some hsu6) (fun e => by injection e; omega)).trans hsu6
      have hgw7 := grown_trans hg6 hg7
      clear hst6 hsu6 hg6 hd6 hg7
      rcases b with _ | _
      · obtain ⟨r0, r1, rf⟩ := pair_cells hst7
        obtain ⟨k0, k1, kf⟩ := pair_cells hsu7
        have rf0 := rf 0
        have rf1 := rf 1
        have HR := Lib.hid r1
        have r1' : ∀ v, (w7.setCell ⟨w.heap.size, 0, none⟩ v).cell? ⟨w.heap.size, 1, none⟩ = some (.string ⟨#[]⟩) := fun v => by
          rw [World.cell?_setCell_other _ _ _ _ (by simp)]; exact r1
        have hfin := fun (x y : Value) => heap_two (x := x) (y := y) hst7
        have HF := Lib.hid hfin
        clear hfin rf kf
        go_wp2_with fail
        refine bodyPost_ret (v := .agg #[.int .i64 _, .string t]) ?_ rfl ⟨_, t, rfl, hv, ?_, ?_⟩
        · have e0 := fun v => World.cell?_setCell_same (v := v) w7 _ r0
          have e1 := fun u v => World.cell?_setCell_same (v := v) _ _ (r1' u)
          simp [results, Try.results25, go_sem, e0, e1]
          done
        · exact (hd7.grown (set_grown w7 w.heap.size 0 _) (fun e => by injection e; omega) (fun k hk => by injection hk; omega)).grown (set_grown _ w.heap.size 1 _) (fun e => by injection e; omega) (fun k hk => by injection hk; omega)
        · exact grown_new (grown_new hgw7 (set_grown w7 w.heap.size 0 _) (fun b hb => by injection hb; omega)) (set_grown _ w.heap.size 1 _) (fun b hb => by injection hb; omega)
      · obtain ⟨M, z, hmk, hcz, hvz⟩ := made63 w7
        have hal := World.grownBy_alloc w7 (.cells M 5) (none : Option Nat)
        have hst8 := (hal.block w.heap.size (lt_of_some hst7) (by simp)).trans hst7
        have hsu8 := (hal.block F (lt_of_some hsu7) (by simp)).trans hsu7
        have hd8 := hd7.grown hal (by simp) (fun k hk => by cases hk)
        have hgw8 := grown_new hgw7 hal (fun b hb => by cases hb)
        obtain ⟨k0, k1, kf⟩ := pair_cells hsu8
        have kf0 := kf 0
        have kf1 := kf 1
        have k1' : ∀ v, ((w7.alloc (.cells M 5)).setCell ⟨F, 0, none⟩ v).cell? ⟨F, 1, none⟩ = some (.string t) := fun v => by
          rw [World.cell?_setCell_other _ _ _ _ (by simp)]; exact k1
        have a0 := fun v => World.cell?_setCell_same (v := v) _ _ k0
        have a1 := fun u v => World.cell?_setCell_same (v := v) _ _ (k1' u)
        obtain ⟨r0, r1, rf⟩ := pair_cells hst8
        have rf0 := rf 0
        have rf1 := rf 1
        have q0 : ∀ u v, (((w7.alloc (.cells M 5)).setCell ⟨F, 0, none⟩ u).setCell ⟨F, 1, none⟩ v).cell? ⟨w.heap.size, 0, none⟩ = some (.int .i64 0) := fun u v => by
          rw [World.cell?_setCell_other _ _ _ _ (by first | (simp; done) | (simp; omega)), World.cell?_setCell_other _ _ _ _ (by first | (simp; done) | (simp; omega))]; exact r0
        have q1 : ∀ u v x, ((((w7.alloc (.cells M 5)).setCell ⟨F, 0, none⟩ u).setCell ⟨F, 1, none⟩ v).setCell ⟨w.heap.size, 0, none⟩ x).cell? ⟨w.heap.size, 1, none⟩ = some (.string ⟨#[]⟩) := fun u v x => by
          rw [World.cell?_setCell_other _ _ _ _ (by simp), World.cell?_setCell_other _ _ _ _ (by first | (simp; done) | (simp; omega)), World.cell?_setCell_other _ _ _ _ (by first | (simp; done) | (simp; omega))]; exact r1
        have HA := Lib.hid r1
        clear rf kf r0 r1 hst7 hsu7
        go_wp2_with fail
        refine bodyPost_ret (v := .agg #[.int .i64 0, .string z]) ?_ rfl ⟨0, z, rfl, hvz, ?_, ?_⟩
        · have e0 := fun u v x => World.cell?_setCell_same (v := x) _ _ (q0 u v)
          have e1 := fun u v x y => World.cell?_setCell_same (v := y) _ _ (q1 u v x)
          simp [results, Try.results25, go_sem, e0, e1]
        · exact (((hd8.grown (set_grown _ F 0 _) (fun e => by injection e; omega) (fun k hk => by injection hk; omega)).grown (set_grown _ F 1 _) (fun e => by injection e; omega) (fun k hk => by injection hk; omega)).grown (set_grown _ w.heap.size 0 _) (fun e => by injection e; omega) (fun k hk => by injection hk; omega)).grown (set_grown _ w.heap.size 1 _) (fun e => by injection e; omega) (fun k hk => by injection hk; omega)
        · exact grown_new (grown_new (grown_new (grown_new hgw8 (set_grown _ F 0 _) (fun b hb => by injection hb; omega)) (set_grown _ F 1 _) (fun b hb => by injection hb; omega)) (set_grown _ w.heap.size 0 _) (fun b hb => by injection hb; omega)) (set_grown _ w.heap.size 1 _) (fun b hb => by injection hb; omega)
    · have t3 : ((q : Int) == 1) = false := by rw [beq_eq_false_iff_ne]; omega
      go_wp2_with fail
      refine (hd4.text_at _ (q) _ (by omega) (by decide) (by decide) (by omega)).mono ?_
      rintro e w5 ⟨t, rfl, ht, hall, hd5, hg5⟩
      have hv := vld3_of ht (by omega) h3
      clear ht hall
      have hst5 := (hg5.block w.heap.size (lt_of_some hst4) (fun e => by injection e; omega)).trans hst4
      have hsu5 := (hg5.block F (lt_of_some hsu4) (fun e => by injection e; omega)).trans hsu4
      have hgw5 := grown_trans hgw4 hg5
      obtain ⟨k0, k1, kf⟩ := pair_cells hsu5
      have kf1 := kf 1
      clear kf hst4 hsu4 hgw4 hg5 c0 c1 hf hd4
      go_wp2_with fail
      have hst6 : (w5.setCell ⟨F, 1, none⟩ (.string t)).heap[w.heap.size]? = some (.cells #[.int .i64 0, .string ⟨#[]⟩] 23 (0, 0)) := (heap_setCell_other w5 ⟨F, 1, none⟩ _ _ (fun e => by simp at e; omega)).trans hst5
      have hsu6 := heap_setCell_same w5 F 1 _ _ (.string t) hsu5
      have hd6 := hd5.grown (set_grown w5 F 1 (.string t)) (fun e => by injection e; omega) (fun k hk => by injection hk; omega)
      have hg6 := grown_new hgw5 (set_grown w5 F 1 (.string t)) (fun b hb => by injection hb; omega)
      generalize w5.setCell ⟨F, 1, none⟩ (.string t) = w6 at *
      clear hst5 hsu5 hgw5 k0 k1 kf1 hd5
      refine (hd6.bool 40 (by omega) (by omega)).mono ?_
      rintro e w7 ⟨b, rfl, hd7, hg7⟩
      have hst7 := (hg7.block w.heap.size (lt_of_some hst6) (fun e => by injection e; omega)).trans hst6
      have hsu7 := (hg7.block F (lt_of_some hsu6) (fun e => by injection e; omega)).trans hsu6
      have hgw7 := grown_trans hg6 hg7
      clear hst6 hsu6 hg6 hd6 hg7
      rcases b with _ | _
      · obtain ⟨r0, r1, rf⟩ := pair_cells hst7
        obtain ⟨k0, k1, kf⟩ := pair_cells hsu7
        have rf0 := rf 0
        have rf1 := rf 1
        have HR := Lib.hid r1
        have r1' : ∀ v, (w7.setCell ⟨w.heap.size, 0, none⟩ v).cell? ⟨w.heap.size, 1, none⟩ = some (.string ⟨#[]⟩) := fun v => by
          rw [World.cell?_setCell_other _ _ _ _ (by simp)]; exact r1
        have hfin := fun (x y : Value) => heap_two (x := x) (y := y) hst7
        have HF := Lib.hid hfin
        clear hfin rf kf
        go_wp2_with fail
        refine bodyPost_ret (v := .agg #[.int .i64 _, .string t]) ?_ rfl ⟨_, t, rfl, hv, ?_, ?_⟩
        · have e0 := fun v => World.cell?_setCell_same (v := v) w7 _ r0
          have e1 := fun u v => World.cell?_setCell_same (v := v) _ _ (r1' u)
          simp [results, Try.results25, go_sem, e0, e1]
          done
        · exact (hd7.grown (set_grown w7 w.heap.size 0 _) (fun e => by injection e; omega) (fun k hk => by injection hk; omega)).grown (set_grown _ w.heap.size 1 _) (fun e => by injection e; omega) (fun k hk => by injection hk; omega)
        · exact grown_new (grown_new hgw7 (set_grown w7 w.heap.size 0 _) (fun b hb => by injection hb; omega)) (set_grown _ w.heap.size 1 _) (fun b hb => by injection hb; omega)
      · obtain ⟨M, z, hmk, hcz, hvz⟩ := made63 w7
        have hal := World.grownBy_alloc w7 (.cells M 5) (none : Option Nat)
        have hst8 := (hal.block w.heap.size (lt_of_some hst7) (by simp)).trans hst7
        have hsu8 := (hal.block F (lt_of_some hsu7) (by simp)).trans hsu7
        have hd8 := hd7.grown hal (by simp) (fun k hk => by cases hk)
        have hgw8 := grown_new hgw7 hal (fun b hb => by cases hb)
        obtain ⟨k0, k1, kf⟩ := pair_cells hsu8
        have kf0 := kf 0
        have kf1 := kf 1
        have k1' : ∀ v, ((w7.alloc (.cells M 5)).setCell ⟨F, 0, none⟩ v).cell? ⟨F, 1, none⟩ = some (.string t) := fun v => by
          rw [World.cell?_setCell_other _ _ _ _ (by simp)]; exact k1
        have a0 := fun v => World.cell?_setCell_same (v := v) _ _ k0
        have a1 := fun u v => World.cell?_setCell_same (v := v) _ _ (k1' u)
        obtain ⟨r0, r1, rf⟩ := pair_cells hst8
        have rf0 := rf 0
        have rf1 := rf 1
        have q0 : ∀ u v, (((w7.alloc (.cells M 5)).setCell ⟨F, 0, none⟩ u).setCell ⟨F, 1, none⟩ v).cell? ⟨w.heap.size, 0, none⟩ = some (.int .i64 0) := fun u v => by
          rw [World.cell?_setCell_other _ _ _ _ (by first | (simp; done) | (simp; omega)), World.cell?_setCell_other _ _ _ _ (by first | (simp; done) | (simp; omega))]; exact r0
        have q1 : ∀ u v x, ((((w7.alloc (.cells M 5)).setCell ⟨F, 0, none⟩ u).setCell ⟨F, 1, none⟩ v).setCell ⟨w.heap.size, 0, none⟩ x).cell? ⟨w.heap.size, 1, none⟩ = some (.string ⟨#[]⟩) := fun u v x => by
          rw [World.cell?_setCell_other _ _ _ _ (by simp), World.cell?_setCell_other _ _ _ _ (by first | (simp; done) | (simp; omega)), World.cell?_setCell_other _ _ _ _ (by first | (simp; done) | (simp; omega))]; exact r1
        have HA := Lib.hid r1
        clear rf kf r0 r1 hst7 hsu7
        go_wp2_with fail
        refine bodyPost_ret (v := .agg #[.int .i64 0, .string z]) ?_ rfl ⟨0, z, rfl, hvz, ?_, ?_⟩
        · have e0 := fun u v x => World.cell?_setCell_same (v := x) _ _ (q0 u v)
          have e1 := fun u v x y => World.cell?_setCell_same (v := y) _ _ (q1 u v x)
          simp [results, Try.results25, go_sem, e0, e1]
        · exact (((hd8.grown (set_grown _ F 0 _) (fun e => by injection e; omega) (fun k hk => by injection hk; omega)).grown (set_grown _ F 1 _) (fun e => by injection e; omega) (fun k hk => by injection hk; omega)).grown (set_grown _ w.heap.size 0 _) (fun e => by injection e; omega) (fun k hk => by injection hk; omega)).grown (set_grown _ w.heap.size 1 _) (fun e => by injection e; omega) (fun k hk => by injection hk; omega)
        · exact grown_new (grown_new (grown_new (grown_new hgw8 (set_grown _ F 0 _) (fun b hb => by injection hb; omega)) (set_grown _ F 1 _) (fun b hb => by injection hb; omega)) (set_grown _ w.heap.size 0 _) (fun b hb => by injection hb; omega)) (set_grown _ w.heap.size 1 _) (fun b hb => by injection hb; omega)
end Go.Proofs.Ytkhdldemhaifpaa.Made
