/- Walks: what the statements about flash devices call: scripts, the sanity check, offsets. -/
import Derived.Test.YtkmkpidoajfhmaaE5c
import Derived.Test.YtkmkpidoajfhmaaMade
import Derived.Test.YtkmkpidoajfhmaaSame
namespace Go.Proofs.Ytkmkpidoajfhmaa.E5d
open Go.RowKit Go.Proofs.Ytkmkpidoajfhmaa.Mem Go.Proofs.Ytkmkpidoajfhmaa.E5p Go.Proofs.Ytkmkpidoajfhmaa.E5m Go.Proofs.Ytkmkpidoajfhmaa.E5a Go.Proofs.Ytkmkpidoajfhmaa.Made Go.Proofs.Ytkmkpidoajfhmaa.Same
set_option maxRecDepth 100000
set_option maxHeartbeats 400000

/-- One thing that a device is told. -/
structure Do1 where
  kind : Int
  a : Int
  b : Int
  torn : UInt8
  A : Option Addr
  n : Nat
  c : Nat
  data : List UInt8
structure DoIn (B : Nat) (w : World) (p : Addr) (x : Do1) : Prop where
  k1 : -9223372036854775808 ≤ x.kind
  k2 : x.kind ≤ 9223372036854775807
  a1 : -9223372036854775808 ≤ x.a
  a2 : x.a ≤ 9223372036854775807
  b1 : -9223372036854775808 ≤ x.b
  b2 : x.b ≤ 9223372036854775807
  len : x.n = x.data.length
  cap : x.n ≤ x.c
  max : x.c ≤ maxLen
  nil : x.A = none → x.c = 0
  row : Row B w x.A x.data
  c0 : w.cell? p = some (.int .i64 x.kind)
  c1 : w.cell? ⟨p.block, p.off + 1, none⟩ = some (.int .i64 x.a)
  c2 : w.cell? ⟨p.block, p.off + 2, none⟩ = some (.int .i64 x.b)
  c3 : w.cell? ⟨p.block, p.off + 3, none⟩ = some (.int .u8 (x.torn.toNat : Int))
  c4 : w.cell? ⟨p.block, p.off + 4, none⟩ = some (.slice x.A x.n x.c)
/-- A script in memory below block B. -/
structure Scr (B : Nat) (w : World) (A : Option Addr) (n c : Nat) (l : List Do1) : Prop where
  len : n = l.length
  cap : n ≤ c
  max : c ≤ maxLen
  nil : A = none → c = 0
  each : ∀ k (h : k < l.length), ∃ a, A = some a ∧ a.block < B ∧ DoIn B w (a.add (k * 5)) l[k]
theorem DoIn.below {B : Nat} {w w' : World} {p : Addr} {x : Do1} (h : DoIn B w p x) (hb : Below B w w') (hp : p.block < B) : DoIn B w' p x := by
  have hc : ∀ i, w'.cell? ⟨p.block, p.off + i, none⟩ = w.cell? ⟨p.block, p.off + i, none⟩ := fun i => hb.cell hp
  exact ⟨h.k1, h.k2, h.a1, h.a2, h.b1, h.b2, h.len, h.cap, h.max, h.nil, h.row.below hb, (hb.cell hp).trans h.c0, (hc 1).trans h.c1, (hc 2).trans h.c2, (hc 3).trans h.c3, (hc 4).trans h.c4⟩
theorem Scr.below {B : Nat} {w w' : World} {A : Option Addr} {n c : Nat} {l : List Do1} (h : Scr B w A n c l) (hb : Below B w w') : Scr B w' A n c l :=
  ⟨h.len, h.cap, h.max, h.nil, fun k hk => by
    obtain ⟨a, e, h1, h2⟩ := h.each k hk
    exact ⟨a, e, h1, h2.below hb (by rw [add_block]; exact h1)⟩⟩
theorem DoIn.sl {B : Nat} {w : World} {p : Addr} {x : Do1} (h : DoIn B w p x) (hB : B ≤ w.heap.size) : Sl w x.A x.n x.c x.data := ⟨h.len, h.row.more hB, h.cap, h.max, h.nil⟩
def lightB (l : List Do1) : Bool := decide (l.length ≤ 60) && l.all fun x => decide (x.data.length ≤ 200)
theorem light_any (B : Nat) (A : Option Addr) (n c : Nat) (l : List Do1) (w : World) (h : Scr B w A n c l) :
    Calls Try.prog 11 #[.slice A n c] w fun e w' => e = .returned (.bool (lightB l)) ∧ ∃ q, w' = w.drewN q := by
  have hn := h.len
  have hmx := h.max
  have hcp := h.cap
  unfold maxLen at hmx
  obtain ⟨R, hR⟩ : ∃ R, R = lightB l := ⟨_, rfl⟩
  rw [← hR]
  have HR := Lib.hid hR; clear hR
  by_cases h60 : 60 < n
  · have g : decide (60 < (n : Int)) = true := by simp; omega
    have HN := Lib.hid hn; clear hn
    go_enter Try.func11, Try.ntmps11
    go_wp2_with fail
    go_ret
    refine ⟨ret_bool ?_, 0, rfl⟩
    have := HN.out
    rw [HR.out]
    unfold lightB
    have : decide (l.length ≤ 60) = false := by simp; omega
    simp [this]
  · have g : decide (60 < (n : Int)) = false := by simp; omega
    have HN := Lib.hid hn; clear hn
    go_enter Try.func11, Try.ntmps11
    go_wp2_with fail
    go_loop [3] (fun i => ∃ k : Nat, k ≤ n ∧ i = .int .i64 k ∧ (l.take k).all (fun x => decide (x.data.length ≤ 200)) = true) (fun i => n - (intOf i).toNat)
    case atStart => exact ⟨0, Nat.zero_le _, rfl, rfl⟩
    case round =>
      obtain ⟨k, hk, rfl, hall⟩ := hrel
      have HA := Lib.hid hall; clear hall
      by_cases hlt : k < n
      · have hkl : k < l.length := by have := HN.out; omega
        obtain ⟨a, rfl, ha, hd⟩ := h.each k hkl
        have c4 := hd.c4
        have hmx2 := hd.max
        have hcp2 := hd.cap
        have hln := hd.len
        unfold maxLen at hmx2
        have HL := Lib.hid hln; clear hln
        have b1 : (0 : Int) ≤ (k : Int) := by omega
        have b2 : (k : Int) < (n : Int) := by omega
        by_cases h2 : 200 < l[k].n
        · have g2 : decide (200 < (l[k].n : Int)) = true := by simp; omega
          go_wp2_with fail
          go_ret
          refine ⟨ret_bool ?_, 0, rfl⟩
          rw [HR.out]
          unfold lightB
          have : l.all (fun x => decide (x.data.length ≤ 200)) = false := by
            rw [List.all_eq_false]
            exact ⟨l[k], List.getElem_mem hkl, by have := HL.out; simp; omega⟩
          rw [this, Bool.and_false]
        · have g2 : decide (200 < (l[k].n : Int)) = false := by simp; omega
          go_wp2_with fail
          go_round
          case rel =>
            refine ⟨k + 1, by omega, by go_num, ?_⟩
            rw [List.take_succ_eq_append_getElem hkl, List.all_append, HA.out]
            have := HL.out
            simp; omega
          case measure => simp [intOf]; omega
      · obtain rfl : k = n := by omega
        go_wp2_with fail
        go_ret
        refine ⟨ret_bool ?_, 0, rfl⟩
        rw [HR.out]
        unfold lightB
        have h1 := HA.out
        have h2 := HN.out
        rw [List.take_of_length_le (by omega)] at h1
        have : decide (l.length ≤ 60) = true := by simp; omega
        rw [h1, this]
        rfl
theorem light_yes {l : List Do1} (h : lightB l = true) : l.length ≤ 60 ∧ ∀ x ∈ l, x.data.length ≤ 200 := by
  simpa [lightB] using h
/-- Where an offset is brought. -/
def nearI (k : Int) (n : Nat) : Int := if k.tmod 9 = 8 then k else k % ((n + 3 : Nat) : Int) - 1
theorem nearI_bd (k : Int) (n : Nat) (h1 : -9223372036854775808 ≤ k) (h2 : k ≤ 9223372036854775807) (hn : n ≤ 1000000) : -9223372036854775808 ≤ nearI k n ∧ nearI k n ≤ 9223372036854775807 := by
  unfold nearI
  split
  · exact ⟨h1, h2⟩
  · have e0 : 0 ≤ k % ((n + 3 : Nat) : Int) := Int.emod_nonneg _ (by omega)
    have e1 : k % ((n + 3 : Nat) : Int) < ((n + 3 : Nat) : Int) := Int.emod_lt_of_pos _ (by omega)
    omega
theorem near_any (k : Int) (n : Nat) (w : World) (h1 : -9223372036854775808 ≤ k) (h2 : k ≤ 9223372036854775807) (hn : n ≤ 1000000) :
    Calls Try.prog 19 #[.int .i64 k, .int .i64 (n : Int)] w fun e w' => e = .returned (.int .i64 (nearI k n)) ∧ w = w' := by
  obtain ⟨R, hR⟩ : ∃ R, R = nearI k n := ⟨_, rfl⟩
  rw [← hR]
  have HR := Lib.hid hR; clear hR
  have hm := mod_det k (n + 3) w h1 h2 (by omega) (by omega)
  rw [show ((n + 3 : Nat) : Int) = (n : Int) + 3 from rfl] at hm
  have HM := Lib.hid hm; clear hm
  have e0 : 0 ≤ k % ((n : Int) + 3) := Int.emod_nonneg _ (by omega)
  have e1 : k % ((n : Int) + 3) < (n : Int) + 3 := Int.emod_lt_of_pos _ (by omega)
  generalize hX : k % ((n : Int) + 3) = X at *
  have HX := Lib.hid hX; clear hX
  by_cases h8 : k.tmod 9 = 8
  · have hb : (k.tmod 9 == 8) = true := by simpa using h8
    have H8 := Lib.hid h8; clear h8
    go_enter Try.func19, Try.ntmps19
    go_wp2_with fail
    go_ret
    exact ⟨ret_int (by rw [HR.out, nearI, if_pos H8.out]), rfl⟩
  · have hb : (k.tmod 9 == 8) = false := by simpa using h8
    have H8 := Lib.hid h8; clear h8
    go_enter Try.func19, Try.ntmps19
    go_wp2_with fail
    refine HM.out.mono ?_
    rintro e w1 ⟨rfl, rfl⟩
    go_wp2_with fail
    go_ret
    exact ⟨ret_int (by rw [HR.out, nearI, if_neg H8.out, ← HX.out]; rfl), rfl⟩
end Go.Proofs.Ytkmkpidoajfhmaa.E5d
