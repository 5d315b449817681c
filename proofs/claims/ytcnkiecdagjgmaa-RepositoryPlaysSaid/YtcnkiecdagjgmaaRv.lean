/- Walks: what RepositoryPlays calls: scripts, their length, lists of IDs. -/
import Derived.Test.YtcnkiecdagjgmaaRu
namespace Go.Proofs.Ytcnkiecdagjgmaa.R11
open Go.RowKit Go.Proofs.Ytcnkiecdagjgmaa.Mem Go.Proofs.Ytcnkiecdagjgmaa.Made
set_option maxRecDepth 100000
set_option maxHeartbeats 1000000

/-- One thing that a repository is told. -/
structure Do2 where
  kind : Int
  a : Int
  b : Int
  id : Nat
  other : Nat
  wrong : Bool
  A : Option Addr
  n : Nat
  c : Nat
  data : List UInt8
structure DoIn (B : Nat) (w : World) (p : Addr) (x : Do2) : Prop where
  k1 : -9223372036854775808 ≤ x.kind
  k2 : x.kind ≤ 9223372036854775807
  a1 : -9223372036854775808 ≤ x.a
  a2 : x.a ≤ 9223372036854775807
  b1 : -9223372036854775808 ≤ x.b
  b2 : x.b ≤ 9223372036854775807
  i1 : x.id ≤ 65535
  o1 : x.other ≤ 65535
  len : x.n = x.data.length
  cap : x.n ≤ x.c
  max : x.c ≤ maxLen
  nil : x.A = none → x.c = 0
  row : Row B w x.A x.data
  c0 : w.cell? p = some (.int .i64 x.kind)
  c1 : w.cell? ⟨p.block, p.off + 1, none⟩ = some (.int .i64 x.a)
  c2 : w.cell? ⟨p.block, p.off + 2, none⟩ = some (.int .i64 x.b)
  c3 : w.cell? ⟨p.block, p.off + 3, none⟩ = some (.int .u16 (x.id : Int))
  c4 : w.cell? ⟨p.block, p.off + 4, none⟩ = some (.int .u16 (x.other : Int))
  c5 : w.cell? ⟨p.block, p.off + 5, none⟩ = some (.bool x.wrong)
  c6 : w.cell? ⟨p.block, p.off + 6, none⟩ = some (.slice x.A x.n x.c)
structure Scr (B : Nat) (w : World) (A : Option Addr) (n c : Nat) (l : List Do2) : Prop where
  len : n = l.length
  cap : n ≤ c
  max : c ≤ maxLen
  nil : A = none → c = 0
  each : ∀ k (h : k < l.length), ∃ a, A = some a ∧ a.block < B ∧ DoIn B w (a.add (k * 7)) l[k]
theorem DoIn.below {B : Nat} {w w' : World} {p : Addr} {x : Do2} (h : DoIn B w p x) (hb : Below B w w') (hp : p.block < B) : DoIn B w' p x := by
  have hc : ∀ i, w'.cell? ⟨p.block, p.off + i, none⟩ = w.cell? ⟨p.block, p.off + i, none⟩ := fun i => hb.cell hp
  exact ⟨h.k1, h.k2, h.a1, h.a2, h.b1, h.b2, h.i1, h.o1, h.len, h.cap, h.max, h.nil, h.row.below hb, (hb.cell hp).trans h.c0, (hc 1).trans h.c1, (hc 2).trans h.c2, (hc 3).trans h.c3, (hc 4).trans h.c4, (hc 5).trans h.c5, (hc 6).trans h.c6⟩
theorem Scr.below {B : Nat} {w w' : World} {A : Option Addr} {n c : Nat} {l : List Do2} (h : Scr B w A n c l) (hb : Below B w w') : Scr B w' A n c l :=
  ⟨h.len, h.cap, h.max, h.nil, fun k hk => by
    obtain ⟨a, e, h1, h2⟩ := h.each k hk
    exact ⟨a, e, h1, h2.below hb (by rw [add_block]; exact h1)⟩⟩
theorem DoIn.sl {B : Nat} {w : World} {p : Addr} {x : Do2} (h : DoIn B w p x) (hB : B ≤ w.heap.size) : Sl w x.A x.n x.c x.data := ⟨h.len, h.row.more hB, h.cap, h.max, h.nil⟩
def lightB (l : List Do2) : Bool := decide (l.length ≤ 100) && l.all fun x => decide (x.data.length ≤ 300)
theorem light_any (B : Nat) (A : Option Addr) (n c : Nat) (l : List Do2) (w : World) (h : Scr B w A n c l) :
    Calls Try.prog 47 #[.slice A n c] w fun e w' => e = .returned (.bool (lightB l)) ∧ ∃ q, w' = w.drewN q := by
  have hn := h.len
  have hmx := h.max
  have hcp := h.cap
  unfold maxLen at hmx
  obtain ⟨R, hR⟩ : ∃ R, R = lightB l := ⟨_, rfl⟩
  rw [← hR]
  have HR := Lib.hid hR; clear hR
  by_cases h100 : 100 < n
  · have g : decide (100 < (n : Int)) = true := by simp; omega
    have HN := Lib.hid hn; clear hn
    go_enter Try.func47, Try.ntmps47
    go_wp2_with fail
    go_ret
    refine ⟨ret_bool ?_, 0, rfl⟩
    have := HN.out
    rw [HR.out]
    unfold lightB
    have : decide (l.length ≤ 100) = false := by simp; omega
    simp [this]
  · have g : decide (100 < (n : Int)) = false := by simp; omega
    have HN := Lib.hid hn; clear hn
    go_enter Try.func47, Try.ntmps47
    go_wp2_with fail
    go_loop [3] (fun i => ∃ k : Nat, k ≤ n ∧ i = .int .i64 k ∧ (l.take k).all (fun x => decide (x.data.length ≤ 300)) = true) (fun i => n - (intOf i).toNat)
    case atStart => exact ⟨0, Nat.zero_le _, rfl, rfl⟩
    case round =>
      obtain ⟨k, hk, rfl, hall⟩ := hrel
      have HA := Lib.hid hall; clear hall
      by_cases hlt : k < n
      · have hkl : k < l.length := by have := HN.out; omega
        obtain ⟨a, rfl, ha, hd⟩ := h.each k hkl
        have c4 := hd.c6
        have hmx2 := hd.max
        have hcp2 := hd.cap
        have hln := hd.len
        unfold maxLen at hmx2
        have HL := Lib.hid hln; clear hln
        have b1 : (0 : Int) ≤ (k : Int) := by omega
        have b2 : (k : Int) < (n : Int) := by omega
        by_cases h2 : 300 < l[k].n
        · have g2 : decide (300 < (l[k].n : Int)) = true := by simp; omega
          go_wp2_with fail
          go_ret
          refine ⟨ret_bool ?_, 0, rfl⟩
          rw [HR.out]
          unfold lightB
          have : l.all (fun x => decide (x.data.length ≤ 300)) = false := by
            rw [List.all_eq_false]
            exact ⟨l[k], List.getElem_mem hkl, by have := HL.out; simp; omega⟩
          rw [this, Bool.and_false]
        · have g2 : decide (300 < (l[k].n : Int)) = false := by simp; omega
          go_wp2_with fail
          go_round
          case rel =>
            refine ⟨k + 1, by omega, by go_num, ?_⟩
            rw [List.take_succ_eq_append_getElem hkl, List.all_append, HA.out]
            have := HL.out
            simp; omega
          case measure => simp [intOf]; omega
      · obtain rfl : k = n := by omega
        go_wp2_with fail
        go_ret
        refine ⟨ret_bool ?_, 0, rfl⟩
        rw [HR.out]
        unfold lightB
        have h1 := HA.out
        have h2 := HN.out
        rw [List.take_of_length_le (by omega)] at h1
        have : decide (l.length ≤ 100) = true := by simp; omega
        rw [h1, this]
        rfl
theorem sameids_p {B1 B2 : Nat} {w : World} {A A' : Option Addr} {n n' c c' : Nat} {l : List Nat} (h : HOwn B1 w (.slice A n c) l) (h' : HOwn B2 w (.slice A' n' c') l) (hl : l.length ≤ 1000) :
    Calls Try.prog 65 #[.slice A n c, .slice A' n' c'] w fun e w' => e = .returned (.bool true) ∧ Below w.heap.size w w' := by
  have hn : n = l.length := by
    obtain ⟨A0, n0, c0, hv, h0, -, -⟩ := h.form
    injection hv with e1 e2
    rw [e2, h0]
  have hn' : n' = n := by
    obtain ⟨A0, n0, c0, hv, h0, -, -⟩ := h'.form
    injection hv with e1 e2
    rw [e2, h0, hn]
  subst hn'
  have HH := Lib.hid h
  have HH' := Lib.hid h'
  have HN := Lib.hid hn
  have hn1 : n' ≤ 1000 := by omega
  have m1 : ((n' : Int) != (n' : Int)) = false := by simp
  clear h h' hn
  go_enter Try.func65, Try.ntmps65
  go_wp2_with fail
  go_loopw [5] (fun v wr => ∃ k q : Nat, k ≤ n' ∧ v = .int .i64 (k : Int) ∧ wr = w.drewN q) (fun v _ => n' - (intOf v).toNat)
  case atStart => exact ⟨0, 0, Nat.zero_le _, rfl, rfl⟩
  case round =>
    obtain ⟨k, q, hk, rfl, rfl⟩ := hrel
    rcases Nat.lt_or_ge k n' with hlt | hge
    · have hkl : k < l.length := by rw [← HN.out]; exact hlt
      obtain ⟨a, rfl, -, hc⟩ := HH.out.at_ hkl
      obtain ⟨a', rfl, -, hc'⟩ := HH'.out.at_ hkl
      have n1 : (k : Int) < (n' : Int) := by omega
      have n2 : (0 : Int) ≤ (k : Int) := by omega
      generalize l[k] = X at *
      have m2 : ((X : Int) != (X : Int)) = false := by simp
      go_wp2_with fail
      go_quiet (fail)
      go_wp2_with fail
      first
        | exact ⟨⟨k + 1, _, by omega, by go_num, rfl⟩, by simp [intOf]; omega⟩
        | (go_goals; fail)
    · have n1 : ¬ (k : Int) < (n' : Int) := by omega
      go_wp2_with fail
      go_ret
      exact ⟨rfl, below_of_drawn⟩
end Go.Proofs.Ytcnkiecdagjgmaa.R11
