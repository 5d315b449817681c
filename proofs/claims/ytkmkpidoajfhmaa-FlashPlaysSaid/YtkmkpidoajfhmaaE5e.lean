/- Walks: what the statements about flash devices call: the sanity check, the same numbers, the made device, scripts that are played, two devices equal. -/
import Derived.Test.YtkmkpidoajfhmaaE5d
namespace Go.Proofs.Ytkmkpidoajfhmaa.E5d
open Go.RowKit Go.Proofs.Ytkmkpidoajfhmaa.Mem Go.Proofs.Ytkmkpidoajfhmaa.E5p Go.Proofs.Ytkmkpidoajfhmaa.E5m Go.Proofs.Ytkmkpidoajfhmaa.E5a Go.Proofs.Ytkmkpidoajfhmaa.Made Go.Proofs.Ytkmkpidoajfhmaa.Same
set_option maxRecDepth 100000
set_option maxHeartbeats 400000

/-- A device in a world that has kept what lay below block B in W. -/
structure At (B : Nat) (W w : World) (d : Sh) (s : Fl) (m : Nat) : Prop where
  dev : PDev B w d s
  ok : s.Ok m
  low : Below B W w
section
variable {B : Nat} {W w : World} {d : Sh} {s : Fl} {m : Nat}
theorem At.base (h : At B W w d s m) : B ≤ w.heap.size := Nat.le_of_lt (Nat.lt_of_le_of_lt h.dev.low h.dev.lg)
/-- A call on the device returned an error. -/
def Err (B : Nat) (W w : World) (d : Sh) (r : Fl × Int) (m : Nat) (e : Ending) (w' : World) : Prop := e = .returned (.int .i64 r.2) ∧ At B W w' d r.1 m ∧ Kept d w w'
def Ret (B : Nat) (W w : World) (d : Sh) (s : Fl) (m : Nat) (e : Ending) (w' : World) : Prop := e = .returned (.tuple #[]) ∧ At B W w' d s m ∧ Kept d w w'
theorem At.program (h : At B W w d s m) (hm : m ≤ 900000) (A : Option Addr) (n c : Nat) (b : List UInt8) (hb : Sl w A n c b) (hB : Off d A b) (k : Int) (hk1 : -9223372036854775808 ≤ k) (hk2 : k ≤ 9223372036854775807) (hn : n ≤ 100000) :
    Calls Try.prog 18 #[.pointer (some ⟨d.g, 0, none⟩), .int .i64 k, .slice A n c] w (Err B W w d (s.program k b) (m + n)) :=
  (program_p h.dev h.ok hm A n c b hb hB k hk1 hk2 hn).mono fun _ _ ⟨h1, h2, h3⟩ => ⟨h1, ⟨h2, by have := Fl.program_ok h.ok k b; rwa [← hb.len] at this, h3.below h.low h.dev⟩, h3⟩
theorem At.erase (h : At B W w d s m) (hm : m ≤ 900000) (k : Int) (hk1 : -9223372036854775808 ≤ k) (hk2 : k ≤ 9223372036854775807) :
    Calls Try.prog 21 #[.pointer (some ⟨d.g, 0, none⟩), .int .i64 k] w (Err B W w d (s.erase k) (m + 1)) :=
  (erase_p h.dev h.ok hm k hk1 hk2).mono fun _ _ ⟨h1, h2, h3⟩ => ⟨h1, ⟨h2, Fl.erase_ok h.ok k, h3.below h.low h.dev⟩, h3⟩
theorem At.arm (h : At B W w d s m) (k : Int) (t : UInt8) (hk1 : -9223372036854775808 ≤ k) (hk2 : k ≤ 4611686018427387904) :
    Calls Try.prog 26 #[.pointer (some ⟨d.g, 0, none⟩), .int .i64 k, .int .u8 (t.toNat : Int)] w (Ret B W w d (s.arm k t) m) :=
  (arm_p h.dev k t hk1 (by omega)).mono fun _ _ ⟨h1, h2, h3⟩ => ⟨h1, ⟨h2, Fl.arm_ok h.ok k t hk2, h3.below h.low h.dev⟩, h3⟩
theorem At.restore (h : At B W w d s m) : Calls Try.prog 28 #[.pointer (some ⟨d.g, 0, none⟩)] w (Ret B W w d s.restore m) :=
  (restore_p h.dev).mono fun _ _ ⟨h1, h2, h3⟩ => ⟨h1, ⟨h2, Fl.restore_ok h.ok, h3.below h.low h.dev⟩, h3⟩
theorem At.step (h : At B W w d s m) {w' : World} (hb : Below w.heap.size w w') : At B W w' d s m := ⟨h.dev.below hb (Nat.le_refl _), h.ok, h.low.trans (hb.mono h.base)⟩
theorem At.kept (h : At B W w d s m) {w' : World} {e : Sh} {s' : Fl} {m' : Nat} (k : Kept e w w') (ap : Apart e d) (h' : At B W w' e s' m') : At B W w' d s m := ⟨h.dev.kept k ap, h.ok, h'.low⟩
theorem below_drew {B : Nat} {a w : World} (h : Below B a w) : Below B a w.drew := ⟨h.os, h.tape, h.output, h.size, h.block⟩
theorem At.drew (h : At B W w d s m) : At B W w.drew d s m := ⟨⟨h.dev.head, h.dev.bytes, h.dev.wear, h.dev.low, h.dev.n1, h.dev.n2, h.dev.n3⟩, h.ok, below_drew h.low⟩
theorem At.drewN (h : At B W w d s m) (n : Nat) : At B W (w.drewN n) d s m := ⟨h.dev.drewN n, h.ok, below_drewN h.low⟩
/-- A row of the call's own, of known length, elsewhere. -/
theorem own_stays {base g n c : Nat} {w' : World} {l : List UInt8} (h : Own base w (.slice (some ⟨g, 0, none⟩) n c) l) (hn : l.length = n) (hg : w'.heap[g]? = w.heap[g]?) : Own base w' (.slice (some ⟨g, 0, none⟩) n c) l := by
  have h' : w.ownsRow base 5 1 (.slice (some ⟨g, 0, none⟩) n c) n (bvs l) := by
    have := h
    unfold Own at this
    rwa [hn] at this
  have := row_stays h' hg
  unfold Own
  rwa [hn]
theorem own_lt {base g n c : Nat} {l : List UInt8} (h : Own base w (.slice (some ⟨g, 0, none⟩) n c) l) (hn : l.length = n) : base ≤ g ∧ g < w.heap.size := by
  have h' : w.ownsRow base 5 1 (.slice (some ⟨g, 0, none⟩) n c) n (bvs l) := by
    have := h
    unfold Own at this
    rwa [hn] at this
  exact row_lt h'
/-- Two parts of a row. -/
theorem sl_cut {g n : Nat} {l : List UInt8} (h : Sl w (some ⟨g, 0, none⟩) n n l) {k : Nat} (hk : k < n) : Sl w (some ⟨g, k, none⟩) (n - k) (n - k) (l.drop k) := by
  have hr := row_cut (cap := n) h.row (by have := h.len; omega : k ≤ l.length) (by have := h.len; omega)
  rw [if_neg (by omega), Option.map_some, add_spot] at hr
  exact ⟨by have := h.len; simp; omega, hr, Nat.le_refl _, by have := h.max; omega, fun hh => by cases hh⟩
theorem sl_front {A : Option Addr} {n c : Nat} {l : List UInt8} (h : Sl w A n c l) {k : Nat} (hk : k ≤ n) : Sl w A k c (l.take k) :=
  ⟨by have := h.len; simp; omega, row_take h.row k, by have := h.cap; omega, h.max, h.nil⟩
/-- What reading leaves. -/
def Gets (B : Nat) (W w : World) (d : Sh) (s : Fl) (m : Nat) (r : List UInt8 × Int) (e : Ending) (w' : World) : Prop := ∃ A n c, e = .returned (.tuple #[.slice A n c, .int .i64 r.2]) ∧ Own w.heap.size w' (.slice A n c) r.1 ∧ Sl w' A n c r.1 ∧ Below w.heap.size w w' ∧ At B W w' d s m
theorem At.read (h : At B W w d s m) (k n : Int) (hk1 : -9223372036854775808 ≤ k) (hk2 : k ≤ 9223372036854775807) (hn1 : -9223372036854775808 ≤ n) (hn2 : n ≤ 9223372036854775807) :
    Calls Try.prog 23 #[.pointer (some ⟨d.g, 0, none⟩), .int .i64 k, .int .i64 n] w (Gets B W w d s m (s.read k n)) :=
  (read_p h.dev h.ok k n hk1 hk2 hn1 hn2).mono fun _ _ ⟨v, h1, h2, h3⟩ => by
    obtain ⟨A, n', c, rfl, hs⟩ := Sl.of_own h2
    exact ⟨A, n', c, h1, h2, hs, h3, h.step h3⟩
theorem At.new (a b : Nat) (h1 : 1 ≤ a) (h2 : a ≤ 16) (h3 : 64 ≤ b) (h4 : b ≤ 1024) (B : Nat) (W w : World) (hb : Below B W w) (hB : B ≤ w.heap.size) :
    Calls Try.prog 13 #[.int .i64 (a : Int), .int .i64 (b : Int)] w fun e w' => ∃ d, e = .returned (.tuple #[.pointer (some ⟨d.g, 0, none⟩), .int .i64 0]) ∧ At B W w' d (Fl.new a b) 0 ∧ Below w.heap.size w w' ∧ PDev w.heap.size w' d (Fl.new a b) :=
  (new_p a b h1 h2 h3 h4 w).mono fun _ _ ⟨d, e1, e2, e3⟩ => ⟨d, e1, ⟨e2.base_ hB, Fl.new_ok a b h1 h2 h3 h4, hb.trans (e3.mono hB)⟩, e3, e2⟩
end
def f0 : Fl := Fl.new 2 64
def f1 : Fl := f0.arm 3 255
def f2 : Fl := (f1.program 0 [1, 2, 3, 4]).1
def f3 : Fl := f2.restore
theorem f2_err : (f1.program 0 [1, 2, 3, 4]).2 = 10 := by decide
theorem f3_read : f3.read 0 4 = ([1, 2, 255, 255], 0) := by decide
theorem f3_steps : f3.steps = 3 := by decide
theorem awake_any (w : World) : Calls Try.prog 12 #[] w fun e w' => e = .returned (.bool true) ∧ Below w.heap.size w w' := by
  go_enter Try.func12, Try.ntmps12
  go_wp2_with fail
  refine (At.new 2 64 (by omega) (by omega) (by omega) (by omega) w.heap.size w w (Below.refl _ _) (Nat.le_refl _)).mono ?_
  rintro e w1 ⟨d, rfl, h1, hb1, -⟩
  go_wp2_with fail
  refine (h1.arm 3 255 (by omega) (by omega)).mono ?_
  rintro e w2 ⟨rfl, h2, -⟩
  go_wp2_with fail
  have hst : Below w2.heap.size w2 (w2.alloc (.cells #[.int .u8 1, .int .u8 2, .int .u8 3, .int .u8 4] 5)) := (Below.refl _ _).alloc (Nat.le_refl _) _
  have h3 := h2.step hst
  have hrow := row_new w2 #[.int .u8 1, .int .u8 2, .int .u8 3, .int .u8 4] 5 [1, 2, 3, 4] rfl (B := w2.heap.size + 1) (Nat.lt_succ_self _)
  refine (h3.program (by omega) (some ⟨w2.heap.size, 0, none⟩) 4 4 [1, 2, 3, 4] ⟨rfl, hrow.more (by simp), by omega, by unfold maxLen; omega, fun hh => by cases hh⟩ (Off.new h2.dev (Nat.le_refl _)) 0 (by omega) (by omega) (by omega)).mono ?_
  rintro e w3 ⟨rfl, h4, -⟩
  rw [show ((Fl.new 2 64).arm 3 255).program 0 [1, 2, 3, 4] = (f2, 10) from Prod.ext rfl f2_err] at h4 ⊢
  go_wp2_with fail
  refine h4.restore.mono ?_
  rintro e w4 ⟨rfl, h5, -⟩
  change At w.heap.size w w4 d f3 _ at h5
  go_wp2_with fail
  refine (h5.read 0 4 (by omega) (by omega) (by omega) (by omega)).mono ?_
  rintro e w5 ⟨A, n, c, rfl, ho, hs, hb5, h6⟩
  rw [f3_read] at ho hs ⊢
  go_wp2_with fail
  have hst2 : Below w5.heap.size w5 (w5.alloc (.cells #[.int .u8 1, .int .u8 2, .int .u8 255, .int .u8 255] 5)) := (Below.refl _ _).alloc (Nat.le_refl _) _
  have h7 := h6.step hst2
  have hs2 := hs.step hst2
  have hrow2 := row_new w5 #[.int .u8 1, .int .u8 2, .int .u8 255, .int .u8 255] 5 [1, 2, 255, 255] rfl (B := w5.heap.size + 1) (Nat.lt_succ_self _)
  refine (same_yes hs2 (A' := some ⟨w5.heap.size, 0, none⟩) (n' := 4) (c' := 4) ⟨rfl, hrow2.more (by simp), by omega, by unfold maxLen; omega, fun hh => by cases hh⟩).mono ?_
  rintro e w6 ⟨rfl, hb6⟩
  have h8 := h7.step hb6
  go_wp2_with fail
  have hsx := steps_p h8.dev
  rw [f3_steps] at hsx
  refine hsx.mono ?_
  rintro e w7 ⟨rfl, rfl⟩
  go_wp2_with fail
  go_ret
  exact ⟨rfl, h8.low⟩
/-- Two lists of numbers are the same. -/
theorem ints_any (A A' : Option Addr) (n n' c c' : Nat) (l l' : List Int) (w : World) (h : ISl w A n c l) (h' : ISl w A' n' c' l') :
    Calls Try.prog 43 #[.slice A n c, .slice A' n' c'] w fun e w' => e = .returned (.bool (decide (l = l'))) ∧ ∃ k, w' = w.drewN k := by
  have hn := h.len; have hn' := h'.len
  have hm := h.max; have hm' := h'.max; have hcp := h.cap; have hcp' := h'.cap
  have hr := h.row; have hr' := h'.row
  unfold maxLen at hm hm'
  subst hn hn'
  by_cases he : l.length = l'.length
  · have he' : ((l.length : Int) != (l'.length : Int)) = false := by simp [he]
    go_enter Try.func43, Try.ntmps43
    go_wp2
    go_loopw [5] (fun i wr => ∃ k : Nat, k ≤ l.length ∧ i = .int .i64 k ∧ (∃ q, wr = w.drewN q) ∧ l.take k = l'.take k) (fun i _ => l.length - (intOf i).toNat)
    case atStart => exact ⟨0, Nat.zero_le _, rfl, ⟨0, rfl⟩, rfl⟩
    case round =>
      obtain ⟨k, hk, rfl, ⟨q, rfl⟩, ht⟩ := hrel
      have HT := Lib.hid ht; clear ht
      have HE := Lib.hid he; clear he
      by_cases hlt : k < l.length
      · have hlt' : k < l'.length := HE.out ▸ hlt
        obtain ⟨a, rfl, hb, hc⟩ := irow_at hr hlt
        obtain ⟨a', rfl, hb', hc'⟩ := irow_at hr' hlt'
        go_wp2
        go_quiet (fail)
        go_wp2
        · have hne : l[k] ≠ l'[k] := by simpa using ‹(l[k] != l'[k]) = true›
          go_ret
          refine ⟨ret_bool ?_, _, World.drewN_drewN _ _ _⟩
          simp
          rintro rfl
          exact hne rfl
        · have heq : l[k] = l'[k] := by simpa using ‹(l[k] != l'[k]) = false›
          refine ⟨⟨k + 1, by omega, by go_num, ⟨_, rfl⟩, ?_⟩, by simp [intOf]; omega⟩
          rw [List.take_succ_eq_append_getElem hlt, List.take_succ_eq_append_getElem hlt', HT.out, heq]
      · go_wp2
        go_ret
        refine ⟨ret_bool ?_, _, rfl⟩
        have := HT.out
        rw [List.take_of_length_le (by omega), List.take_of_length_le (by have := HE.out; omega)] at this
        simp [this]
  · have he' : ((l.length : Int) != (l'.length : Int)) = true := by simp; omega
    go_enter Try.func43, Try.ntmps43
    go_wp2
    go_ret
    exact ⟨ret_bool (by simp; rintro rfl; exact he rfl), 0, rfl⟩
theorem make128 : ∃ M : Array Value, M.toList = bvs (List.replicate 128 0) ∧ ∀ u : World,
    (Instr.makeSlice 35 (.int .i64 128) (.int .i64 128)).run Try.prog u = .ok (.slice (some ⟨u.heap.size, 0, none⟩) 128 128) (u.alloc (.cells M 5)) := make_b 128 (by omega)
/-- What 'made' leaves: a device whose bytes are b, and b itself. -/
def MadeDev (W w : World) (e : Ending) (w' : World) : Prop := ∃ (d : Sh) (b : List UInt8) (g : Nat), b.length = 128 ∧ e = .returned (.tuple #[.pointer (some ⟨d.g, 0, none⟩), .slice (some ⟨g, 0, none⟩) 128 128, .bool true]) ∧
  At w.heap.size W w' d (Fl.full b) 128 ∧ Own w.heap.size w' (.slice (some ⟨g, 0, none⟩) 128 128) b ∧ w.heap.size ≤ g ∧ g ≠ d.g ∧ g ≠ d.gb ∧ g ≠ d.gw
theorem made_any (A : Option Addr) (n c : Nat) (l : List Int) (w : World) (hn : n = l.length) (hr : IRow w.heap.size w A l) (hl : ∀ x ∈ l, -9223372036854775808 ≤ x ∧ x ≤ 9223372036854775807) (hb : n ≤ 1000000) :
    Calls Try.prog 31 #[.slice A n c] w (MadeDev w w) := by
  obtain ⟨M, hM, hmk⟩ := make128
  have HM := Lib.hid hM; clear hM
  have HN := Lib.hid hn; have HL := Lib.hid hl; clear hn hl
  go_enter Try.func31, Try.ntmps31
  go_wp2_with fail
  refine (At.new 2 64 (by omega) (by omega) (by omega) (by omega) w.heap.size w w (Below.refl _ _) (Nat.le_refl _)).mono ?_
  rintro e w1 ⟨d, rfl, h1, hb1, -⟩
  go_wp2_with fail
  refine (roll_any A n c w1).mono ?_
  rintro e w2 ⟨rfl, rfl⟩
  go_wp2_with fail
  obtain ⟨g, hg⟩ : ∃ g, g = w1.heap.size := ⟨_, rfl⟩
  have hst : Below w1.heap.size w1 ((w1.alloc (.cells #[.slice A n c, .int .i64 0] 72)).alloc (.cells M 5)) := ((Below.refl _ _).alloc (Nat.le_refl _) _).alloc (by simp) _
  have hdc : Dc ((w1.alloc (.cells #[.slice A n c, .int .i64 0] 72)).alloc (.cells M 5)) w1.heap.size A n c 0 := by
    have : Dc (w1.alloc (.cells #[.slice A n c, .int .i64 0] 72)) w1.heap.size A n c 0 := heap_alloc_new w1 _
    exact this.keep (World.grownBy_alloc _ _ none) (by simp)
  have hmb : ((w1.alloc (.cells #[.slice A n c, .int .i64 0] 72)).alloc (.cells M 5)).heap[w1.heap.size + 1]? = some (.cells M 5 (0, 0)) := by
    have e : (w1.alloc (.cells #[.slice A n c, .int .i64 0] 72)).heap.size = w1.heap.size + 1 := by simp
    rw [← e]
    exact heap_alloc_new _ _
  have hown := own_block (base := w.heap.size) hmb HM.out (by have := hb1.size; omega) (by simp [maxLen])
  rw [List.length_replicate] at hown
  generalize (w1.alloc (.cells #[.slice A n c, .int .i64 0] 72)).alloc (.cells M 5) = w2 at *
  rw [← hg] at hst hdc hown ⊢
  have HG := Lib.hid hg; clear hg hmb
  have hr1 : IRow g w1 A l := (Rd.below hr hb1).more (by have := HG.out; have := hb1.size; omega)
  go_loopw [9] (fun i wr => ∃ (k : Nat) (b : List UInt8) (a : Nat), k ≤ 128 ∧ b.length = 128 ∧ a ≤ n ∧ i = .int .i64 k ∧ Dc wr g A n c a ∧ Own w.heap.size wr (.slice (some ⟨g + 1, 0, none⟩) 128 128) b ∧ Below g w1 wr) (fun i _ => 128 - (intOf i).toNat)
  case atStart => exact ⟨0, List.replicate 128 0, 0, Nat.zero_le _, by simp, Nat.zero_le _, rfl, hdc, hown, hst⟩
  case round =>
    obtain ⟨k, b, a, hk, hlen, ha, rfl, hd, ho, hbw⟩ := hrel
    have HB := Lib.hid hlen; clear hlen
    by_cases hlt : k < 128
    · have hr2 : IRow g wr A l := Rd.below hr1 hbw
      have hc := byte_any g n c a A l wr hd hr2 HN.out HL.out ha (by omega)
      have HC := Lib.hid hc; clear hc
      have b1 : (0 : Int) ≤ (k : Int) := by omega
      have b2 : (k : Int) < 128 := by omega
      have hg0 := hd.lt
      go_wp2_with fail
      refine HC.out.mono ?_
      rintro e w3 ⟨x, a', rfl, ha', hd', hg'⟩
      have ho' := own_far ho hg' (by omega : g + 1 ≠ g)
      have hcell := own_cell ho' HB.out.symm (i := k) (by have := HB.out; omega)
      have hfz := own_frozen ho' HB.out.symm k
      have hst := own_store ho' HB.out.symm k x
      have HS := Lib.hid hst; clear hst
      go_wp2_with fail
      refine ⟨⟨k + 1, b.set k x, a', by omega, by simp [HB.out], ha', by go_num, ?_, HS.out.1, ?_⟩, by simp [intOf]; omega⟩
      · exact hd'.keep HS.out.2 (by simp)
      · exact (hbw.grown hg' (Nat.le_of_lt hg0) (fun k hk => by cases hk; exact Nat.le_refl _)).grown HS.out.2 (Nat.le_trans (Nat.le_of_lt hg0) hg'.size) (fun k hk => by cases hk; omega)
    · obtain rfl : k = 128 := by omega
      have h2 := h1.step (HG.out ▸ hbw)
      have hoff : Off d (some ⟨g + 1, 0, none⟩) b := Off.new h1.dev (by have := HG.out; omega)
      go_wp2_with fail
      refine (h2.program (by omega) (some ⟨g + 1, 0, none⟩) 128 128 b (sl_own ho HB.out.symm) hoff 0 (by omega) (by omega) (by omega)).mono ?_
      rintro e w3 ⟨rfl, h3, hk3⟩
      rw [Fl.full_of b HB.out] at h3 ⊢
      have hne := Off.new (g := g + 1) (i := 0) (b := [0]) h1.dev (by have := HG.out; omega)
      obtain ⟨n1, n2, n3⟩ := hne (by simp) _ rfl
      have ho3 : Own w.heap.size w3 (.slice (some ⟨g + 1, 0, none⟩) 128 128) b := by
        have ho' : wr.ownsRow w.heap.size 5 1 (.slice (some ⟨g + 1, 0, none⟩) 128 128) 128 (bvs b) := by
          have := ho
          unfold Own at this
          rwa [HB.out] at this
        have := hk3.own ho' n1 n2 n3
        unfold Own
        rwa [HB.out]
      go_wp2_with fail
      go_ret3
      exact ⟨d, b, g + 1, HB.out, rfl, h3, ho3, by have := HG.out; have := hb1.size; omega, n1, n2, n3⟩
end Go.Proofs.Ytkmkpidoajfhmaa.E5d
