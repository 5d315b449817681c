/- Walks: the program's sensor records: read. -/
import Derived.Test.YtafoaonkjcfbaaaK61
import Derived.Laws.BytesArg
import Derived.Laws.IdiomStrings
namespace Go.Proofs.Ytafoaonkjcfbaaa.Ua
open Go.RowKit Go.Proofs.Ytafoaonkjcfbaaa.Mem Go.Proofs.Ytafoaonkjcfbaaa.F2p Go.Proofs.Ytafoaonkjcfbaaa.C4l Go.Proofs.Ytafoaonkjcfbaaa.Ta Go.Proofs.Ytafoaonkjcfbaaa.Tb
set_option maxRecDepth 100000
set_option maxHeartbeats 2000000

theorem conv_sb {w : World} {A : Option Addr} {n c : Nat} {l : List UInt8} (h : Sl w A n c l) : (convert 60 9 (.slice A n c)).run Try.prog w = .ok (.string ⟨l.toArray⟩) w := by
  obtain ⟨hn, hr, -, -, hz⟩ := h
  subst hn
  by_cases h0 : 0 < l.length
  · obtain ⟨a, rfl, -, -⟩ := row_at hr h0
    refine run_convert_bytes_back w _ _ _ a c l Try.underlying60 Try.underlying5 Try.underlying9 fun j hj => ?_
    obtain ⟨a', e, -, hc⟩ := row_at hr hj
    injection e with e
    subst e
    exact hc
  · obtain rfl : l = [] := List.length_eq_zero_iff.1 (by omega)
    cases A with
    | none => exact run_convert_bytes_nil w _ _ Try.underlying60 Try.underlying5 _ _ _ Try.underlying9
    | some a => exact run_convert_bytes_back w _ _ _ a c [] Try.underlying60 Try.underlying5 Try.underlying9 fun j hj => absurd hj (by simp)
theorem and_two (x : Nat) (h : x < 256) : bits .and .u8 (x : Int) 2 = ((2 * (x / 2 % 2) : Nat) : Int) := by
  have : ∀ x : Fin 256, bits .and .u8 ((x.val : Nat) : Int) 2 = ((2 * (x.val / 2 % 2) : Nat) : Int) := by decide +kernel
  exact this ⟨x, h⟩
theorem sl_piece {w : World} {a : Addr} {n c kx : Nat} {l : List UInt8} (h : Sl w (some a) n c l) (h8 : 8 < c) (hK : 8 ≤ kx) (hn : kx ≤ n) : Sl w (some ⟨a.block, a.off + 8, none⟩) (kx - 8) (c - 8) ((l.drop 8).take (kx - 8)) := by
  have h1 := h.len
  have h2 := h.cap
  have h3 := row_cut h.row (n := 8) (cap := c) (by omega) (by omega)
  rw [if_neg (by omega)] at h3
  refine ⟨by rw [List.length_take, List.length_drop]; omega, row_take h3 _, by omega, by have := h.max; omega, fun e => by cases e⟩
theorem sl_zero {w : World} {a : Addr} {n c : Nat} {l : List UInt8} (_ : Sl w (some a) n c l) : Sl w (some a) 0 0 [] :=
  ⟨rfl, Rd.nil, Nat.le_refl _, by unfold maxLen; omega, fun e => by cases e⟩
theorem setRow_gr (W : World) (F : Nat) (cs : Array Value) : W.grownBy (W.setRow F cs) (some F) := ⟨rfl, rfl, rfl, by simp, fun k _ hk => setRow_other W F k _ (fun he => hk (by rw [he]))⟩
theorem sl_tail2 {w : World} {a : Addr} {n c : Nat} {l : List UInt8} (h : Sl w (some a) n c l) {k : Nat} (hk : k ≤ n) (hkc : k < c) : Sl w (some (a.add k)) (n - k) (c - k) (l.drop k) := by
  have h1 := h.len
  have h2 := h.cap
  have h3 := row_cut h.row (n := k) (cap := c) (by omega) (by omega)
  rw [if_neg (by omega)] at h3
  refine ⟨by rw [List.length_drop]; omega, ?_, by omega, by have := h.max; omega, fun e => by cases e⟩
  exact h3
theorem sl_zero' {w : World} {a : Addr} {n c : Nat} {l : List UInt8} (h : Sl w (some a) n c l) : Sl w (some a) 0 0 (l.drop n) := by
  have e : l.drop n = [] := by rw [List.drop_eq_nil_iff]; have := h.len; omega
  rw [e]
  exact ⟨rfl, Rd.nil, Nat.le_refl _, by unfold maxLen; omega, fun e => by cases e⟩
theorem by_get (x : List UInt8) (i : Nat) (h : i < x.length) : by_ x i = x[i] := by
  unfold by_
  rw [List.getD_eq_getElem?_getD, List.getElem?_eq_getElem h]
  rfl
theorem byk {B : Nat} {W : World} {a2 : Addr} {L : List UInt8} (h : Row B W (some a2) L) (k : Nat) (hk : k + 1 < L.length) : W.cell? ⟨a2.block, a2.off + (k + 1), none⟩ = some (.int .u8 ((by_ L (k + 1)).toNat : Int)) := by
  rw [by_get L (k + 1) hk]; exact row_k h k hk
theorem by0 {B : Nat} {W : World} {a2 : Addr} {L : List UInt8} (h : Row B W (some a2) L) (hk : 0 < L.length) : W.cell? a2 = some (.int .u8 ((by_ L 0).toNat : Int)) := by
  rw [by_get L 0 hk]
  obtain ⟨a, e, -, hc⟩ := row_at h hk
  injection e with e
  subst e
  exact hc
theorem read_p (A : Option Addr) (n c : Nat) (x : List UInt8) (w : World) (hsl : Sl w A n c x) (h8 : 8 ≤ n) (hn : n ≤ 1000000) :
    Calls Try.prog 72 #[.slice A n c] w (Rdd w (rdS x)) := by
  have hb1 : Below w.heap.size w (w.alloc (.cells #[.int .u8 0, .int .u8 0, .int .u8 0, .string ⟨#[]⟩, .int .u8 0, .int .u8 0, .bool false, .int .i64 0, .bool false, .int .i64 0, .int .i64 0, .int .i64 0, .int .i64 0, .slice none 0 0, .int .u8 0, .int .u8 0, .int .u8 0, .int .u8 0, .int .u8 0, .int .u8 0, .int .u8 0, .int .u8 0, .int .u8 0, .int .u16 0, .int .u16 0, .int .u16 0, .bool false, .int .i64 0] 59)) := (Below.refl _ _).alloc (Nat.le_refl _) _
  have hz1 := Bx.zero w
  have hs1 := hsl.step hb1
  have hl := hs1.len
  have hc := hs1.cap
  have hcm := hs1.max
  unfold maxLen at hcm
  obtain ⟨a, rfl⟩ : ∃ a, A = some a := by
    obtain ⟨a, ha, -⟩ := row_at hs1.row (k := 0) (by omega)
    exact ⟨a, ha⟩
  generalize hW : w.alloc (.cells #[.int .u8 0, .int .u8 0, .int .u8 0, .string ⟨#[]⟩, .int .u8 0, .int .u8 0, .bool false, .int .i64 0, .bool false, .int .i64 0, .int .i64 0, .int .i64 0, .int .i64 0, .slice none 0 0, .int .u8 0, .int .u8 0, .int .u8 0, .int .u8 0, .int .u8 0, .int .u8 0, .int .u8 0, .int .u8 0, .int .u8 0, .int .u16 0, .int .u16 0, .int .u16 0, .bool false, .int .i64 0] 59) = w1 at *
  have k0 : w1.cell? a = some (.int .u8 ((by_ x 0).toNat : Int)) := by0 hs1.row (by omega)
  have k6 : w1.cell? ⟨a.block, a.off + 6, none⟩ = some (.int .u8 ((by_ x 6).toNat : Int)) := byk hs1.row 5 (by omega)
  have k7 : w1.cell? ⟨a.block, a.off + 7, none⟩ = some (.int .u8 ((by_ x 7).toNat : Int)) := byk hs1.row 6 (by omega)
  have x0l := (by_ x 0).toNat_lt
  have x6l := (by_ x 6).toNat_lt
  have x7l := (by_ x 7).toNat_lt
  have g0 : (0 : Int) < (n : Int) := by omega
  have g6 : (6 : Int) < (n : Int) := by omega
  have g7 : (7 : Int) < (n : Int) := by omega
  have g0' : 0 < n := by omega
  have g6' : 6 < n := by omega
  have g7' : 7 < n := by omega
  have hu8 : IntKind.i64.wrap (8 + ((by_ x 7).toNat : Int)) = 8 + ((by_ x 7).toNat : Int) := IntWalk.i64_in _ (by omega)
  have HL := Lib.hid hl
  have HS1 := Lib.hid hs1
  by_cases h0 : by_ x 0 = 1
  case neg =>
    have hR : rdS x = (noSn, 6) := by unfold rdS; rw [if_pos (.inl h0)]
    rw [hR]
    have hk : (((by_ x 0).toNat : Int) != 1) = true := by rw [bne_iff_ne]; intro h; exact h0 (UInt8.toNat_inj.1 (by rw [show (1 : UInt8).toNat = 1 from rfl]; omega))
    clear hR h0 hl hs1 hsl
    generalize by_ x 0 = x0 at *
    generalize by_ x 6 = x6 at *
    generalize by_ x 7 = x7 at *
    go_enter Try.func72, Try.ntmps72
    go_wp2_with fail
    go_quiet (fail)
    all_goals
      have k0' : (w1.drewN nq).cell? a = some (.int .u8 (x0.toNat : Int)) := k0
      have hzq : Bx (w1.drewN nq) w.heap.size noSn (.slice none 0 0) := hz1
      go_wp2_with (refine wpList_store_bx rfl (.tmp 2) (.tmp 23) rfl w.heap.size noSn noSn (.slice none 0 0) (.slice none 0 0) rfl rfl rfl hzq ?_; intro w3 hx3 hg3; refine Hid.out ?_)
      refine Lib.hid ?_
      have hb3 := (below_drewN (k := nq) hb1).grown hg3 (show w.heap.size ≤ w1.heap.size from hb1.size) (fun k hk => by injection hk; omega)
      go_wp2_with fail
      exact out2 Try.results72 rfl rfl rfl hx3 ⟨none, 0, 0, rfl, PSl.none, hb3⟩
  have h0' : ((by_ x 0).toNat : Int) = 1 := by rw [h0]; rfl
  have hk0 : (((by_ x 0).toNat : Int) != 1) = false := by rw [h0']; rfl
  by_cases h32 : 32 ≤ (by_ x 6).toNat
  · have hR : rdS x = (noSn, 6) := by unfold rdS; rw [if_pos (.inr h32)]
    rw [hR]
    have hk : decide (32 ≤ ((by_ x 6).toNat : Int)) = true := by simp; omega
    clear hR h0 h0' hl hs1 hsl
    generalize by_ x 0 = x0 at *
    generalize by_ x 6 = x6 at *
    generalize by_ x 7 = x7 at *
    go_enter Try.func72, Try.ntmps72
    go_wp2_with fail
    go_quiet (fail)
    all_goals
      have k0' : (w1.drewN nq).cell? a = some (.int .u8 (x0.toNat : Int)) := k0
      have hzq : Bx (w1.drewN nq) w.heap.size noSn (.slice none 0 0) := hz1
      go_wp2_with (refine wpList_store_bx rfl (.tmp 2) (.tmp 23) rfl w.heap.size noSn noSn (.slice none 0 0) (.slice none 0 0) rfl rfl rfl hzq ?_; intro w3 hx3 hg3; refine Hid.out ?_)
      refine Lib.hid ?_
      have hb3 := (below_drewN (k := nq) hb1).grown hg3 (show w.heap.size ≤ w1.heap.size from hb1.size) (fun k hk => by injection hk; omega)
      go_wp2_with fail
      exact out2 Try.results72 rfl rfl rfl hx3 ⟨none, 0, 0, rfl, PSl.none, hb3⟩
  have hk1 : decide (32 ≤ ((by_ x 6).toNat : Int)) = false := by simp; omega
  obtain ⟨kx, hK⟩ : ∃ kx, kx = 8 + (by_ x 7).toNat := ⟨_, rfl⟩
  by_cases hlt : n < kx
  · have hR : rdS x = (noSn, 4) := by unfold rdS; rw [if_neg (fun h => h.elim (fun h => h h0) h32), if_pos (by omega)]
    rw [hR]
    have hk : decide ((n : Int) < 8 + ((by_ x 7).toNat : Int)) = true := by simp; omega
    have hk' : (n : Int) < 8 + ((by_ x 7).toNat : Int) := by omega
    clear hR h0 h0' hl hs1 hsl hK
    generalize by_ x 0 = x0 at *
    generalize by_ x 6 = x6 at *
    generalize by_ x 7 = x7 at *
    go_enter Try.func72, Try.ntmps72
    go_wp2_with fail
    go_quiet (fail)
    all_goals
      have k0' : (w1.drewN nq).cell? a = some (.int .u8 (x0.toNat : Int)) := k0
      have hzq : Bx (w1.drewN nq) w.heap.size noSn (.slice none 0 0) := hz1
      go_wp2_with (refine wpList_store_bx rfl (.tmp 2) (.tmp 28) rfl w.heap.size noSn noSn (.slice none 0 0) (.slice none 0 0) rfl rfl rfl hzq ?_; intro w3 hx3 hg3; refine Hid.out ?_)
      refine Lib.hid ?_
      have hb3 := (below_drewN (k := nq) hb1).grown hg3 (show w.heap.size ≤ w1.heap.size from hb1.size) (fun k hk => by injection hk; omega)
      go_wp2_with fail
      exact out2 Try.results72 rfl rfl rfl hx3 ⟨none, 0, 0, rfl, PSl.none, hb3⟩
  have hKn : kx ≤ n := by omega
  have hR : rdS x = if (by_ x 6).toNat % 2 = 1 then rdD (beg x) (x.drop kx) else rdA (beg x) (x.drop kx) := by
    unfold rdS
    rw [if_neg (fun h => h.elim (fun h => h h0) h32), if_neg (by omega), hK]
  have hbeg : beg x = ⟨by_ x 1, by_ x 2, by_ x 3, ⟨((x.drop 8).take (by_ x 7).toNat).toArray⟩, by_ x 4, by_ x 5, decide ((by_ x 6).toNat % 2 = 1), C4p.noCv, 0, 0, 0, 0, 0, 0, 0, 0, 0, 0, 0, 0, decide ((by_ x 6).toNat / 2 % 2 = 1), (((by_ x 6).toNat / 4 : Nat) : Int)⟩ := rfl
  have hk' : ¬ (n : Int) < 8 + ((by_ x 7).toNat : Int) := by omega
  have e1 : bits .and .u8 ((by_ x 6).toNat : Int) 1 = (((by_ x 6).toNat % 2 : Nat) : Int) := and_one _ x6l
  have e2 : bits .and .u8 ((by_ x 6).toNat : Int) 2 = ((2 * ((by_ x 6).toNat / 2 % 2) : Nat) : Int) := and_two _ x6l
  have e3 : ((by_ x 6).toNat : Int) / 4 = (((by_ x 6).toNat / 4 : Nat) : Int) := by rw [Int.natCast_ediv]; rfl
  have e4 : IntKind.i64.wrap (((by_ x 6).toNat / 4 : Nat) : Int) = (((by_ x 6).toNat / 4 : Nat) : Int) := IntWalk.i64_in _ (by omega)
  have e4b : IntKind.u8.wrap (((by_ x 6).toNat / 4 : Nat) : Int) = (((by_ x 6).toNat / 4 : Nat) : Int) := IntWalk.u8_in _ ⟨by omega, by omega⟩
  obtain ⟨D, hD⟩ : ∃ D, D = decide ((by_ x 6).toNat % 2 = 1) := ⟨_, rfl⟩
  obtain ⟨ON, hON⟩ : ∃ ON, ON = decide ((by_ x 6).toNat / 2 % 2 = 1) := ⟨_, rfl⟩
  have e5 : ((((by_ x 6).toNat % 2 : Nat) : Int) != 0) = D := by
    rw [hD, Bool.eq_iff_iff, bne_iff_ne, decide_eq_true_eq]; omega
  have e6 : (((2 * ((by_ x 6).toNat / 2 % 2) : Nat) : Int) != 0) = ON := by
    rw [hON, Bool.eq_iff_iff, bne_iff_ne, decide_eq_true_eq]; omega
  rw [← hD, ← hON] at hbeg
  have hR2 : rdS x = (if D = true then rdD (beg x) (x.drop kx) else rdA (beg x) (x.drop kx)) := by
    rw [hR, hD]
    by_cases h : (by_ x 6).toNat % 2 = 1 <;> simp [h]
  rw [hR2]
  have HRS := Lib.hid fun (W : World) (hb : Below w.heap.size w W) => hsl.row.below hb
  have HSS : Hid (∀ W : World, Below w.heap.size w W → Sl W (some a) n c x) := Lib.hid fun W hb => ⟨hl, ((hsl.row.below hb).more hb.size), hc, by unfold maxLen; omega, fun h => by cases h⟩
  generalize (by_ x 6).toNat / 4 = SM at *
  generalize (by_ x 6).toNat % 2 = m2 at *
  generalize 2 * ((by_ x 6).toNat / 2 % 2) = m4 at *
  have hx7 : kx = 8 + (by_ x 7).toNat := hK
  have gK : (8 : Int) ≤ (kx : Int) := by omega
  have hKi : 8 + ((by_ x 7).toNat : Int) = (kx : Int) := by omega
  have HBEG := Lib.hid hbeg
  have HK := Lib.hid hK
  clear hR hR2 h0 h0' hD hON h32 hl hs1 hsl hK hx7 hbeg
  have gi1 : (1 : Int) < (n : Int) := by omega
  have gi2 : (2 : Int) < (n : Int) := by omega
  have gi3 : (3 : Int) < (n : Int) := by omega
  have gi4 : (4 : Int) < (n : Int) := by omega
  have gi5 : (5 : Int) < (n : Int) := by omega
  have gKc : (kx : Int) ≤ (c : Int) := by omega
  have gKc' : kx ≤ c := by omega
  have hK7 : kx - 8 = (by_ x 7).toNat := by have := HK.out; omega
  have HK7 := Lib.hid hK7
  clear hK7
  cases D
  · rcases (show (kx < c ∨ (c = kx ∧ 8 < c)) ∨ (c = kx ∧ c = 8) by omega) with (hKc | ⟨hKc, h8c⟩) | ⟨hKc, h8c⟩
    · skip
      have c8 : ¬ c = 8 := by omega
      have cK : ¬ c = kx := by omega
      go_enter Try.func72, Try.ntmps72
      go_wp2_with fail
      go_quiet (fail)
      have k0' : (w1.drewN nq).cell? a = some (.int .u8 ((by_ x 0).toNat : Int)) := k0
      go_wp2_with fail
      have HB0 : Below w.heap.size w (w1.drewN nq).drew := below_drew (below_drewN hb1)
      have HBE : Below w.heap.size w (((w1.drewN nq).drew.alloc (.cells #[.int .u8 0, .int .u8 0, .int .u8 0, .string ⟨#[]⟩, .int .u8 0, .int .u8 0, .bool false, .int .i64 0, .bool false, .int .i64 0, .int .i64 0, .int .i64 0, .int .i64 0, .slice none 0 0, .int .u8 0, .int .u8 0, .int .u8 0, .int .u8 0, .int .u8 0, .int .u8 0, .int .u8 0, .int .u8 0, .int .u8 0, .int .u16 0, .int .u16 0, .int .u16 0, .bool false, .int .i64 0] 59)).setRow (w1.drewN nq).drew.heap.size (cells (beg x) (.slice none 0 0))) :=
        (HB0.alloc HB0.size _).grown (setRow_gr _ _ _) (by rw [World.size_alloc]; exact Nat.le_succ_of_le HB0.size) (fun k hk => by injection hk with hk; rw [← hk]; exact HB0.size)
      have hxF : Bx (((w1.drewN nq).drew.alloc (.cells #[.int .u8 0, .int .u8 0, .int .u8 0, .string ⟨#[]⟩, .int .u8 0, .int .u8 0, .bool false, .int .i64 0, .bool false, .int .i64 0, .int .i64 0, .int .i64 0, .int .i64 0, .slice none 0 0, .int .u8 0, .int .u8 0, .int .u8 0, .int .u8 0, .int .u8 0, .int .u8 0, .int .u8 0, .int .u8 0, .int .u8 0, .int .u16 0, .int .u16 0, .int .u16 0, .bool false, .int .i64 0] 59)).setRow (w1.drewN nq).drew.heap.size (cells (beg x) (.slice none 0 0))) (w1.drewN nq).drew.heap.size (beg x) (.slice none 0 0) := setRow_heap _ _ _ _ _ _ (Bx.zero (w1.drewN nq).drew)
      have hzF : Bx (((w1.drewN nq).drew.alloc (.cells #[.int .u8 0, .int .u8 0, .int .u8 0, .string ⟨#[]⟩, .int .u8 0, .int .u8 0, .bool false, .int .i64 0, .bool false, .int .i64 0, .int .i64 0, .int .i64 0, .int .i64 0, .slice none 0 0, .int .u8 0, .int .u8 0, .int .u8 0, .int .u8 0, .int .u8 0, .int .u8 0, .int .u8 0, .int .u8 0, .int .u8 0, .int .u16 0, .int .u16 0, .int .u16 0, .bool false, .int .i64 0] 59)).setRow (w1.drewN nq).drew.heap.size (cells (beg x) (.slice none 0 0))) w.heap.size noSn (.slice none 0 0) :=
        ((show Bx (w1.drewN nq).drew w.heap.size noSn (.slice none 0 0) from hz1).alloc _).kept (setRow_gr _ _ _) (fun e => by injection e with e; have := hz1.lt; rw [e] at this; exact absurd this (Nat.lt_irrefl _))
      have HXF := Lib.hid hxF
      have HZF := Lib.hid hzF
      clear hxF hzF
      refine wp_region_held_drew (S := (fun W => Below w.heap.size w W)) (by kernel_rfl) ?_ (fun hHeld => ?_)
      · (try dsimp only); exact HB0
      refine wpAnyH_take (i := 0) (oi := _) (v := ?vq3_0) rfl (by kernel_rfl) (by kernel_rfl) (by kernel_rfl) (fun _ _ _ h => h) (Or.inl ⟨rfl, ?yq3_0⟩) (by assumption) ?_
      case yq3_0 => intro w hSw; (try dsimp only at hSw); go_simp; (try with_reducible rfl)
      (try simp only [Act.put, List.getElem_toArray, List.getElem_cons_zero, List.setIfInBounds_toArray, List.set_cons_zero, List.set_cons_succ])
      refine wpAnyH_take (i := 1) (oi := _) (v := ?vq3_1) rfl (by kernel_rfl) (by kernel_rfl) (by kernel_rfl) (fun _ _ _ h => h) (Or.inl ⟨rfl, ?yq3_1⟩) (by assumption) ?_
      case yq3_1 => intro w hSw; (try dsimp only at hSw); go_simp; (try with_reducible rfl)
      (try simp only [Act.put, List.getElem_toArray, List.getElem_cons_succ, List.getElem_cons_zero, List.setIfInBounds_toArray, List.set_cons_zero, List.set_cons_succ])
      refine wpAnyH_take (i := 2) (oi := _) (v := ?vq3_2) rfl (by kernel_rfl) (by kernel_rfl) (by kernel_rfl) (fun _ _ _ h => h) (Or.inl ⟨rfl, ?yq3_2⟩) (by assumption) ?_
      case yq3_2 => intro w hSw; (try dsimp only at hSw); (have s1 := byk (HSS.out _ hSw).row 0 (by have := (HSS.out _ hSw).len; omega)); clear hSw; (try simp only [Nat.zero_add] at s1); go_simp; (try with_reducible rfl)
      (try simp only [Act.put, List.getElem_toArray, List.getElem_cons_succ, List.getElem_cons_zero, List.setIfInBounds_toArray, List.set_cons_zero, List.set_cons_succ])
      refine wpAnyH_take (i := 3) (oi := _) (v := ?vq3_3) rfl (by kernel_rfl) (by kernel_rfl) (by kernel_rfl) (fun _ _ _ h => h) (Or.inl ⟨rfl, ?yq3_3⟩) (by assumption) ?_
      case yq3_3 => intro w hSw; (try dsimp only at hSw); go_simp; (try with_reducible rfl)
      (try simp only [Act.put, List.getElem_toArray, List.getElem_cons_succ, List.getElem_cons_zero, List.setIfInBounds_toArray, List.set_cons_zero, List.set_cons_succ])
      refine wpAnyH_take (i := 4) (oi := _) (v := ?vq3_4) rfl (by kernel_rfl) (by kernel_rfl) (by kernel_rfl) (fun _ _ _ h => h) (Or.inl ⟨rfl, ?yq3_4⟩) (by assumption) ?_
      case yq3_4 => intro w hSw; (try dsimp only at hSw); go_simp; (try with_reducible rfl)
      (try simp only [Act.put, List.getElem_toArray, List.getElem_cons_succ, List.getElem_cons_zero, List.setIfInBounds_toArray, List.set_cons_zero, List.set_cons_succ])
      refine wpAnyH_take (i := 5) (oi := _) (v := ?vq3_5) rfl (by kernel_rfl) (by kernel_rfl) (by kernel_rfl) (fun _ _ _ h => h) (Or.inl ⟨rfl, ?yq3_5⟩) (by assumption) ?_
      case yq3_5 => intro w hSw; (try dsimp only at hSw); (have s1 := byk (HSS.out _ hSw).row 1 (by have := (HSS.out _ hSw).len; omega)); clear hSw; (try simp only [Nat.reduceAdd] at s1); go_simp; (try with_reducible rfl)
      (try simp only [Act.put, List.getElem_toArray, List.getElem_cons_succ, List.getElem_cons_zero, List.setIfInBounds_toArray, List.set_cons_zero, List.set_cons_succ])
      refine wpAnyH_take (i := 6) (oi := _) (v := ?vq3_6) rfl (by kernel_rfl) (by kernel_rfl) (by kernel_rfl) (fun _ _ _ h => h) (Or.inl ⟨rfl, ?yq3_6⟩) (by assumption) ?_
      case yq3_6 => intro w hSw; (try dsimp only at hSw); go_simp; (try with_reducible rfl)
      (try simp only [Act.put, List.getElem_toArray, List.getElem_cons_succ, List.getElem_cons_zero, List.setIfInBounds_toArray, List.set_cons_zero, List.set_cons_succ])
      refine wpAnyH_take (i := 7) (oi := _) (v := ?vq3_7) rfl (by kernel_rfl) (by kernel_rfl) (by kernel_rfl) (fun _ _ _ h => h) (Or.inl ⟨rfl, ?yq3_7⟩) (by assumption) ?_
      case yq3_7 => intro w hSw; (try dsimp only at hSw); go_simp; (try with_reducible rfl)
      (try simp only [Act.put, List.getElem_toArray, List.getElem_cons_succ, List.getElem_cons_zero, List.setIfInBounds_toArray, List.set_cons_zero, List.set_cons_succ])
      refine wpAnyH_take (i := 8) (oi := _) (v := ?vq3_8) rfl (by kernel_rfl) (by kernel_rfl) (by kernel_rfl) (fun _ _ _ h => h) (Or.inl ⟨rfl, ?yq3_8⟩) (by assumption) ?_
      case yq3_8 => intro w hSw; (try dsimp only at hSw); (have s1 := byk (HSS.out _ hSw).row 2 (by have := (HSS.out _ hSw).len; omega)); clear hSw; (try simp only [Nat.reduceAdd] at s1); go_simp; (try with_reducible rfl)
      (try simp only [Act.put, List.getElem_toArray, List.getElem_cons_succ, List.getElem_cons_zero, List.setIfInBounds_toArray, List.set_cons_zero, List.set_cons_succ])
      refine wpAnyH_take (i := 9) (oi := _) (v := ?vq3_9) rfl (by kernel_rfl) (by kernel_rfl) (by kernel_rfl) (fun _ _ _ h => h) (Or.inl ⟨rfl, ?yq3_9⟩) (by assumption) ?_
      case yq3_9 => intro w hSw; (try dsimp only at hSw); go_simp; (try with_reducible rfl)
      (try simp only [Act.put, List.getElem_toArray, List.getElem_cons_succ, List.getElem_cons_zero, List.setIfInBounds_toArray, List.set_cons_zero, List.set_cons_succ])
      refine wpAnyH_take (i := 10) (oi := _) (v := ?vq3_10) rfl (by kernel_rfl) (by kernel_rfl) (by kernel_rfl) (fun _ _ _ h => h) (Or.inl ⟨rfl, ?yq3_10⟩) (by assumption) ?_
      case yq3_10 => intro w hSw; (try dsimp only at hSw); go_simp; (try with_reducible rfl)
      (try simp only [Act.put, List.getElem_toArray, List.getElem_cons_succ, List.getElem_cons_zero, List.setIfInBounds_toArray, List.set_cons_zero, List.set_cons_succ])
      refine wpAnyH_take (i := 11) (oi := _) (v := ?vq3_11) rfl (by kernel_rfl) (by kernel_rfl) (by kernel_rfl) (fun _ _ _ h => h) (Or.inl ⟨rfl, ?yq3_11⟩) (by assumption) ?_
      case yq3_11 => intro w hSw; (try dsimp only at hSw); go_simp; (try with_reducible rfl)
      (try simp only [Act.put, List.getElem_toArray, List.getElem_cons_succ, List.getElem_cons_zero, List.setIfInBounds_toArray, List.set_cons_zero, List.set_cons_succ])
      refine wpAnyH_take (i := 12) (oi := _) (v := ?vq3_12) rfl (by kernel_rfl) (by kernel_rfl) (by kernel_rfl) (fun _ _ _ h => h) (Or.inl ⟨rfl, ?yq3_12⟩) (by assumption) ?_
      case yq3_12 => intro w hSw; (try dsimp only at hSw); (have s1 := conv_sb (sl_piece (HSS.out _ hSw) (by omega) (by omega) (kx := kx) (by omega))); clear hSw; go_simp; (try with_reducible rfl)
      (try simp only [Act.put, List.getElem_toArray, List.getElem_cons_succ, List.getElem_cons_zero, List.setIfInBounds_toArray, List.set_cons_zero, List.set_cons_succ])
      refine wpAnyH_take (i := 13) (oi := _) (v := ?vq3_13) rfl (by kernel_rfl) (by kernel_rfl) (by kernel_rfl) (fun _ _ _ h => h) (Or.inl ⟨rfl, ?yq3_13⟩) (by assumption) ?_
      case yq3_13 => intro w hSw; (try dsimp only at hSw); go_simp; (try with_reducible rfl)
      (try simp only [Act.put, List.getElem_toArray, List.getElem_cons_succ, List.getElem_cons_zero, List.setIfInBounds_toArray, List.set_cons_zero, List.set_cons_succ])
      refine wpAnyH_take (i := 14) (oi := _) (v := ?vq3_14) rfl (by kernel_rfl) (by kernel_rfl) (by kernel_rfl) (fun _ _ _ h => h) (Or.inl ⟨rfl, ?yq3_14⟩) (by assumption) ?_
      case yq3_14 => intro w hSw; (try dsimp only at hSw); go_simp; (try with_reducible rfl)
      (try simp only [Act.put, List.getElem_toArray, List.getElem_cons_succ, List.getElem_cons_zero, List.setIfInBounds_toArray, List.set_cons_zero, List.set_cons_succ])
      refine wpAnyH_take (i := 15) (oi := _) (v := ?vq3_15) rfl (by kernel_rfl) (by kernel_rfl) (by kernel_rfl) (fun _ _ _ h => h) (Or.inl ⟨rfl, ?yq3_15⟩) (by assumption) ?_
      case yq3_15 => intro w hSw; (try dsimp only at hSw); (have s1 := byk (HSS.out _ hSw).row 3 (by have := (HSS.out _ hSw).len; omega)); clear hSw; (try simp only [Nat.reduceAdd] at s1); go_simp; (try with_reducible rfl)
      (try simp only [Act.put, List.getElem_toArray, List.getElem_cons_succ, List.getElem_cons_zero, List.setIfInBounds_toArray, List.set_cons_zero, List.set_cons_succ])
      refine wpAnyH_take (i := 16) (oi := _) (v := ?vq3_16) rfl (by kernel_rfl) (by kernel_rfl) (by kernel_rfl) (fun _ _ _ h => h) (Or.inl ⟨rfl, ?yq3_16⟩) (by assumption) ?_
      case yq3_16 => intro w hSw; (try dsimp only at hSw); go_simp; (try with_reducible rfl)
      (try simp only [Act.put, List.getElem_toArray, List.getElem_cons_succ, List.getElem_cons_zero, List.setIfInBounds_toArray, List.set_cons_zero, List.set_cons_succ])
      refine wpAnyH_take (i := 17) (oi := _) (v := ?vq3_17) rfl (by kernel_rfl) (by kernel_rfl) (by kernel_rfl) (fun _ _ _ h => h) (Or.inl ⟨rfl, ?yq3_17⟩) (by assumption) ?_
      case yq3_17 => intro w hSw; (try dsimp only at hSw); go_simp; (try with_reducible rfl)
      (try simp only [Act.put, List.getElem_toArray, List.getElem_cons_succ, List.getElem_cons_zero, List.setIfInBounds_toArray, List.set_cons_zero, List.set_cons_succ])
      refine wpAnyH_take (i := 18) (oi := _) (v := ?vq3_18) rfl (by kernel_rfl) (by kernel_rfl) (by kernel_rfl) (fun _ _ _ h => h) (Or.inl ⟨rfl, ?yq3_18⟩) (by assumption) ?_
      case yq3_18 => intro w hSw; (try dsimp only at hSw); (have s1 := byk (HSS.out _ hSw).row 4 (by have := (HSS.out _ hSw).len; omega)); clear hSw; (try simp only [Nat.reduceAdd] at s1); go_simp; (try with_reducible rfl)
      (try simp only [Act.put, List.getElem_toArray, List.getElem_cons_succ, List.getElem_cons_zero, List.setIfInBounds_toArray, List.set_cons_zero, List.set_cons_succ])
      refine wpAnyH_take (i := 19) (oi := _) (v := ?vq3_19) rfl (by kernel_rfl) (by kernel_rfl) (by kernel_rfl) (fun _ _ _ h => h) (Or.inl ⟨rfl, ?yq3_19⟩) (by assumption) ?_
      case yq3_19 => intro w hSw; (try dsimp only at hSw); go_simp; (try with_reducible rfl)
      (try simp only [Act.put, List.getElem_toArray, List.getElem_cons_succ, List.getElem_cons_zero, List.setIfInBounds_toArray, List.set_cons_zero, List.set_cons_succ])
      refine wpAnyH_take (i := 20) (oi := _) (v := ?vq3_20) rfl (by kernel_rfl) (by kernel_rfl) (by kernel_rfl) (fun _ _ _ h => h) (Or.inl ⟨rfl, ?yq3_20⟩) (by assumption) ?_
      case yq3_20 => intro w hSw; (try dsimp only at hSw); go_simp; (try with_reducible rfl)
      (try simp only [Act.put, List.getElem_toArray, List.getElem_cons_succ, List.getElem_cons_zero, List.setIfInBounds_toArray, List.set_cons_zero, List.set_cons_succ])
      refine wpAnyH_take (i := 21) (oi := _) (v := ?vq3_21) rfl (by kernel_rfl) (by kernel_rfl) (by kernel_rfl) (fun _ _ _ h => h) (Or.inl ⟨rfl, ?yq3_21⟩) (by assumption) ?_
      case yq3_21 => intro w hSw; (try dsimp only at hSw); go_simp; (try with_reducible rfl)
      (try simp only [Act.put, List.getElem_toArray, List.getElem_cons_succ, List.getElem_cons_zero, List.setIfInBounds_toArray, List.set_cons_zero, List.set_cons_succ])
      refine wpAnyH_take (i := 22) (oi := _) (v := ?vq3_22) rfl (by kernel_rfl) (by kernel_rfl) (by kernel_rfl) (fun _ _ _ h => h) (Or.inl ⟨rfl, ?yq3_22⟩) (by assumption) ?_
      case yq3_22 => intro w hSw; (try dsimp only at hSw); go_simp; (try with_reducible rfl)
      (try simp only [Act.put, List.getElem_toArray, List.getElem_cons_succ, List.getElem_cons_zero, List.setIfInBounds_toArray, List.set_cons_zero, List.set_cons_succ])
      refine wpAnyH_take (i := 23) (oi := _) (v := ?vq3_23) rfl (by kernel_rfl) (by kernel_rfl) (by kernel_rfl) (fun _ _ _ h => h) (Or.inl ⟨rfl, ?yq3_23⟩) (by assumption) ?_
      case yq3_23 => intro w hSw; (try dsimp only at hSw); go_simp; (try with_reducible rfl)
      (try simp only [Act.put, List.getElem_toArray, List.getElem_cons_succ, List.getElem_cons_zero, List.setIfInBounds_toArray, List.set_cons_zero, List.set_cons_succ])
      refine wpAnyH_take (i := 24) (oi := _) (v := ?vq3_24) rfl (by kernel_rfl) (by kernel_rfl) (by kernel_rfl) (fun _ _ _ h => h) (Or.inl ⟨rfl, ?yq3_24⟩) (by assumption) ?_
      case yq3_24 => intro w hSw; (try dsimp only at hSw); go_simp; (try with_reducible rfl)
      (try simp only [Act.put, List.getElem_toArray, List.getElem_cons_succ, List.getElem_cons_zero, List.setIfInBounds_toArray, List.set_cons_zero, List.set_cons_succ])
      refine wpAnyH_take (i := 25) (oi := _) (v := ?vq3_25) rfl (by kernel_rfl) (by kernel_rfl) (by kernel_rfl) (fun _ _ _ h => h) (Or.inl ⟨rfl, ?yq3_25⟩) (by assumption) ?_
      case yq3_25 => intro w hSw; (try dsimp only at hSw); go_simp; (try with_reducible rfl)
      (try simp only [Act.put, List.getElem_toArray, List.getElem_cons_succ, List.getElem_cons_zero, List.setIfInBounds_toArray, List.set_cons_zero, List.set_cons_succ])
      refine wpAnyH_take (i := 26) (oi := _) (v := ?vq3_26) rfl (by kernel_rfl) (by kernel_rfl) (by kernel_rfl) (fun _ _ _ h => h) (Or.inl ⟨rfl, ?yq3_26⟩) (by assumption) ?_
      case yq3_26 => intro w hSw; (try dsimp only at hSw); go_simp; (try with_reducible rfl)
      (try simp only [Act.put, List.getElem_toArray, List.getElem_cons_succ, List.getElem_cons_zero, List.setIfInBounds_toArray, List.set_cons_zero, List.set_cons_succ])
      refine wpAnyH_take (i := 27) (oi := _) (v := ?vq3_27) rfl (by kernel_rfl) (by kernel_rfl) (by kernel_rfl) (fun _ _ _ h => h) (Or.inl ⟨rfl, ?yq3_27⟩) (by assumption) ?_
      case yq3_27 => intro w hSw; (try dsimp only at hSw); go_simp; (try with_reducible rfl)
      (try simp only [Act.put, List.getElem_toArray, List.getElem_cons_succ, List.getElem_cons_zero, List.setIfInBounds_toArray, List.set_cons_zero, List.set_cons_succ])
      refine wpAnyH_take (i := 28) (oi := _) (v := ?vq3_28) rfl (by kernel_rfl) (by kernel_rfl) (by kernel_rfl) (fun _ _ _ h => h) (Or.inl ⟨rfl, ?yq3_28⟩) (by assumption) ?_
      case yq3_28 => intro w hSw; (try dsimp only at hSw); go_simp; (try with_reducible rfl)
      (try simp only [Act.put, List.getElem_toArray, List.getElem_cons_succ, List.getElem_cons_zero, List.setIfInBounds_toArray, List.set_cons_zero, List.set_cons_succ])
      refine wpAnyH_take (i := 29) (oi := _) (v := ?vq3_29) rfl (by kernel_rfl) (by kernel_rfl) (by kernel_rfl) (fun _ _ _ h => h) (Or.inl ⟨rfl, ?yq3_29⟩) (by assumption) ?_
      case yq3_29 => intro w hSw; (try dsimp only at hSw); go_simp; (try with_reducible rfl)
      (try simp only [Act.put, List.getElem_toArray, List.getElem_cons_succ, List.getElem_cons_zero, List.setIfInBounds_toArray, List.set_cons_zero, List.set_cons_succ])
      refine wpAnyH_ready (rs := [30]) (by kernel_rfl) (by simp) ?_
      refine AllReadyH.cons (o := _) rfl (fun K hK => ?_) AllReadyH.nil
      go_simp
      refine hK.out _ _ ?_ (fun hHeld => ?_)
      · (try dsimp only); exact HB0.alloc HB0.size _
      clear hK K
      (try simp only [Act.put, List.getElem_toArray, List.getElem_cons_succ, List.getElem_cons_zero, List.setIfInBounds_toArray, List.set_cons_zero, List.set_cons_succ])
      refine wpAnyH_ready (rs := [31]) (by kernel_rfl) (by simp) ?_
      refine AllReadyH.cons (o := _) rfl (fun K hK => ?_) AllReadyH.nil
      rw [if_pos (by rfl)]
      refine wp_store_row (P := Try.prog) _ (.tmp 6) (.tmp 58) rfl (w1.drewN nq).drew.heap.size (cells (beg x) (.slice none 0 0)) rfl (by show Value.agg #[.int .u8 ((by_ x 1).toNat : Int), .int .u8 ((by_ x 2).toNat : Int), .int .u8 ((by_ x 3).toNat : Int), .string ⟨(List.take (kx - 8) (List.drop 8 x)).toArray⟩, .int .u8 ((by_ x 4).toNat : Int), .int .u8 ((by_ x 5).toNat : Int), .bool false, .int .i64 0, .bool false, .int .i64 0, .int .i64 0, .int .i64 0, .int .i64 0, .slice none 0 0, .int .u8 0, .int .u8 0, .int .u8 0, .int .u8 0, .int .u8 0, .int .u8 0, .int .u8 0, .int .u8 0, .int .u8 0, .int .u16 0, .int .u16 0, .int .u16 0, .bool ON, .int .i64 ((SM : Nat) : Int)] = _; rw [HBEG.out, ← HK7.out]; rfl) _ _ (Bx.zero (w1.drewN nq).drew) (by kernel_rfl) rfl (one_cells _ _ rfl) ?_
      refine hK.out _ _ ?_ (fun hHeld => ?_)
      · (try dsimp only); exact HBE
      clear hK K
      (try simp only [Act.put, List.getElem_toArray, List.getElem_cons_succ, List.getElem_cons_zero])
      refine wpAnyH_done (by kernel_rfl) ?_ _
      refine Hid.out ?_
      refine Lib.hid ?_
      have hxF : Bx (((w1.drewN (nq + 1)).alloc (.cells #[.int .u8 0, .int .u8 0, .int .u8 0, .string ⟨#[]⟩, .int .u8 0, .int .u8 0, .bool false, .int .i64 0, .bool false, .int .i64 0, .int .i64 0, .int .i64 0, .int .i64 0, .slice none 0 0, .int .u8 0, .int .u8 0, .int .u8 0, .int .u8 0, .int .u8 0, .int .u8 0, .int .u8 0, .int .u8 0, .int .u8 0, .int .u16 0, .int .u16 0, .int .u16 0, .bool false, .int .i64 0] 59)).setRow (w1.drewN nq).drew.heap.size (cells (beg x) (.slice none 0 0))) w1.heap.size (beg x) (.slice none 0 0) := HXF.out
      have hzF : Bx (((w1.drewN (nq + 1)).alloc (.cells #[.int .u8 0, .int .u8 0, .int .u8 0, .string ⟨#[]⟩, .int .u8 0, .int .u8 0, .bool false, .int .i64 0, .bool false, .int .i64 0, .int .i64 0, .int .i64 0, .int .i64 0, .slice none 0 0, .int .u8 0, .int .u8 0, .int .u8 0, .int .u8 0, .int .u8 0, .int .u8 0, .int .u8 0, .int .u8 0, .int .u8 0, .int .u16 0, .int .u16 0, .int .u16 0, .bool false, .int .i64 0] 59)).setRow (w1.drewN nq).drew.heap.size (cells (beg x) (.slice none 0 0))) w.heap.size noSn (.slice none 0 0) := HZF.out
      have hBF : Below w.heap.size w (((w1.drewN (nq + 1)).alloc (.cells #[.int .u8 0, .int .u8 0, .int .u8 0, .string ⟨#[]⟩, .int .u8 0, .int .u8 0, .bool false, .int .i64 0, .bool false, .int .i64 0, .int .i64 0, .int .i64 0, .int .i64 0, .slice none 0 0, .int .u8 0, .int .u8 0, .int .u8 0, .int .u8 0, .int .u8 0, .int .u8 0, .int .u8 0, .int .u8 0, .int .u8 0, .int .u16 0, .int .u16 0, .int .u16 0, .bool false, .int .i64 0] 59)).setRow (w1.drewN nq).drew.heap.size (cells (beg x) (.slice none 0 0))) := HBE
      have hF1 : w.heap.size < w1.heap.size := hz1.lt
      clear HXF HZF HB0 HBE hHeld
      generalize (((w1.drewN (nq + 1)).alloc (.cells #[.int .u8 0, .int .u8 0, .int .u8 0, .string ⟨#[]⟩, .int .u8 0, .int .u8 0, .bool false, .int .i64 0, .bool false, .int .i64 0, .int .i64 0, .int .i64 0, .int .i64 0, .slice none 0 0, .int .u8 0, .int .u8 0, .int .u8 0, .int .u8 0, .int .u8 0, .int .u8 0, .int .u8 0, .int .u8 0, .int .u8 0, .int .u16 0, .int .u16 0, .int .u16 0, .bool false, .int .i64 0] 59)).setRow (w1.drewN nq).drew.heap.size (cells (beg x) (.slice none 0 0))) = w4 at *
      generalize hFF : w1.heap.size = F at *
      have HFF := Lib.hid hFF
      have kd : w4.cell? ⟨F, 6, none⟩ = some (.bool false) := by
        have := hxF.c 6
        rw [HBEG.out] at this
        exact this
      have hHR := Lib.hid (HSS.out _ hBF)
      clear HSS HRS hFF e1 e2 e3 e4 e4b e5 e6 k0 k6 k7 k0' gi1 gi2 gi3 gi4 gi5 hu8 hW HS1
      go_wp2_with fail
      have hHRd := hHR.out
      have hHeld2 : Sl w4.drew (some a) n c x := ⟨hHRd.len, hHRd.row, hHRd.cap, hHRd.max, hHRd.nil⟩
      have hx4d : Bx w4.drew F (beg x) (.slice none 0 0) := hxF
      have hz4d : Bx w4.drew w.heap.size noSn (.slice none 0 0) := hzF
      have hb4d := below_drew hBF
      have HCALL := Lib.hid (rda_p (beg x) _ _ _ (x.drop kx) w4.drew (sl_tail2 hHeld2 (by omega) hKc) (by omega))
      generalize hRR : rdA (beg x) (x.drop kx) = RR at *
      clear hHRd hHeld2 hRR
      refine wp_region_held_drew (S := (fun W => Bx W F (beg x) (.slice none 0 0))) (by kernel_rfl) ?_ (fun hHeld => ?_)
      · (try dsimp only); exact hx4d
      refine wpAnyH_take (i := 0) (oi := _) (v := ?vq2_0) rfl (by kernel_rfl) (by kernel_rfl) (by kernel_rfl) (fun _ _ _ h => h) (Or.inl ⟨rfl, ?yq2_0⟩) (by assumption) ?_
      case yq2_0 => intro w hSw; (try dsimp only at hSw); ((refine exec_load_bx (.tmp 6) ?_ ?_ hSw) <;> rfl)
      (try simp only [Act.put, List.getElem_toArray, List.getElem_cons_zero, List.setIfInBounds_toArray, List.set_cons_zero, List.set_cons_succ])
      refine wpAnyH_take (i := 1) (oi := _) (v := ?vq2_1) rfl (by kernel_rfl) (by kernel_rfl) (by kernel_rfl) (fun _ _ _ h => h) (Or.inl ⟨rfl, ?yq2_1⟩) (by assumption) ?_
      case yq2_1 => intro w hSw; (try dsimp only at hSw); go_simp; (try with_reducible rfl)
      (try simp only [Act.put, List.getElem_toArray, List.getElem_cons_succ, List.getElem_cons_zero, List.setIfInBounds_toArray, List.set_cons_zero, List.set_cons_succ])
      refine wpAnyH_take (i := 2) (oi := _) (v := ?vq2_2) rfl (by kernel_rfl) (by kernel_rfl) (by kernel_rfl) (fun _ _ _ h => h) (Or.inl ⟨rfl, ?yq2_2⟩) (by assumption) ?_
      case yq2_2 => intro w hSw; (try dsimp only at hSw); go_simp; (try with_reducible rfl)
      (try simp only [Act.put, List.getElem_toArray, List.getElem_cons_succ, List.getElem_cons_zero, List.setIfInBounds_toArray, List.set_cons_zero, List.set_cons_succ])
      refine wpAnyH_take (i := 3) (oi := _) (v := ?vq2_3) rfl (by kernel_rfl) (by kernel_rfl) (by kernel_rfl) (fun _ _ _ h => h) (Or.inl ⟨rfl, ?yq2_3⟩) (by assumption) ?_
      case yq2_3 => intro w hSw; (try dsimp only at hSw); go_simp; (try with_reducible rfl)
      (try simp only [Act.put, List.getElem_toArray, List.getElem_cons_succ, List.getElem_cons_zero, List.setIfInBounds_toArray, List.set_cons_zero, List.set_cons_succ])
      refine wpAnyH_ready (rs := [4]) (by kernel_rfl) (by simp) ?_
      refine AllReadyH.cons (o := _) rfl (fun K hK => ?_) AllReadyH.nil
      go_simp
      go_at_call 111; refine HCALL.out.mono ?_; rintro e w5 ⟨PA, pn, pc, rfl, hp5, hb5⟩; have hx5 := hx4d.below hb5; have hz5 := hz4d.below hb5
      refine hK.out _ _ ?_ (fun hHeld => ?_)
      · (try dsimp only); exact hx5
      clear hK K
      (try simp only [Act.put, List.getElem_toArray, List.getElem_cons_succ, List.getElem_cons_zero, List.setIfInBounds_toArray, List.set_cons_zero, List.set_cons_succ])
      refine wpAnyH_take (i := 5) (oi := _) (v := ?vq2_5) rfl (by kernel_rfl) (by kernel_rfl) (by kernel_rfl) (fun _ _ _ h => h) (Or.inl ⟨rfl, ?yq2_5⟩) (by assumption) ?_
      case yq2_5 => intro w hSw; (try dsimp only at hSw); go_simp; (try with_reducible rfl)
      (try simp only [Act.put, List.getElem_toArray, List.getElem_cons_succ, List.getElem_cons_zero, List.setIfInBounds_toArray, List.set_cons_zero, List.set_cons_succ])
      refine wpAnyH_take (i := 6) (oi := _) (v := ?vq2_6) rfl (by kernel_rfl) (by kernel_rfl) (by kernel_rfl) (fun _ _ _ h => h) (Or.inl ⟨rfl, ?yq2_6⟩) (by assumption) ?_
      case yq2_6 => intro w hSw; (try dsimp only at hSw); go_simp; (try with_reducible rfl)
      (try simp only [Act.put, List.getElem_toArray, List.getElem_cons_succ, List.getElem_cons_zero, List.setIfInBounds_toArray, List.set_cons_zero, List.set_cons_succ])
      refine wpAnyH_ready (rs := [7]) (by kernel_rfl) (by simp) ?_
      refine AllReadyH.cons (o := _) rfl (fun K hK => ?_) AllReadyH.nil
      rw [if_pos (by rfl)]
      refine wp_store_row (P := Try.prog) _ (.tmp 2) (.tmp 73) rfl w.heap.size (cells RR.1 (.slice PA pn pc)) rfl rfl _ _ hz5 (by kernel_rfl) rfl (one_cells _ _ rfl) ?_
      refine hK.out _ _ ?_ (fun hHeld => ?_)
      · (try dsimp only); exact hx5.kept (setRow_gr _ _ _) (fun e => by injection e; omega)
      clear hK K
      (try simp only [Act.put, List.getElem_toArray, List.getElem_cons_succ, List.getElem_cons_zero])
      refine wpAnyH_take (i := 8) (oi := _) (v := ?vq2_8) rfl (by kernel_rfl) (by kernel_rfl) (by kernel_rfl) (fun _ _ _ h => h) (Or.inl ⟨rfl, ?yq2_8⟩) (by assumption) ?_
      case yq2_8 => intro w hSw; (try dsimp only at hSw); go_simp; (try with_reducible rfl)
      (try simp only [Act.put, List.getElem_toArray, List.getElem_cons_succ, List.getElem_cons_zero, List.setIfInBounds_toArray, List.set_cons_zero, List.set_cons_succ])
      refine wpAnyH_done (by kernel_rfl) ?_ _
      have hgr := setRow_gr w5 w.heap.size (cells RR.1 (.slice PA pn pc))
      have hx6 : Bx (w5.setRow w.heap.size (cells RR.1 (.slice PA pn pc))) w.heap.size RR.1 (.slice PA pn pc) := setRow_heap _ _ _ _ _ _ hz5
      have hp6 := psl_far hp5 hz5 ⟨_, _, _, rfl⟩ hgr
      have hb6 := (hb4d.trans (hb5.mono hb4d.size)).grown hgr (Nat.le_of_lt hz5.lt) (fun k hk => by injection hk; omega)
      refine Hid.out ?_
      refine Lib.hid ?_
      go_wp2_with fail
      exact out2 Try.results72 rfl rfl rfl hx6 ⟨PA, pn, pc, rfl, hp6, hb6⟩
    · skip
      subst hKc
      obtain rfl : n = c := by omega
      have c8 : ¬ n = 8 := by omega
      go_enter Try.func72, Try.ntmps72
      go_wp2_with fail
      go_quiet (fail)
      have k0' : (w1.drewN nq).cell? a = some (.int .u8 ((by_ x 0).toNat : Int)) := k0
      go_wp2_with fail
      have HB0 : Below w.heap.size w (w1.drewN nq).drew := below_drew (below_drewN hb1)
      have HBE : Below w.heap.size w (((w1.drewN nq).drew.alloc (.cells #[.int .u8 0, .int .u8 0, .int .u8 0, .string ⟨#[]⟩, .int .u8 0, .int .u8 0, .bool false, .int .i64 0, .bool false, .int .i64 0, .int .i64 0, .int .i64 0, .int .i64 0, .slice none 0 0, .int .u8 0, .int .u8 0, .int .u8 0, .int .u8 0, .int .u8 0, .int .u8 0, .int .u8 0, .int .u8 0, .int .u8 0, .int .u16 0, .int .u16 0, .int .u16 0, .bool false, .int .i64 0] 59)).setRow (w1.drewN nq).drew.heap.size (cells (beg x) (.slice none 0 0))) :=
        (HB0.alloc HB0.size _).grown (setRow_gr _ _ _) (by rw [World.size_alloc]; exact Nat.le_succ_of_le HB0.size) (fun k hk => by injection hk with hk; rw [← hk]; exact HB0.size)
      have hxF : Bx (((w1.drewN nq).drew.alloc (.cells #[.int .u8 0, .int .u8 0, .int .u8 0, .string ⟨#[]⟩, .int .u8 0, .int .u8 0, .bool false, .int .i64 0, .bool false, .int .i64 0, .int .i64 0, .int .i64 0, .int .i64 0, .slice none 0 0, .int .u8 0, .int .u8 0, .int .u8 0, .int .u8 0, .int .u8 0, .int .u8 0, .int .u8 0, .int .u8 0, .int .u8 0, .int .u16 0, .int .u16 0, .int .u16 0, .bool false, .int .i64 0] 59)).setRow (w1.drewN nq).drew.heap.size (cells (beg x) (.slice none 0 0))) (w1.drewN nq).drew.heap.size (beg x) (.slice none 0 0) := setRow_heap _ _ _ _ _ _ (Bx.zero (w1.drewN nq).drew)
      have hzF : Bx (((w1.drewN nq).drew.alloc (.cells #[.int .u8 0, .int .u8 0, .int .u8 0, .string ⟨#[]⟩, .int .u8 0, .int .u8 0, .bool false, .int .i64 0, .bool false, .int .i64 0, .int .i64 0, .int .i64 0, .int .i64 0, .slice none 0 0, .int .u8 0, .int .u8 0, .int .u8 0, .int .u8 0, .int .u8 0, .int .u8 0, .int .u8 0, .int .u8 0, .int .u8 0, .int .u16 0, .int .u16 0, .int .u16 0, .bool false, .int .i64 0] 59)).setRow (w1.drewN nq).drew.heap.size (cells (beg x) (.slice none 0 0))) w.heap.size noSn (.slice none 0 0) :=
        ((show Bx (w1.drewN nq).drew w.heap.size noSn (.slice none 0 0) from hz1).alloc _).kept (setRow_gr _ _ _) (fun e => by injection e with e; have := hz1.lt; rw [e] at this; exact absurd this (Nat.lt_irrefl _))
      have HXF := Lib.hid hxF
      have HZF := Lib.hid hzF
      clear hxF hzF
      refine wp_region_held_drew (S := (fun W => Below w.heap.size w W)) (by kernel_rfl) ?_ (fun hHeld => ?_)
      · (try dsimp only); exact HB0
      refine wpAnyH_take (i := 0) (oi := _) (v := ?vq5_0) rfl (by kernel_rfl) (by kernel_rfl) (by kernel_rfl) (fun _ _ _ h => h) (Or.inl ⟨rfl, ?yq5_0⟩) (by assumption) ?_
      case yq5_0 => intro w hSw; (try dsimp only at hSw); go_simp; (try with_reducible rfl)
      (try simp only [Act.put, List.getElem_toArray, List.getElem_cons_zero, List.setIfInBounds_toArray, List.set_cons_zero, List.set_cons_succ])
      refine wpAnyH_take (i := 1) (oi := _) (v := ?vq5_1) rfl (by kernel_rfl) (by kernel_rfl) (by kernel_rfl) (fun _ _ _ h => h) (Or.inl ⟨rfl, ?yq5_1⟩) (by assumption) ?_
      case yq5_1 => intro w hSw; (try dsimp only at hSw); go_simp; (try with_reducible rfl)
      (try simp only [Act.put, List.getElem_toArray, List.getElem_cons_succ, List.getElem_cons_zero, List.setIfInBounds_toArray, List.set_cons_zero, List.set_cons_succ])
      refine wpAnyH_take (i := 2) (oi := _) (v := ?vq5_2) rfl (by kernel_rfl) (by kernel_rfl) (by kernel_rfl) (fun _ _ _ h => h) (Or.inl ⟨rfl, ?yq5_2⟩) (by assumption) ?_
      case yq5_2 => intro w hSw; (try dsimp only at hSw); (have s1 := byk (HSS.out _ hSw).row 0 (by have := (HSS.out _ hSw).len; omega)); clear hSw; (try simp only [Nat.zero_add] at s1); go_simp; (try with_reducible rfl)
      (try simp only [Act.put, List.getElem_toArray, List.getElem_cons_succ, List.getElem_cons_zero, List.setIfInBounds_toArray, List.set_cons_zero, List.set_cons_succ])
      refine wpAnyH_take (i := 3) (oi := _) (v := ?vq5_3) rfl (by kernel_rfl) (by kernel_rfl) (by kernel_rfl) (fun _ _ _ h => h) (Or.inl ⟨rfl, ?yq5_3⟩) (by assumption) ?_
      case yq5_3 => intro w hSw; (try dsimp only at hSw); go_simp; (try with_reducible rfl)
      (try simp only [Act.put, List.getElem_toArray, List.getElem_cons_succ, List.getElem_cons_zero, List.setIfInBounds_toArray, List.set_cons_zero, List.set_cons_succ])
      refine wpAnyH_take (i := 4) (oi := _) (v := ?vq5_4) rfl (by kernel_rfl) (by kernel_rfl) (by kernel_rfl) (fun _ _ _ h => h) (Or.inl ⟨rfl, ?yq5_4⟩) (by assumption) ?_
      case yq5_4 => intro w hSw; (try dsimp only at hSw); go_simp; (try with_reducible rfl)
      (try simp only [Act.put, List.getElem_toArray, List.getElem_cons_succ, List.getElem_cons_zero, List.setIfInBounds_toArray, List.set_cons_zero, List.set_cons_succ])
      refine wpAnyH_take (i := 5) (oi := _) (v := ?vq5_5) rfl (by kernel_rfl) (by kernel_rfl) (by kernel_rfl) (fun _ _ _ h => h) (Or.inl ⟨rfl, ?yq5_5⟩) (by assumption) ?_
      case yq5_5 => intro w hSw; (try dsimp only at hSw); (have s1 := byk (HSS.out _ hSw).row 1 (by have := (HSS.out _ hSw).len; omega)); clear hSw; (try simp only [Nat.reduceAdd] at s1); go_simp; (try with_reducible rfl)
      (try simp only [Act.put, List.getElem_toArray, List.getElem_cons_succ, List.getElem_cons_zero, List.setIfInBounds_toArray, List.set_cons_zero, List.set_cons_succ])
      refine wpAnyH_take (i := 6) (oi := _) (v := ?vq5_6) rfl (by kernel_rfl) (by kernel_rfl) (by kernel_rfl) (fun _ _ _ h => h) (Or.inl ⟨rfl, ?yq5_6⟩) (by assumption) ?_
      case yq5_6 => intro w hSw; (try dsimp only at hSw); go_simp; (try with_reducible rfl)
      (try simp only [Act.put, List.getElem_toArray, List.getElem_cons_succ, List.getElem_cons_zero, List.setIfInBounds_toArray, List.set_cons_zero, List.set_cons_succ])
      refine wpAnyH_take (i := 7) (oi := _) (v := ?vq5_7) rfl (by kernel_rfl) (by kernel_rfl) (by kernel_rfl) (fun _ _ _ h => h) (Or.inl ⟨rfl, ?yq5_7⟩) (by assumption) ?_
      case yq5_7 => intro w hSw; (try dsimp only at hSw); go_simp; (try with_reducible rfl)
      (try simp only [Act.put, List.getElem_toArray, List.getElem_cons_succ, List.getElem_cons_zero, List.setIfInBounds_toArray, List.set_cons_zero, List.set_cons_succ])
      refine wpAnyH_take (i := 8) (oi := _) (v := ?vq5_8) rfl (by kernel_rfl) (by kernel_rfl) (by kernel_rfl) (fun _ _ _ h => h) (Or.inl ⟨rfl, ?yq5_8⟩) (by assumption) ?_
      case yq5_8 => intro w hSw; (try dsimp only at hSw); (have s1 := byk (HSS.out _ hSw).row 2 (by have := (HSS.out _ hSw).len; omega)); clear hSw; (try simp only [Nat.reduceAdd] at s1); go_simp; (try with_reducible rfl)
      (try simp only [Act.put, List.getElem_toArray, List.getElem_cons_succ, List.getElem_cons_zero, List.setIfInBounds_toArray, List.set_cons_zero, List.set_cons_succ])
      refine wpAnyH_take (i := 9) (oi := _) (v := ?vq5_9) rfl (by kernel_rfl) (by kernel_rfl) (by kernel_rfl) (fun _ _ _ h => h) (Or.inl ⟨rfl, ?yq5_9⟩) (by assumption) ?_
      case yq5_9 => intro w hSw; (try dsimp only at hSw); go_simp; (try with_reducible rfl)
      (try simp only [Act.put, List.getElem_toArray, List.getElem_cons_succ, List.getElem_cons_zero, List.setIfInBounds_toArray, List.set_cons_zero, List.set_cons_succ])
      refine wpAnyH_take (i := 10) (oi := _) (v := ?vq5_10) rfl (by kernel_rfl) (by kernel_rfl) (by kernel_rfl) (fun _ _ _ h => h) (Or.inl ⟨rfl, ?yq5_10⟩) (by assumption) ?_
      case yq5_10 => intro w hSw; (try dsimp only at hSw); go_simp; (try with_reducible rfl)
      (try simp only [Act.put, List.getElem_toArray, List.getElem_cons_succ, List.getElem_cons_zero, List.setIfInBounds_toArray, List.set_cons_zero, List.set_cons_succ])
      refine wpAnyH_take (i := 11) (oi := _) (v := ?vq5_11) rfl (by kernel_rfl) (by kernel_rfl) (by kernel_rfl) (fun _ _ _ h => h) (Or.inl ⟨rfl, ?yq5_11⟩) (by assumption) ?_
      case yq5_11 => intro w hSw; (try dsimp only at hSw); go_simp; (try with_reducible rfl)
      (try simp only [Act.put, List.getElem_toArray, List.getElem_cons_succ, List.getElem_cons_zero, List.setIfInBounds_toArray, List.set_cons_zero, List.set_cons_succ])
      refine wpAnyH_take (i := 12) (oi := _) (v := ?vq5_12) rfl (by kernel_rfl) (by kernel_rfl) (by kernel_rfl) (fun _ _ _ h => h) (Or.inl ⟨rfl, ?yq5_12⟩) (by assumption) ?_
      case yq5_12 => intro w hSw; (try dsimp only at hSw); (have s1 := conv_sb (sl_piece (HSS.out _ hSw) (by omega) (by omega) (kx := n) (by omega))); clear hSw; go_simp; (try with_reducible rfl)
      (try simp only [Act.put, List.getElem_toArray, List.getElem_cons_succ, List.getElem_cons_zero, List.setIfInBounds_toArray, List.set_cons_zero, List.set_cons_succ])
      refine wpAnyH_take (i := 13) (oi := _) (v := ?vq5_13) rfl (by kernel_rfl) (by kernel_rfl) (by kernel_rfl) (fun _ _ _ h => h) (Or.inl ⟨rfl, ?yq5_13⟩) (by assumption) ?_
      case yq5_13 => intro w hSw; (try dsimp only at hSw); go_simp; (try with_reducible rfl)
      (try simp only [Act.put, List.getElem_toArray, List.getElem_cons_succ, List.getElem_cons_zero, List.setIfInBounds_toArray, List.set_cons_zero, List.set_cons_succ])
      refine wpAnyH_take (i := 14) (oi := _) (v := ?vq5_14) rfl (by kernel_rfl) (by kernel_rfl) (by kernel_rfl) (fun _ _ _ h => h) (Or.inl ⟨rfl, ?yq5_14⟩) (by assumption) ?_
      case yq5_14 => intro w hSw; (try dsimp only at hSw); go_simp; (try with_reducible rfl)
      (try simp only [Act.put, List.getElem_toArray, List.getElem_cons_succ, List.getElem_cons_zero, List.setIfInBounds_toArray, List.set_cons_zero, List.set_cons_succ])
      refine wpAnyH_take (i := 15) (oi := _) (v := ?vq5_15) rfl (by kernel_rfl) (by kernel_rfl) (by kernel_rfl) (fun _ _ _ h => h) (Or.inl ⟨rfl, ?yq5_15⟩) (by assumption) ?_
      case yq5_15 => intro w hSw; (try dsimp only at hSw); (have s1 := byk (HSS.out _ hSw).row 3 (by have := (HSS.out _ hSw).len; omega)); clear hSw; (try simp only [Nat.reduceAdd] at s1); go_simp; (try with_reducible rfl)
      (try simp only [Act.put, List.getElem_toArray, List.getElem_cons_succ, List.getElem_cons_zero, List.setIfInBounds_toArray, List.set_cons_zero, List.set_cons_succ])
      refine wpAnyH_take (i := 16) (oi := _) (v := ?vq5_16) rfl (by kernel_rfl) (by kernel_rfl) (by kernel_rfl) (fun _ _ _ h => h) (Or.inl ⟨rfl, ?yq5_16⟩) (by assumption) ?_
      case yq5_16 => intro w hSw; (try dsimp only at hSw); go_simp; (try with_reducible rfl)
      (try simp only [Act.put, List.getElem_toArray, List.getElem_cons_succ, List.getElem_cons_zero, List.setIfInBounds_toArray, List.set_cons_zero, List.set_cons_succ])
      refine wpAnyH_take (i := 17) (oi := _) (v := ?vq5_17) rfl (by kernel_rfl) (by kernel_rfl) (by kernel_rfl) (fun _ _ _ h => h) (Or.inl ⟨rfl, ?yq5_17⟩) (by assumption) ?_
      case yq5_17 => intro w hSw; (try dsimp only at hSw); go_simp; (try with_reducible rfl)
      (try simp only [Act.put, List.getElem_toArray, List.getElem_cons_succ, List.getElem_cons_zero, List.setIfInBounds_toArray, List.set_cons_zero, List.set_cons_succ])
      refine wpAnyH_take (i := 18) (oi := _) (v := ?vq5_18) rfl (by kernel_rfl) (by kernel_rfl) (by kernel_rfl) (fun _ _ _ h => h) (Or.inl ⟨rfl, ?yq5_18⟩) (by assumption) ?_
      case yq5_18 => intro w hSw; (try dsimp only at hSw); (have s1 := byk (HSS.out _ hSw).row 4 (by have := (HSS.out _ hSw).len; omega)); clear hSw; (try simp only [Nat.reduceAdd] at s1); go_simp; (try with_reducible rfl)
      (try simp only [Act.put, List.getElem_toArray, List.getElem_cons_succ, List.getElem_cons_zero, List.setIfInBounds_toArray, List.set_cons_zero, List.set_cons_succ])
      refine wpAnyH_take (i := 19) (oi := _) (v := ?vq5_19) rfl (by kernel_rfl) (by kernel_rfl) (by kernel_rfl) (fun _ _ _ h => h) (Or.inl ⟨rfl, ?yq5_19⟩) (by assumption) ?_
      case yq5_19 => intro w hSw; (try dsimp only at hSw); go_simp; (try with_reducible rfl)
      (try simp only [Act.put, List.getElem_toArray, List.getElem_cons_succ, List.getElem_cons_zero, List.setIfInBounds_toArray, List.set_cons_zero, List.set_cons_succ])
      refine wpAnyH_take (i := 20) (oi := _) (v := ?vq5_20) rfl (by kernel_rfl) (by kernel_rfl) (by kernel_rfl) (fun _ _ _ h => h) (Or.inl ⟨rfl, ?yq5_20⟩) (by assumption) ?_
      case yq5_20 => intro w hSw; (try dsimp only at hSw); go_simp; (try with_reducible rfl)
      (try simp only [Act.put, List.getElem_toArray, List.getElem_cons_succ, List.getElem_cons_zero, List.setIfInBounds_toArray, List.set_cons_zero, List.set_cons_succ])
      refine wpAnyH_take (i := 21) (oi := _) (v := ?vq5_21) rfl (by kernel_rfl) (by kernel_rfl) (by kernel_rfl) (fun _ _ _ h => h) (Or.inl ⟨rfl, ?yq5_21⟩) (by assumption) ?_
      case yq5_21 => intro w hSw; (try dsimp only at hSw); go_simp; (try with_reducible rfl)
      (try simp only [Act.put, List.getElem_toArray, List.getElem_cons_succ, List.getElem_cons_zero, List.setIfInBounds_toArray, List.set_cons_zero, List.set_cons_succ])
      refine wpAnyH_take (i := 22) (oi := _) (v := ?vq5_22) rfl (by kernel_rfl) (by kernel_rfl) (by kernel_rfl) (fun _ _ _ h => h) (Or.inl ⟨rfl, ?yq5_22⟩) (by assumption) ?_
      case yq5_22 => intro w hSw; (try dsimp only at hSw); go_simp; (try with_reducible rfl)
      (try simp only [Act.put, List.getElem_toArray, List.getElem_cons_succ, List.getElem_cons_zero, List.setIfInBounds_toArray, List.set_cons_zero, List.set_cons_succ])
      refine wpAnyH_take (i := 23) (oi := _) (v := ?vq5_23) rfl (by kernel_rfl) (by kernel_rfl) (by kernel_rfl) (fun _ _ _ h => h) (Or.inl ⟨rfl, ?yq5_23⟩) (by assumption) ?_
      case yq5_23 => intro w hSw; (try dsimp only at hSw); go_simp; (try with_reducible rfl)
      (try simp only [Act.put, List.getElem_toArray, List.getElem_cons_succ, List.getElem_cons_zero, List.setIfInBounds_toArray, List.set_cons_zero, List.set_cons_succ])
      refine wpAnyH_take (i := 24) (oi := _) (v := ?vq5_24) rfl (by kernel_rfl) (by kernel_rfl) (by kernel_rfl) (fun _ _ _ h => h) (Or.inl ⟨rfl, ?yq5_24⟩) (by assumption) ?_
      case yq5_24 => intro w hSw; (try dsimp only at hSw); go_simp; (try with_reducible rfl)
      (try simp only [Act.put, List.getElem_toArray, List.getElem_cons_succ, List.getElem_cons_zero, List.setIfInBounds_toArray, List.set_cons_zero, List.set_cons_succ])
      refine wpAnyH_take (i := 25) (oi := _) (v := ?vq5_25) rfl (by kernel_rfl) (by kernel_rfl) (by kernel_rfl) (fun _ _ _ h => h) (Or.inl ⟨rfl, ?yq5_25⟩) (by assumption) ?_
      case yq5_25 => intro w hSw; (try dsimp only at hSw); go_simp; (try with_reducible rfl)
      (try simp only [Act.put, List.getElem_toArray, List.getElem_cons_succ, List.getElem_cons_zero, List.setIfInBounds_toArray, List.set_cons_zero, List.set_cons_succ])
      refine wpAnyH_take (i := 26) (oi := _) (v := ?vq5_26) rfl (by kernel_rfl) (by kernel_rfl) (by kernel_rfl) (fun _ _ _ h => h) (Or.inl ⟨rfl, ?yq5_26⟩) (by assumption) ?_
      case yq5_26 => intro w hSw; (try dsimp only at hSw); go_simp; (try with_reducible rfl)
      (try simp only [Act.put, List.getElem_toArray, List.getElem_cons_succ, List.getElem_cons_zero, List.setIfInBounds_toArray, List.set_cons_zero, List.set_cons_succ])
      refine wpAnyH_take (i := 27) (oi := _) (v := ?vq5_27) rfl (by kernel_rfl) (by kernel_rfl) (by kernel_rfl) (fun _ _ _ h => h) (Or.inl ⟨rfl, ?yq5_27⟩) (by assumption) ?_
      case yq5_27 => intro w hSw; (try dsimp only at hSw); go_simp; (try with_reducible rfl)
      (try simp only [Act.put, List.getElem_toArray, List.getElem_cons_succ, List.getElem_cons_zero, List.setIfInBounds_toArray, List.set_cons_zero, List.set_cons_succ])
      refine wpAnyH_take (i := 28) (oi := _) (v := ?vq5_28) rfl (by kernel_rfl) (by kernel_rfl) (by kernel_rfl) (fun _ _ _ h => h) (Or.inl ⟨rfl, ?yq5_28⟩) (by assumption) ?_
      case yq5_28 => intro w hSw; (try dsimp only at hSw); go_simp; (try with_reducible rfl)
      (try simp only [Act.put, List.getElem_toArray, List.getElem_cons_succ, List.getElem_cons_zero, List.setIfInBounds_toArray, List.set_cons_zero, List.set_cons_succ])
      refine wpAnyH_take (i := 29) (oi := _) (v := ?vq5_29) rfl (by kernel_rfl) (by kernel_rfl) (by kernel_rfl) (fun _ _ _ h => h) (Or.inl ⟨rfl, ?yq5_29⟩) (by assumption) ?_
      case yq5_29 => intro w hSw; (try dsimp only at hSw); go_simp; (try with_reducible rfl)
      (try simp only [Act.put, List.getElem_toArray, List.getElem_cons_succ, List.getElem_cons_zero, List.setIfInBounds_toArray, List.set_cons_zero, List.set_cons_succ])
      refine wpAnyH_ready (rs := [30]) (by kernel_rfl) (by simp) ?_
      refine AllReadyH.cons (o := _) rfl (fun K hK => ?_) AllReadyH.nil
      go_simp
      refine hK.out _ _ ?_ (fun hHeld => ?_)
      · (try dsimp only); exact HB0.alloc HB0.size _
      clear hK K
      (try simp only [Act.put, List.getElem_toArray, List.getElem_cons_succ, List.getElem_cons_zero, List.setIfInBounds_toArray, List.set_cons_zero, List.set_cons_succ])
      refine wpAnyH_ready (rs := [31]) (by kernel_rfl) (by simp) ?_
      refine AllReadyH.cons (o := _) rfl (fun K hK => ?_) AllReadyH.nil
      rw [if_pos (by rfl)]
      refine wp_store_row (P := Try.prog) _ (.tmp 6) (.tmp 58) rfl (w1.drewN nq).drew.heap.size (cells (beg x) (.slice none 0 0)) rfl (by show Value.agg #[.int .u8 ((by_ x 1).toNat : Int), .int .u8 ((by_ x 2).toNat : Int), .int .u8 ((by_ x 3).toNat : Int), .string ⟨(List.take (n - 8) (List.drop 8 x)).toArray⟩, .int .u8 ((by_ x 4).toNat : Int), .int .u8 ((by_ x 5).toNat : Int), .bool false, .int .i64 0, .bool false, .int .i64 0, .int .i64 0, .int .i64 0, .int .i64 0, .slice none 0 0, .int .u8 0, .int .u8 0, .int .u8 0, .int .u8 0, .int .u8 0, .int .u8 0, .int .u8 0, .int .u8 0, .int .u8 0, .int .u16 0, .int .u16 0, .int .u16 0, .bool ON, .int .i64 ((SM : Nat) : Int)] = _; rw [HBEG.out, ← HK7.out]; rfl) _ _ (Bx.zero (w1.drewN nq).drew) (by kernel_rfl) rfl (one_cells _ _ rfl) ?_
      refine hK.out _ _ ?_ (fun hHeld => ?_)
      · (try dsimp only); exact HBE
      clear hK K
      (try simp only [Act.put, List.getElem_toArray, List.getElem_cons_succ, List.getElem_cons_zero])
      refine wpAnyH_done (by kernel_rfl) ?_ _
      refine Hid.out ?_
      refine Lib.hid ?_
      have hxF : Bx (((w1.drewN (nq + 1)).alloc (.cells #[.int .u8 0, .int .u8 0, .int .u8 0, .string ⟨#[]⟩, .int .u8 0, .int .u8 0, .bool false, .int .i64 0, .bool false, .int .i64 0, .int .i64 0, .int .i64 0, .int .i64 0, .slice none 0 0, .int .u8 0, .int .u8 0, .int .u8 0, .int .u8 0, .int .u8 0, .int .u8 0, .int .u8 0, .int .u8 0, .int .u8 0, .int .u16 0, .int .u16 0, .int .u16 0, .bool false, .int .i64 0] 59)).setRow (w1.drewN nq).drew.heap.size (cells (beg x) (.slice none 0 0))) w1.heap.size (beg x) (.slice none 0 0) := HXF.out
      have hzF : Bx (((w1.drewN (nq + 1)).alloc (.cells #[.int .u8 0, .int .u8 0, .int .u8 0, .string ⟨#[]⟩, .int .u8 0, .int .u8 0, .bool false, .int .i64 0, .bool false, .int .i64 0, .int .i64 0, .int .i64 0, .int .i64 0, .slice none 0 0, .int .u8 0, .int .u8 0, .int .u8 0, .int .u8 0, .int .u8 0, .int .u8 0, .int .u8 0, .int .u8 0, .int .u8 0, .int .u16 0, .int .u16 0, .int .u16 0, .bool false, .int .i64 0] 59)).setRow (w1.drewN nq).drew.heap.size (cells (beg x) (.slice none 0 0))) w.heap.size noSn (.slice none 0 0) := HZF.out
      have hBF : Below w.heap.size w (((w1.drewN (nq + 1)).alloc (.cells #[.int .u8 0, .int .u8 0, .int .u8 0, .string ⟨#[]⟩, .int .u8 0, .int .u8 0, .bool false, .int .i64 0, .bool false, .int .i64 0, .int .i64 0, .int .i64 0, .int .i64 0, .slice none 0 0, .int .u8 0, .int .u8 0, .int .u8 0, .int .u8 0, .int .u8 0, .int .u8 0, .int .u8 0, .int .u8 0, .int .u8 0, .int .u16 0, .int .u16 0, .int .u16 0, .bool false, .int .i64 0] 59)).setRow (w1.drewN nq).drew.heap.size (cells (beg x) (.slice none 0 0))) := HBE
      have hF1 : w.heap.size < w1.heap.size := hz1.lt
      clear HXF HZF HB0 HBE hHeld
      generalize (((w1.drewN (nq + 1)).alloc (.cells #[.int .u8 0, .int .u8 0, .int .u8 0, .string ⟨#[]⟩, .int .u8 0, .int .u8 0, .bool false, .int .i64 0, .bool false, .int .i64 0, .int .i64 0, .int .i64 0, .int .i64 0, .slice none 0 0, .int .u8 0, .int .u8 0, .int .u8 0, .int .u8 0, .int .u8 0, .int .u8 0, .int .u8 0, .int .u8 0, .int .u8 0, .int .u16 0, .int .u16 0, .int .u16 0, .bool false, .int .i64 0] 59)).setRow (w1.drewN nq).drew.heap.size (cells (beg x) (.slice none 0 0))) = w4 at *
      generalize hFF : w1.heap.size = F at *
      have HFF := Lib.hid hFF
      have kd : w4.cell? ⟨F, 6, none⟩ = some (.bool false) := by
        have := hxF.c 6
        rw [HBEG.out] at this
        exact this
      have hHR := Lib.hid (HSS.out _ hBF)
      clear HSS HRS hFF e1 e2 e3 e4 e4b e5 e6 k0 k6 k7 k0' gi1 gi2 gi3 gi4 gi5 hu8 hW HS1
      go_wp2_with fail
      have hHRd := hHR.out
      have hHeld2 : Sl w4.drew (some a) n n x := ⟨hHRd.len, hHRd.row, hHRd.cap, hHRd.max, hHRd.nil⟩
      have hx4d : Bx w4.drew F (beg x) (.slice none 0 0) := hxF
      have hz4d : Bx w4.drew w.heap.size noSn (.slice none 0 0) := hzF
      have hb4d := below_drew hBF
      have HCALL := Lib.hid (rda_p (beg x) _ _ _ (x.drop n) w4.drew (sl_zero' hHeld2) (by omega))
      generalize hRR : rdA (beg x) (x.drop n) = RR at *
      clear hHRd hHeld2 hRR
      refine wp_region_held_drew (S := (fun W => Bx W F (beg x) (.slice none 0 0))) (by kernel_rfl) ?_ (fun hHeld => ?_)
      · (try dsimp only); exact hx4d
      refine wpAnyH_take (i := 0) (oi := _) (v := ?vq4_0) rfl (by kernel_rfl) (by kernel_rfl) (by kernel_rfl) (fun _ _ _ h => h) (Or.inl ⟨rfl, ?yq4_0⟩) (by assumption) ?_
      case yq4_0 => intro w hSw; (try dsimp only at hSw); ((refine exec_load_bx (.tmp 6) ?_ ?_ hSw) <;> rfl)
      (try simp only [Act.put, List.getElem_toArray, List.getElem_cons_zero, List.setIfInBounds_toArray, List.set_cons_zero, List.set_cons_succ])
      refine wpAnyH_take (i := 1) (oi := _) (v := ?vq4_1) rfl (by kernel_rfl) (by kernel_rfl) (by kernel_rfl) (fun _ _ _ h => h) (Or.inl ⟨rfl, ?yq4_1⟩) (by assumption) ?_
      case yq4_1 => intro w hSw; (try dsimp only at hSw); go_simp; (try with_reducible rfl)
      (try simp only [Act.put, List.getElem_toArray, List.getElem_cons_succ, List.getElem_cons_zero, List.setIfInBounds_toArray, List.set_cons_zero, List.set_cons_succ])
      refine wpAnyH_take (i := 2) (oi := _) (v := ?vq4_2) rfl (by kernel_rfl) (by kernel_rfl) (by kernel_rfl) (fun _ _ _ h => h) (Or.inl ⟨rfl, ?yq4_2⟩) (by assumption) ?_
      case yq4_2 => intro w hSw; (try dsimp only at hSw); go_simp; (try with_reducible rfl)
      (try simp only [Act.put, List.getElem_toArray, List.getElem_cons_succ, List.getElem_cons_zero, List.setIfInBounds_toArray, List.set_cons_zero, List.set_cons_succ])
      refine wpAnyH_take (i := 3) (oi := _) (v := ?vq4_3) rfl (by kernel_rfl) (by kernel_rfl) (by kernel_rfl) (fun _ _ _ h => h) (Or.inl ⟨rfl, ?yq4_3⟩) (by assumption) ?_
      case yq4_3 => intro w hSw; (try dsimp only at hSw); go_simp; (try with_reducible rfl)
      (try simp only [Act.put, List.getElem_toArray, List.getElem_cons_succ, List.getElem_cons_zero, List.setIfInBounds_toArray, List.set_cons_zero, List.set_cons_succ])
      refine wpAnyH_ready (rs := [4]) (by kernel_rfl) (by simp) ?_
      refine AllReadyH.cons (o := _) rfl (fun K hK => ?_) AllReadyH.nil
      go_simp
      go_at_call 111; refine HCALL.out.mono ?_; rintro e w5 ⟨PA, pn, pc, rfl, hp5, hb5⟩; have hx5 := hx4d.below hb5; have hz5 := hz4d.below hb5
      refine hK.out _ _ ?_ (fun hHeld => ?_)
      · (try dsimp only); exact hx5
      clear hK K
      (try simp only [Act.put, List.getElem_toArray, List.getElem_cons_succ, List.getElem_cons_zero, List.setIfInBounds_toArray, List.set_cons_zero, List.set_cons_succ])
      refine wpAnyH_take (i := 5) (oi := _) (v := ?vq4_5) rfl (by kernel_rfl) (by kernel_rfl) (by kernel_rfl) (fun _ _ _ h => h) (Or.inl ⟨rfl, ?yq4_5⟩) (by assumption) ?_
      case yq4_5 => intro w hSw; (try dsimp only at hSw); go_simp; (try with_reducible rfl)
      (try simp only [Act.put, List.getElem_toArray, List.getElem_cons_succ, List.getElem_cons_zero, List.setIfInBounds_toArray, List.set_cons_zero, List.set_cons_succ])
      refine wpAnyH_take (i := 6) (oi := _) (v := ?vq4_6) rfl (by kernel_rfl) (by kernel_rfl) (by kernel_rfl) (fun _ _ _ h => h) (Or.inl ⟨rfl, ?yq4_6⟩) (by assumption) ?_
      case yq4_6 => intro w hSw; (try dsimp only at hSw); go_simp; (try with_reducible rfl)
      (try simp only [Act.put, List.getElem_toArray, List.getElem_cons_succ, List.getElem_cons_zero, List.setIfInBounds_toArray, List.set_cons_zero, List.set_cons_succ])
      refine wpAnyH_ready (rs := [7]) (by kernel_rfl) (by simp) ?_
      refine AllReadyH.cons (o := _) rfl (fun K hK => ?_) AllReadyH.nil
      rw [if_pos (by rfl)]
      refine wp_store_row (P := Try.prog) _ (.tmp 2) (.tmp 73) rfl w.heap.size (cells RR.1 (.slice PA pn pc)) rfl rfl _ _ hz5 (by kernel_rfl) rfl (one_cells _ _ rfl) ?_
      refine hK.out _ _ ?_ (fun hHeld => ?_)
      · (try dsimp only); exact hx5.kept (setRow_gr _ _ _) (fun e => by injection e; omega)
      clear hK K
      (try simp only [Act.put, List.getElem_toArray, List.getElem_cons_succ, List.getElem_cons_zero])
      refine wpAnyH_take (i := 8) (oi := _) (v := ?vq4_8) rfl (by kernel_rfl) (by kernel_rfl) (by kernel_rfl) (fun _ _ _ h => h) (Or.inl ⟨rfl, ?yq4_8⟩) (by assumption) ?_
      case yq4_8 => intro w hSw; (try dsimp only at hSw); go_simp; (try with_reducible rfl)
      (try simp only [Act.put, List.getElem_toArray, List.getElem_cons_succ, List.getElem_cons_zero, List.setIfInBounds_toArray, List.set_cons_zero, List.set_cons_succ])
      refine wpAnyH_done (by kernel_rfl) ?_ _
      have hgr := setRow_gr w5 w.heap.size (cells RR.1 (.slice PA pn pc))
      have hx6 : Bx (w5.setRow w.heap.size (cells RR.1 (.slice PA pn pc))) w.heap.size RR.1 (.slice PA pn pc) := setRow_heap _ _ _ _ _ _ hz5
      have hp6 := psl_far hp5 hz5 ⟨_, _, _, rfl⟩ hgr
      have hb6 := (hb4d.trans (hb5.mono hb4d.size)).grown hgr (Nat.le_of_lt hz5.lt) (fun k hk => by injection hk; omega)
      refine Hid.out ?_
      refine Lib.hid ?_
      go_wp2_with fail
      exact out2 Try.results72 rfl rfl rfl hx6 ⟨PA, pn, pc, rfl, hp6, hb6⟩
    · skip
      subst hKc
      subst h8c
      obtain rfl : n = 8 := by omega
      go_enter Try.func72, Try.ntmps72
      go_wp2_with fail
      go_quiet (fail)
      have k0' : (w1.drewN nq).cell? a = some (.int .u8 ((by_ x 0).toNat : Int)) := k0
      go_wp2_with fail
      have HB0 : Below w.heap.size w (w1.drewN nq).drew := below_drew (below_drewN hb1)
      have HBE : Below w.heap.size w (((w1.drewN nq).drew.alloc (.cells #[.int .u8 0, .int .u8 0, .int .u8 0, .string ⟨#[]⟩, .int .u8 0, .int .u8 0, .bool false, .int .i64 0, .bool false, .int .i64 0, .int .i64 0, .int .i64 0, .int .i64 0, .slice none 0 0, .int .u8 0, .int .u8 0, .int .u8 0, .int .u8 0, .int .u8 0, .int .u8 0, .int .u8 0, .int .u8 0, .int .u8 0, .int .u16 0, .int .u16 0, .int .u16 0, .bool false, .int .i64 0] 59)).setRow (w1.drewN nq).drew.heap.size (cells (beg x) (.slice none 0 0))) :=
        (HB0.alloc HB0.size _).grown (setRow_gr _ _ _) (by rw [World.size_alloc]; exact Nat.le_succ_of_le HB0.size) (fun k hk => by injection hk with hk; rw [← hk]; exact HB0.size)
      have hxF : Bx (((w1.drewN nq).drew.alloc (.cells #[.int .u8 0, .int .u8 0, .int .u8 0, .string ⟨#[]⟩, .int .u8 0, .int .u8 0, .bool false, .int .i64 0, .bool false, .int .i64 0, .int .i64 0, .int .i64 0, .int .i64 0, .slice none 0 0, .int .u8 0, .int .u8 0, .int .u8 0, .int .u8 0, .int .u8 0, .int .u8 0, .int .u8 0, .int .u8 0, .int .u8 0, .int .u16 0, .int .u16 0, .int .u16 0, .bool false, .int .i64 0] 59)).setRow (w1.drewN nq).drew.heap.size (cells (beg x) (.slice none 0 0))) (w1.drewN nq).drew.heap.size (beg x) (.slice none 0 0) := setRow_heap _ _ _ _ _ _ (Bx.zero (w1.drewN nq).drew)
      have hzF : Bx (((w1.drewN nq).drew.alloc (.cells #[.int .u8 0, .int .u8 0, .int .u8 0, .string ⟨#[]⟩, .int .u8 0, .int .u8 0, .bool false, .int .i64 0, .bool false, .int .i64 0, .int .i64 0, .int .i64 0, .int .i64 0, .slice none 0 0, .int .u8 0, .int .u8 0, .int .u8 0, .int .u8 0, .int .u8 0, .int .u8 0, .int .u8 0, .int .u8 0, .int .u8 0, .int .u16 0, .int .u16 0, .int .u16 0, .bool false, .int .i64 0] 59)).setRow (w1.drewN nq).drew.heap.size (cells (beg x) (.slice none 0 0))) w.heap.size noSn (.slice none 0 0) :=
        ((show Bx (w1.drewN nq).drew w.heap.size noSn (.slice none 0 0) from hz1).alloc _).kept (setRow_gr _ _ _) (fun e => by injection e with e; have := hz1.lt; rw [e] at this; exact absurd this (Nat.lt_irrefl _))
      have HXF := Lib.hid hxF
      have HZF := Lib.hid hzF
      clear hxF hzF
      refine wp_region_held_drew (S := (fun W => Below w.heap.size w W)) (by kernel_rfl) ?_ (fun hHeld => ?_)
      · (try dsimp only); exact HB0
      refine wpAnyH_take (i := 0) (oi := _) (v := ?vq7_0) rfl (by kernel_rfl) (by kernel_rfl) (by kernel_rfl) (fun _ _ _ h => h) (Or.inl ⟨rfl, ?yq7_0⟩) (by assumption) ?_
      case yq7_0 => intro w hSw; (try dsimp only at hSw); go_simp; (try with_reducible rfl)
      (try simp only [Act.put, List.getElem_toArray, List.getElem_cons_zero, List.setIfInBounds_toArray, List.set_cons_zero, List.set_cons_succ])
      refine wpAnyH_take (i := 1) (oi := _) (v := ?vq7_1) rfl (by kernel_rfl) (by kernel_rfl) (by kernel_rfl) (fun _ _ _ h => h) (Or.inl ⟨rfl, ?yq7_1⟩) (by assumption) ?_
      case yq7_1 => intro w hSw; (try dsimp only at hSw); go_simp; (try with_reducible rfl)
      (try simp only [Act.put, List.getElem_toArray, List.getElem_cons_succ, List.getElem_cons_zero, List.setIfInBounds_toArray, List.set_cons_zero, List.set_cons_succ])
      refine wpAnyH_take (i := 2) (oi := _) (v := ?vq7_2) rfl (by kernel_rfl) (by kernel_rfl) (by kernel_rfl) (fun _ _ _ h => h) (Or.inl ⟨rfl, ?yq7_2⟩) (by assumption) ?_
      case yq7_2 => intro w hSw; (try dsimp only at hSw); (have s1 := byk (HSS.out _ hSw).row 0 (by have := (HSS.out _ hSw).len; omega)); clear hSw; (try simp only [Nat.zero_add] at s1); go_simp; (try with_reducible rfl)
      (try simp only [Act.put, List.getElem_toArray, List.getElem_cons_succ, List.getElem_cons_zero, List.setIfInBounds_toArray, List.set_cons_zero, List.set_cons_succ])
      refine wpAnyH_take (i := 3) (oi := _) (v := ?vq7_3) rfl (by kernel_rfl) (by kernel_rfl) (by kernel_rfl) (fun _ _ _ h => h) (Or.inl ⟨rfl, ?yq7_3⟩) (by assumption) ?_
      case yq7_3 => intro w hSw; (try dsimp only at hSw); go_simp; (try with_reducible rfl)
      (try simp only [Act.put, List.getElem_toArray, List.getElem_cons_succ, List.getElem_cons_zero, List.setIfInBounds_toArray, List.set_cons_zero, List.set_cons_succ])
      refine wpAnyH_take (i := 4) (oi := _) (v := ?vq7_4) rfl (by kernel_rfl) (by kernel_rfl) (by kernel_rfl) (fun _ _ _ h => h) (Or.inl ⟨rfl, ?yq7_4⟩) (by assumption) ?_
      case yq7_4 => intro w hSw; (try dsimp only at hSw); go_simp; (try with_reducible rfl)
      (try simp only [Act.put, List.getElem_toArray, List.getElem_cons_succ, List.getElem_cons_zero, List.setIfInBounds_toArray, List.set_cons_zero, List.set_cons_succ])
      refine wpAnyH_take (i := 5) (oi := _) (v := ?vq7_5) rfl (by kernel_rfl) (by kernel_rfl) (by kernel_rfl) (fun _ _ _ h => h) (Or.inl ⟨rfl, ?yq7_5⟩) (by assumption) ?_
      case yq7_5 => intro w hSw; (try dsimp only at hSw); (have s1 := byk (HSS.out _ hSw).row 1 (by have := (HSS.out _ hSw).len; omega)); clear hSw; (try simp only [Nat.reduceAdd] at s1); go_simp; (try with_reducible rfl)
      (try simp only [Act.put, List.getElem_toArray, List.getElem_cons_succ, List.getElem_cons_zero, List.setIfInBounds_toArray, List.set_cons_zero, List.set_cons_succ])
      refine wpAnyH_take (i := 6) (oi := _) (v := ?vq7_6) rfl (by kernel_rfl) (by kernel_rfl) (by kernel_rfl) (fun _ _ _ h => h) (Or.inl ⟨rfl, ?yq7_6⟩) (by assumption) ?_
      case yq7_6 => intro w hSw; (try dsimp only at hSw); go_simp; (try with_reducible rfl)
      (try simp only [Act.put, List.getElem_toArray, List.getElem_cons_succ, List.getElem_cons_zero, List.setIfInBounds_toArray, List.set_cons_zero, List.set_cons_succ])
      refine wpAnyH_take (i := 7) (oi := _) (v := ?vq7_7) rfl (by kernel_rfl) (by kernel_rfl) (by kernel_rfl) (fun _ _ _ h => h) (Or.inl ⟨rfl, ?yq7_7⟩) (by assumption) ?_
      case yq7_7 => intro w hSw; (try dsimp only at hSw); go_simp; (try with_reducible rfl)
      (try simp only [Act.put, List.getElem_toArray, List.getElem_cons_succ, List.getElem_cons_zero, List.setIfInBounds_toArray, List.set_cons_zero, List.set_cons_succ])
      refine wpAnyH_take (i := 8) (oi := _) (v := ?vq7_8) rfl (by kernel_rfl) (by kernel_rfl) (by kernel_rfl) (fun _ _ _ h => h) (Or.inl ⟨rfl, ?yq7_8⟩) (by assumption) ?_
      case yq7_8 => intro w hSw; (try dsimp only at hSw); (have s1 := byk (HSS.out _ hSw).row 2 (by have := (HSS.out _ hSw).len; omega)); clear hSw; (try simp only [Nat.reduceAdd] at s1); go_simp; (try with_reducible rfl)
      (try simp only [Act.put, List.getElem_toArray, List.getElem_cons_succ, List.getElem_cons_zero, List.setIfInBounds_toArray, List.set_cons_zero, List.set_cons_succ])
      refine wpAnyH_take (i := 9) (oi := _) (v := ?vq7_9) rfl (by kernel_rfl) (by kernel_rfl) (by kernel_rfl) (fun _ _ _ h => h) (Or.inl ⟨rfl, ?yq7_9⟩) (by assumption) ?_
      case yq7_9 => intro w hSw; (try dsimp only at hSw); go_simp; (try with_reducible rfl)
      (try simp only [Act.put, List.getElem_toArray, List.getElem_cons_succ, List.getElem_cons_zero, List.setIfInBounds_toArray, List.set_cons_zero, List.set_cons_succ])
      refine wpAnyH_take (i := 10) (oi := _) (v := ?vq7_10) rfl (by kernel_rfl) (by kernel_rfl) (by kernel_rfl) (fun _ _ _ h => h) (Or.inl ⟨rfl, ?yq7_10⟩) (by assumption) ?_
      case yq7_10 => intro w hSw; (try dsimp only at hSw); go_simp; (try with_reducible rfl)
      (try simp only [Act.put, List.getElem_toArray, List.getElem_cons_succ, List.getElem_cons_zero, List.setIfInBounds_toArray, List.set_cons_zero, List.set_cons_succ])
      refine wpAnyH_take (i := 11) (oi := _) (v := ?vq7_11) rfl (by kernel_rfl) (by kernel_rfl) (by kernel_rfl) (fun _ _ _ h => h) (Or.inl ⟨rfl, ?yq7_11⟩) (by assumption) ?_
      case yq7_11 => intro w hSw; (try dsimp only at hSw); go_simp; (try with_reducible rfl)
      (try simp only [Act.put, List.getElem_toArray, List.getElem_cons_succ, List.getElem_cons_zero, List.setIfInBounds_toArray, List.set_cons_zero, List.set_cons_succ])
      refine wpAnyH_take (i := 12) (oi := _) (v := ?vq7_12) rfl (by kernel_rfl) (by kernel_rfl) (by kernel_rfl) (fun _ _ _ h => h) (Or.inl ⟨rfl, ?yq7_12⟩) (by assumption) ?_
      case yq7_12 => intro w hSw; (try dsimp only at hSw); (have s1 := conv_sb (sl_zero (HSS.out _ hSw))); clear hSw; go_simp; (try with_reducible rfl)
      (try simp only [Act.put, List.getElem_toArray, List.getElem_cons_succ, List.getElem_cons_zero, List.setIfInBounds_toArray, List.set_cons_zero, List.set_cons_succ])
      refine wpAnyH_take (i := 13) (oi := _) (v := ?vq7_13) rfl (by kernel_rfl) (by kernel_rfl) (by kernel_rfl) (fun _ _ _ h => h) (Or.inl ⟨rfl, ?yq7_13⟩) (by assumption) ?_
      case yq7_13 => intro w hSw; (try dsimp only at hSw); go_simp; (try with_reducible rfl)
      (try simp only [Act.put, List.getElem_toArray, List.getElem_cons_succ, List.getElem_cons_zero, List.setIfInBounds_toArray, List.set_cons_zero, List.set_cons_succ])
      refine wpAnyH_take (i := 14) (oi := _) (v := ?vq7_14) rfl (by kernel_rfl) (by kernel_rfl) (by kernel_rfl) (fun _ _ _ h => h) (Or.inl ⟨rfl, ?yq7_14⟩) (by assumption) ?_
      case yq7_14 => intro w hSw; (try dsimp only at hSw); go_simp; (try with_reducible rfl)
      (try simp only [Act.put, List.getElem_toArray, List.getElem_cons_succ, List.getElem_cons_zero, List.setIfInBounds_toArray, List.set_cons_zero, List.set_cons_succ])
      refine wpAnyH_take (i := 15) (oi := _) (v := ?vq7_15) rfl (by kernel_rfl) (by kernel_rfl) (by kernel_rfl) (fun _ _ _ h => h) (Or.inl ⟨rfl, ?yq7_15⟩) (by assumption) ?_
      case yq7_15 => intro w hSw; (try dsimp only at hSw); (have s1 := byk (HSS.out _ hSw).row 3 (by have := (HSS.out _ hSw).len; omega)); clear hSw; (try simp only [Nat.reduceAdd] at s1); go_simp; (try with_reducible rfl)
      (try simp only [Act.put, List.getElem_toArray, List.getElem_cons_succ, List.getElem_cons_zero, List.setIfInBounds_toArray, List.set_cons_zero, List.set_cons_succ])
      refine wpAnyH_take (i := 16) (oi := _) (v := ?vq7_16) rfl (by kernel_rfl) (by kernel_rfl) (by kernel_rfl) (fun _ _ _ h => h) (Or.inl ⟨rfl, ?yq7_16⟩) (by assumption) ?_
      case yq7_16 => intro w hSw; (try dsimp only at hSw); go_simp; (try with_reducible rfl)
      (try simp only [Act.put, List.getElem_toArray, List.getElem_cons_succ, List.getElem_cons_zero, List.setIfInBounds_toArray, List.set_cons_zero, List.set_cons_succ])
      refine wpAnyH_take (i := 17) (oi := _) (v := ?vq7_17) rfl (by kernel_rfl) (by kernel_rfl) (by kernel_rfl) (fun _ _ _ h => h) (Or.inl ⟨rfl, ?yq7_17⟩) (by assumption) ?_
      case yq7_17 => intro w hSw; (try dsimp only at hSw); go_simp; (try with_reducible rfl)
      (try simp only [Act.put, List.getElem_toArray, List.getElem_cons_succ, List.getElem_cons_zero, List.setIfInBounds_toArray, List.set_cons_zero, List.set_cons_succ])
      refine wpAnyH_take (i := 18) (oi := _) (v := ?vq7_18) rfl (by kernel_rfl) (by kernel_rfl) (by kernel_rfl) (fun _ _ _ h => h) (Or.inl ⟨rfl, ?yq7_18⟩) (by assumption) ?_
      case yq7_18 => intro w hSw; (try dsimp only at hSw); (have s1 := byk (HSS.out _ hSw).row 4 (by have := (HSS.out _ hSw).len; omega)); clear hSw; (try simp only [Nat.reduceAdd] at s1); go_simp; (try with_reducible rfl)
      (try simp only [Act.put, List.getElem_toArray, List.getElem_cons_succ, List.getElem_cons_zero, List.setIfInBounds_toArray, List.set_cons_zero, List.set_cons_succ])
      refine wpAnyH_take (i := 19) (oi := _) (v := ?vq7_19) rfl (by kernel_rfl) (by kernel_rfl) (by kernel_rfl) (fun _ _ _ h => h) (Or.inl ⟨rfl, ?yq7_19⟩) (by assumption) ?_
      case yq7_19 => intro w hSw; (try dsimp only at hSw); go_simp; (try with_reducible rfl)
      (try simp only [Act.put, List.getElem_toArray, List.getElem_cons_succ, List.getElem_cons_zero, List.setIfInBounds_toArray, List.set_cons_zero, List.set_cons_succ])
      refine wpAnyH_take (i := 20) (oi := _) (v := ?vq7_20) rfl (by kernel_rfl) (by kernel_rfl) (by kernel_rfl) (fun _ _ _ h => h) (Or.inl ⟨rfl, ?yq7_20⟩) (by assumption) ?_
      case yq7_20 => intro w hSw; (try dsimp only at hSw); go_simp; (try with_reducible rfl)
      (try simp only [Act.put, List.getElem_toArray, List.getElem_cons_succ, List.getElem_cons_zero, List.setIfInBounds_toArray, List.set_cons_zero, List.set_cons_succ])
      refine wpAnyH_take (i := 21) (oi := _) (v := ?vq7_21) rfl (by kernel_rfl) (by kernel_rfl) (by kernel_rfl) (fun _ _ _ h => h) (Or.inl ⟨rfl, ?yq7_21⟩) (by assumption) ?_
      case yq7_21 => intro w hSw; (try dsimp only at hSw); go_simp; (try with_reducible rfl)
      (try simp only [Act.put, List.getElem_toArray, List.getElem_cons_succ, List.getElem_cons_zero, List.setIfInBounds_toArray, List.set_cons_zero, List.set_cons_succ])
      refine wpAnyH_take (i := 22) (oi := _) (v := ?vq7_22) rfl (by kernel_rfl) (by kernel_rfl) (by kernel_rfl) (fun _ _ _ h => h) (Or.inl ⟨rfl, ?yq7_22⟩) (by assumption) ?_
      case yq7_22 => intro w hSw; (try dsimp only at hSw); go_simp; (try with_reducible rfl)
      (try simp only [Act.put, List.getElem_toArray, List.getElem_cons_succ, List.getElem_cons_zero, List.setIfInBounds_toArray, List.set_cons_zero, List.set_cons_succ])
      refine wpAnyH_take (i := 23) (oi := _) (v := ?vq7_23) rfl (by kernel_rfl) (by kernel_rfl) (by kernel_rfl) (fun _ _ _ h => h) (Or.inl ⟨rfl, ?yq7_23⟩) (by assumption) ?_
      case yq7_23 => intro w hSw; (try dsimp only at hSw); go_simp; (try with_reducible rfl)
      (try simp only [Act.put, List.getElem_toArray, List.getElem_cons_succ, List.getElem_cons_zero, List.setIfInBounds_toArray, List.set_cons_zero, List.set_cons_succ])
      refine wpAnyH_take (i := 24) (oi := _) (v := ?vq7_24) rfl (by kernel_rfl) (by kernel_rfl) (by kernel_rfl) (fun _ _ _ h => h) (Or.inl ⟨rfl, ?yq7_24⟩) (by assumption) ?_
      case yq7_24 => intro w hSw; (try dsimp only at hSw); go_simp; (try with_reducible rfl)
      (try simp only [Act.put, List.getElem_toArray, List.getElem_cons_succ, List.getElem_cons_zero, List.setIfInBounds_toArray, List.set_cons_zero, List.set_cons_succ])
      refine wpAnyH_take (i := 25) (oi := _) (v := ?vq7_25) rfl (by kernel_rfl) (by kernel_rfl) (by kernel_rfl) (fun _ _ _ h => h) (Or.inl ⟨rfl, ?yq7_25⟩) (by assumption) ?_
      case yq7_25 => intro w hSw; (try dsimp only at hSw); go_simp; (try with_reducible rfl)
      (try simp only [Act.put, List.getElem_toArray, List.getElem_cons_succ, List.getElem_cons_zero, List.setIfInBounds_toArray, List.set_cons_zero, List.set_cons_succ])
      refine wpAnyH_take (i := 26) (oi := _) (v := ?vq7_26) rfl (by kernel_rfl) (by kernel_rfl) (by kernel_rfl) (fun _ _ _ h => h) (Or.inl ⟨rfl, ?yq7_26⟩) (by assumption) ?_
      case yq7_26 => intro w hSw; (try dsimp only at hSw); go_simp; (try with_reducible rfl)
      (try simp only [Act.put, List.getElem_toArray, List.getElem_cons_succ, List.getElem_cons_zero, List.setIfInBounds_toArray, List.set_cons_zero, List.set_cons_succ])
      refine wpAnyH_take (i := 27) (oi := _) (v := ?vq7_27) rfl (by kernel_rfl) (by kernel_rfl) (by kernel_rfl) (fun _ _ _ h => h) (Or.inl ⟨rfl, ?yq7_27⟩) (by assumption) ?_
      case yq7_27 => intro w hSw; (try dsimp only at hSw); go_simp; (try with_reducible rfl)
      (try simp only [Act.put, List.getElem_toArray, List.getElem_cons_succ, List.getElem_cons_zero, List.setIfInBounds_toArray, List.set_cons_zero, List.set_cons_succ])
      refine wpAnyH_take (i := 28) (oi := _) (v := ?vq7_28) rfl (by kernel_rfl) (by kernel_rfl) (by kernel_rfl) (fun _ _ _ h => h) (Or.inl ⟨rfl, ?yq7_28⟩) (by assumption) ?_
      case yq7_28 => intro w hSw; (try dsimp only at hSw); go_simp; (try with_reducible rfl)
      (try simp only [Act.put, List.getElem_toArray, List.getElem_cons_succ, List.getElem_cons_zero, List.setIfInBounds_toArray, List.set_cons_zero, List.set_cons_succ])
      refine wpAnyH_take (i := 29) (oi := _) (v := ?vq7_29) rfl (by kernel_rfl) (by kernel_rfl) (by kernel_rfl) (fun _ _ _ h => h) (Or.inl ⟨rfl, ?yq7_29⟩) (by assumption) ?_
      case yq7_29 => intro w hSw; (try dsimp only at hSw); go_simp; (try with_reducible rfl)
      (try simp only [Act.put, List.getElem_toArray, List.getElem_cons_succ, List.getElem_cons_zero, List.setIfInBounds_toArray, List.set_cons_zero, List.set_cons_succ])
      refine wpAnyH_ready (rs := [30]) (by kernel_rfl) (by simp) ?_
      refine AllReadyH.cons (o := _) rfl (fun K hK => ?_) AllReadyH.nil
      go_simp
      refine hK.out _ _ ?_ (fun hHeld => ?_)
      · (try dsimp only); exact HB0.alloc HB0.size _
      clear hK K
      (try simp only [Act.put, List.getElem_toArray, List.getElem_cons_succ, List.getElem_cons_zero, List.setIfInBounds_toArray, List.set_cons_zero, List.set_cons_succ])
      refine wpAnyH_ready (rs := [31]) (by kernel_rfl) (by simp) ?_
      refine AllReadyH.cons (o := _) rfl (fun K hK => ?_) AllReadyH.nil
      rw [if_pos (by rfl)]
      refine wp_store_row (P := Try.prog) _ (.tmp 6) (.tmp 58) rfl (w1.drewN nq).drew.heap.size (cells (beg x) (.slice none 0 0)) rfl (by show Value.agg #[.int .u8 ((by_ x 1).toNat : Int), .int .u8 ((by_ x 2).toNat : Int), .int .u8 ((by_ x 3).toNat : Int), .string ⟨#[]⟩, .int .u8 ((by_ x 4).toNat : Int), .int .u8 ((by_ x 5).toNat : Int), .bool false, .int .i64 0, .bool false, .int .i64 0, .int .i64 0, .int .i64 0, .int .i64 0, .slice none 0 0, .int .u8 0, .int .u8 0, .int .u8 0, .int .u8 0, .int .u8 0, .int .u8 0, .int .u8 0, .int .u8 0, .int .u8 0, .int .u16 0, .int .u16 0, .int .u16 0, .bool ON, .int .i64 ((SM : Nat) : Int)] = _; rw [HBEG.out, ← HK7.out]; rfl) _ _ (Bx.zero (w1.drewN nq).drew) (by kernel_rfl) rfl (one_cells _ _ rfl) ?_
      refine hK.out _ _ ?_ (fun hHeld => ?_)
      · (try dsimp only); exact HBE
      clear hK K
      (try simp only [Act.put, List.getElem_toArray, List.getElem_cons_succ, List.getElem_cons_zero])
      refine wpAnyH_done (by kernel_rfl) ?_ _
      refine Hid.out ?_
      refine Lib.hid ?_
      have hxF : Bx (((w1.drewN (nq + 1)).alloc (.cells #[.int .u8 0, .int .u8 0, .int .u8 0, .string ⟨#[]⟩, .int .u8 0, .int .u8 0, .bool false, .int .i64 0, .bool false, .int .i64 0, .int .i64 0, .int .i64 0, .int .i64 0, .slice none 0 0, .int .u8 0, .int .u8 0, .int .u8 0, .int .u8 0, .int .u8 0, .int .u8 0, .int .u8 0, .int .u8 0, .int .u8 0, .int .u16 0, .int .u16 0, .int .u16 0, .bool false, .int .i64 0] 59)).setRow (w1.drewN nq).drew.heap.size (cells (beg x) (.slice none 0 0))) w1.heap.size (beg x) (.slice none 0 0) := HXF.out
      have hzF : Bx (((w1.drewN (nq + 1)).alloc (.cells #[.int .u8 0, .int .u8 0, .int .u8 0, .string ⟨#[]⟩, .int .u8 0, .int .u8 0, .bool false, .int .i64 0, .bool false, .int .i64 0, .int .i64 0, .int .i64 0, .int .i64 0, .slice none 0 0, .int .u8 0, .int .u8 0, .int .u8 0, .int .u8 0, .int .u8 0, .int .u8 0, .int .u8 0, .int .u8 0, .int .u8 0, .int .u16 0, .int .u16 0, .int .u16 0, .bool false, .int .i64 0] 59)).setRow (w1.drewN nq).drew.heap.size (cells (beg x) (.slice none 0 0))) w.heap.size noSn (.slice none 0 0) := HZF.out
      have hBF : Below w.heap.size w (((w1.drewN (nq + 1)).alloc (.cells #[.int .u8 0, .int .u8 0, .int .u8 0, .string ⟨#[]⟩, .int .u8 0, .int .u8 0, .bool false, .int .i64 0, .bool false, .int .i64 0, .int .i64 0, .int .i64 0, .int .i64 0, .slice none 0 0, .int .u8 0, .int .u8 0, .int .u8 0, .int .u8 0, .int .u8 0, .int .u8 0, .int .u8 0, .int .u8 0, .int .u8 0, .int .u16 0, .int .u16 0, .int .u16 0, .bool false, .int .i64 0] 59)).setRow (w1.drewN nq).drew.heap.size (cells (beg x) (.slice none 0 0))) := HBE
      have hF1 : w.heap.size < w1.heap.size := hz1.lt
      clear HXF HZF HB0 HBE hHeld
      generalize (((w1.drewN (nq + 1)).alloc (.cells #[.int .u8 0, .int .u8 0, .int .u8 0, .string ⟨#[]⟩, .int .u8 0, .int .u8 0, .bool false, .int .i64 0, .bool false, .int .i64 0, .int .i64 0, .int .i64 0, .int .i64 0, .slice none 0 0, .int .u8 0, .int .u8 0, .int .u8 0, .int .u8 0, .int .u8 0, .int .u8 0, .int .u8 0, .int .u8 0, .int .u8 0, .int .u16 0, .int .u16 0, .int .u16 0, .bool false, .int .i64 0] 59)).setRow (w1.drewN nq).drew.heap.size (cells (beg x) (.slice none 0 0))) = w4 at *
      generalize hFF : w1.heap.size = F at *
      have HFF := Lib.hid hFF
      have kd : w4.cell? ⟨F, 6, none⟩ = some (.bool false) := by
        have := hxF.c 6
        rw [HBEG.out] at this
        exact this
      have hHR := Lib.hid (HSS.out _ hBF)
      clear HSS HRS hFF e1 e2 e3 e4 e4b e5 e6 k0 k6 k7 k0' gi1 gi2 gi3 gi4 gi5 hu8 hW HS1
      go_wp2_with fail
      have hHRd := hHR.out
      have hHeld2 : Sl w4.drew (some a) 8 8 x := ⟨hHRd.len, hHRd.row, hHRd.cap, hHRd.max, hHRd.nil⟩
      have hx4d : Bx w4.drew F (beg x) (.slice none 0 0) := hxF
      have hz4d : Bx w4.drew w.heap.size noSn (.slice none 0 0) := hzF
      have hb4d := below_drew hBF
      have HCALL := Lib.hid (rda_p (beg x) _ _ _ (x.drop 8) w4.drew (sl_zero' hHeld2) (by omega))
      generalize hRR : rdA (beg x) (x.drop 8) = RR at *
      clear hHRd hHeld2 hRR
      refine wp_region_held_drew (S := (fun W => Bx W F (beg x) (.slice none 0 0))) (by kernel_rfl) ?_ (fun hHeld => ?_)
      · (try dsimp only); exact hx4d
      refine wpAnyH_take (i := 0) (oi := _) (v := ?vq6_0) rfl (by kernel_rfl) (by kernel_rfl) (by kernel_rfl) (fun _ _ _ h => h) (Or.inl ⟨rfl, ?yq6_0⟩) (by assumption) ?_
      case yq6_0 => intro w hSw; (try dsimp only at hSw); ((refine exec_load_bx (.tmp 6) ?_ ?_ hSw) <;> rfl)
      (try simp only [Act.put, List.getElem_toArray, List.getElem_cons_zero, List.setIfInBounds_toArray, List.set_cons_zero, List.set_cons_succ])
      refine wpAnyH_take (i := 1) (oi := _) (v := ?vq6_1) rfl (by kernel_rfl) (by kernel_rfl) (by kernel_rfl) (fun _ _ _ h => h) (Or.inl ⟨rfl, ?yq6_1⟩) (by assumption) ?_
      case yq6_1 => intro w hSw; (try dsimp only at hSw); go_simp; (try with_reducible rfl)
      (try simp only [Act.put, List.getElem_toArray, List.getElem_cons_succ, List.getElem_cons_zero, List.setIfInBounds_toArray, List.set_cons_zero, List.set_cons_succ])
      refine wpAnyH_take (i := 2) (oi := _) (v := ?vq6_2) rfl (by kernel_rfl) (by kernel_rfl) (by kernel_rfl) (fun _ _ _ h => h) (Or.inl ⟨rfl, ?yq6_2⟩) (by assumption) ?_
      case yq6_2 => intro w hSw; (try dsimp only at hSw); go_simp; (try with_reducible rfl)
      (try simp only [Act.put, List.getElem_toArray, List.getElem_cons_succ, List.getElem_cons_zero, List.setIfInBounds_toArray, List.set_cons_zero, List.set_cons_succ])
      refine wpAnyH_take (i := 3) (oi := _) (v := ?vq6_3) rfl (by kernel_rfl) (by kernel_rfl) (by kernel_rfl) (fun _ _ _ h => h) (Or.inl ⟨rfl, ?yq6_3⟩) (by assumption) ?_
      case yq6_3 => intro w hSw; (try dsimp only at hSw); go_simp; (try with_reducible rfl)
      (try simp only [Act.put, List.getElem_toArray, List.getElem_cons_succ, List.getElem_cons_zero, List.setIfInBounds_toArray, List.set_cons_zero, List.set_cons_succ])
      refine wpAnyH_ready (rs := [4]) (by kernel_rfl) (by simp) ?_
      refine AllReadyH.cons (o := _) rfl (fun K hK => ?_) AllReadyH.nil
      go_simp
      go_at_call 111; refine HCALL.out.mono ?_; rintro e w5 ⟨PA, pn, pc, rfl, hp5, hb5⟩; have hx5 := hx4d.below hb5; have hz5 := hz4d.below hb5
      refine hK.out _ _ ?_ (fun hHeld => ?_)
      · (try dsimp only); exact hx5
      clear hK K
      (try simp only [Act.put, List.getElem_toArray, List.getElem_cons_succ, List.getElem_cons_zero, List.setIfInBounds_toArray, List.set_cons_zero, List.set_cons_succ])
      refine wpAnyH_take (i := 5) (oi := _) (v := ?vq6_5) rfl (by kernel_rfl) (by kernel_rfl) (by kernel_rfl) (fun _ _ _ h => h) (Or.inl ⟨rfl, ?yq6_5⟩) (by assumption) ?_
      case yq6_5 => intro w hSw; (try dsimp only at hSw); go_simp; (try with_reducible rfl)
      (try simp only [Act.put, List.getElem_toArray, List.getElem_cons_succ, List.getElem_cons_zero, List.setIfInBounds_toArray, List.set_cons_zero, List.set_cons_succ])
      refine wpAnyH_take (i := 6) (oi := _) (v := ?vq6_6) rfl (by kernel_rfl) (by kernel_rfl) (by kernel_rfl) (fun _ _ _ h => h) (Or.inl ⟨rfl, ?yq6_6⟩) (by assumption) ?_
      case yq6_6 => intro w hSw; (try dsimp only at hSw); go_simp; (try with_reducible rfl)
      (try simp only [Act.put, List.getElem_toArray, List.getElem_cons_succ, List.getElem_cons_zero, List.setIfInBounds_toArray, List.set_cons_zero, List.set_cons_succ])
      refine wpAnyH_ready (rs := [7]) (by kernel_rfl) (by simp) ?_
      refine AllReadyH.cons (o := _) rfl (fun K hK => ?_) AllReadyH.nil
      rw [if_pos (by rfl)]
      refine wp_store_row (P := Try.prog) _ (.tmp 2) (.tmp 73) rfl w.heap.size (cells RR.1 (.slice PA pn pc)) rfl rfl _ _ hz5 (by kernel_rfl) rfl (one_cells _ _ rfl) ?_
      refine hK.out _ _ ?_ (fun hHeld => ?_)
      · (try dsimp only); exact hx5.kept (setRow_gr _ _ _) (fun e => by injection e; omega)
      clear hK K
      (try simp only [Act.put, List.getElem_toArray, List.getElem_cons_succ, List.getElem_cons_zero])
      refine wpAnyH_take (i := 8) (oi := _) (v := ?vq6_8) rfl (by kernel_rfl) (by kernel_rfl) (by kernel_rfl) (fun _ _ _ h => h) (Or.inl ⟨rfl, ?yq6_8⟩) (by assumption) ?_
      case yq6_8 => intro w hSw; (try dsimp only at hSw); go_simp; (try with_reducible rfl)
      (try simp only [Act.put, List.getElem_toArray, List.getElem_cons_succ, List.getElem_cons_zero, List.setIfInBounds_toArray, List.set_cons_zero, List.set_cons_succ])
      refine wpAnyH_done (by kernel_rfl) ?_ _
      have hgr := setRow_gr w5 w.heap.size (cells RR.1 (.slice PA pn pc))
      have hx6 : Bx (w5.setRow w.heap.size (cells RR.1 (.slice PA pn pc))) w.heap.size RR.1 (.slice PA pn pc) := setRow_heap _ _ _ _ _ _ hz5
      have hp6 := psl_far hp5 hz5 ⟨_, _, _, rfl⟩ hgr
      have hb6 := (hb4d.trans (hb5.mono hb4d.size)).grown hgr (Nat.le_of_lt hz5.lt) (fun k hk => by injection hk; omega)
      refine Hid.out ?_
      refine Lib.hid ?_
      go_wp2_with fail
      exact out2 Try.results72 rfl rfl rfl hx6 ⟨PA, pn, pc, rfl, hp6, hb6⟩
  · rcases (show (kx < c ∨ (c = kx ∧ 8 < c)) ∨ (c = kx ∧ c = 8) by omega) with (hKc | ⟨hKc, h8c⟩) | ⟨hKc, h8c⟩
    · skip
      have c8 : ¬ c = 8 := by omega
      have cK : ¬ c = kx := by omega
      go_enter Try.func72, Try.ntmps72
      go_wp2_with fail
      go_quiet (fail)
      have k0' : (w1.drewN nq).cell? a = some (.int .u8 ((by_ x 0).toNat : Int)) := k0
      go_wp2_with fail
      have HB0 : Below w.heap.size w (w1.drewN nq).drew := below_drew (below_drewN hb1)
      have HBE : Below w.heap.size w (((w1.drewN nq).drew.alloc (.cells #[.int .u8 0, .int .u8 0, .int .u8 0, .string ⟨#[]⟩, .int .u8 0, .int .u8 0, .bool false, .int .i64 0, .bool false, .int .i64 0, .int .i64 0, .int .i64 0, .int .i64 0, .slice none 0 0, .int .u8 0, .int .u8 0, .int .u8 0, .int .u8 0, .int .u8 0, .int .u8 0, .int .u8 0, .int .u8 0, .int .u8 0, .int .u16 0, .int .u16 0, .int .u16 0, .bool false, .int .i64 0] 59)).setRow (w1.drewN nq).drew.heap.size (cells (beg x) (.slice none 0 0))) :=
        (HB0.alloc HB0.size _).grown (setRow_gr _ _ _) (by rw [World.size_alloc]; exact Nat.le_succ_of_le HB0.size) (fun k hk => by injection hk with hk; rw [← hk]; exact HB0.size)
      have hxF : Bx (((w1.drewN nq).drew.alloc (.cells #[.int .u8 0, .int .u8 0, .int .u8 0, .string ⟨#[]⟩, .int .u8 0, .int .u8 0, .bool false, .int .i64 0, .bool false, .int .i64 0, .int .i64 0, .int .i64 0, .int .i64 0, .slice none 0 0, .int .u8 0, .int .u8 0, .int .u8 0, .int .u8 0, .int .u8 0, .int .u8 0, .int .u8 0, .int .u8 0, .int .u8 0, .int .u16 0, .int .u16 0, .int .u16 0, .bool false, .int .i64 0] 59)).setRow (w1.drewN nq).drew.heap.size (cells (beg x) (.slice none 0 0))) (w1.drewN nq).drew.heap.size (beg x) (.slice none 0 0) := setRow_heap _ _ _ _ _ _ (Bx.zero (w1.drewN nq).drew)
      have hzF : Bx (((w1.drewN nq).drew.alloc (.cells #[.int .u8 0, .int .u8 0, .int .u8 0, .string ⟨#[]⟩, .int .u8 0, .int .u8 0, .bool false, .int .i64 0, .bool false, .int .i64 0, .int .i64 0, .int .i64 0, .int .i64 0, .slice none 0 0, .int .u8 0, .int .u8 0, .int .u8 0, .int .u8 0, .int .u8 0, .int .u8 0, .int .u8 0, .int .u8 0, .int .u8 0, .int .u16 0, .int .u16 0, .int .u16 0, .bool false, .int .i64 0] 59)).setRow (w1.drewN nq).drew.heap.size (cells (beg x) (.slice none 0 0))) w.heap.size noSn (.slice none 0 0) :=
        ((show Bx (w1.drewN nq).drew w.heap.size noSn (.slice none 0 0) from hz1).alloc _).kept (setRow_gr _ _ _) (fun e => by injection e with e; have := hz1.lt; rw [e] at this; exact absurd this (Nat.lt_irrefl _))
      have HXF := Lib.hid hxF
      have HZF := Lib.hid hzF
      clear hxF hzF
      refine wp_region_held_drew (S := (fun W => Below w.heap.size w W)) (by kernel_rfl) ?_ (fun hHeld => ?_)
      · (try dsimp only); exact HB0
      refine wpAnyH_take (i := 0) (oi := _) (v := ?vq9_0) rfl (by kernel_rfl) (by kernel_rfl) (by kernel_rfl) (fun _ _ _ h => h) (Or.inl ⟨rfl, ?yq9_0⟩) (by assumption) ?_
      case yq9_0 => intro w hSw; (try dsimp only at hSw); go_simp; (try with_reducible rfl)
      (try simp only [Act.put, List.getElem_toArray, List.getElem_cons_zero, List.setIfInBounds_toArray, List.set_cons_zero, List.set_cons_succ])
      refine wpAnyH_take (i := 1) (oi := _) (v := ?vq9_1) rfl (by kernel_rfl) (by kernel_rfl) (by kernel_rfl) (fun _ _ _ h => h) (Or.inl ⟨rfl, ?yq9_1⟩) (by assumption) ?_
      case yq9_1 => intro w hSw; (try dsimp only at hSw); go_simp; (try with_reducible rfl)
      (try simp only [Act.put, List.getElem_toArray, List.getElem_cons_succ, List.getElem_cons_zero, List.setIfInBounds_toArray, List.set_cons_zero, List.set_cons_succ])
      refine wpAnyH_take (i := 2) (oi := _) (v := ?vq9_2) rfl (by kernel_rfl) (by kernel_rfl) (by kernel_rfl) (fun _ _ _ h => h) (Or.inl ⟨rfl, ?yq9_2⟩) (by assumption) ?_
      case yq9_2 => intro w hSw; (try dsimp only at hSw); (have s1 := byk (HSS.out _ hSw).row 0 (by have := (HSS.out _ hSw).len; omega)); clear hSw; (try simp only [Nat.zero_add] at s1); go_simp; (try with_reducible rfl)
      (try simp only [Act.put, List.getElem_toArray, List.getElem_cons_succ, List.getElem_cons_zero, List.setIfInBounds_toArray, List.set_cons_zero, List.set_cons_succ])
      refine wpAnyH_take (i := 3) (oi := _) (v := ?vq9_3) rfl (by kernel_rfl) (by kernel_rfl) (by kernel_rfl) (fun _ _ _ h => h) (Or.inl ⟨rfl, ?yq9_3⟩) (by assumption) ?_
      case yq9_3 => intro w hSw; (try dsimp only at hSw); go_simp; (try with_reducible rfl)
      (try simp only [Act.put, List.getElem_toArray, List.getElem_cons_succ, List.getElem_cons_zero, List.setIfInBounds_toArray, List.set_cons_zero, List.set_cons_succ])
      refine wpAnyH_take (i := 4) (oi := _) (v := ?vq9_4) rfl (by kernel_rfl) (by kernel_rfl) (by kernel_rfl) (fun _ _ _ h => h) (Or.inl ⟨rfl, ?yq9_4⟩) (by assumption) ?_
      case yq9_4 => intro w hSw; (try dsimp only at hSw); go_simp; (try with_reducible rfl)
      (try simp only [Act.put, List.getElem_toArray, List.getElem_cons_succ, List.getElem_cons_zero, List.setIfInBounds_toArray, List.set_cons_zero, List.set_cons_succ])
      refine wpAnyH_take (i := 5) (oi := _) (v := ?vq9_5) rfl (by kernel_rfl) (by kernel_rfl) (by kernel_rfl) (fun _ _ _ h => h) (Or.inl ⟨rfl, ?yq9_5⟩) (by assumption) ?_
      case yq9_5 => intro w hSw; (try dsimp only at hSw); (have s1 := byk (HSS.out _ hSw).row 1 (by have := (HSS.out _ hSw).len; omega)); clear hSw; (try simp only [Nat.reduceAdd] at s1); go_simp; (try with_reducible rfl)
      (try simp only [Act.put, List.getElem_toArray, List.getElem_cons_succ, List.getElem_cons_zero, List.setIfInBounds_toArray, List.set_cons_zero, List.set_cons_succ])
      refine wpAnyH_take (i := 6) (oi := _) (v := ?vq9_6) rfl (by kernel_rfl) (by kernel_rfl) (by kernel_rfl) (fun _ _ _ h => h) (Or.inl ⟨rfl, ?yq9_6⟩) (by assumption) ?_
      case yq9_6 => intro w hSw; (try dsimp only at hSw); go_simp; (try with_reducible rfl)
      (try simp only [Act.put, List.getElem_toArray, List.getElem_cons_succ, List.getElem_cons_zero, List.setIfInBounds_toArray, List.set_cons_zero, List.set_cons_succ])
      refine wpAnyH_take (i := 7) (oi := _) (v := ?vq9_7) rfl (by kernel_rfl) (by kernel_rfl) (by kernel_rfl) (fun _ _ _ h => h) (Or.inl ⟨rfl, ?yq9_7⟩) (by assumption) ?_
      case yq9_7 => intro w hSw; (try dsimp only at hSw); go_simp; (try with_reducible rfl)
      (try simp only [Act.put, List.getElem_toArray, List.getElem_cons_succ, List.getElem_cons_zero, List.setIfInBounds_toArray, List.set_cons_zero, List.set_cons_succ])
      refine wpAnyH_take (i := 8) (oi := _) (v := ?vq9_8) rfl (by kernel_rfl) (by kernel_rfl) (by kernel_rfl) (fun _ _ _ h => h) (Or.inl ⟨rfl, ?yq9_8⟩) (by assumption) ?_
      case yq9_8 => intro w hSw; (try dsimp only at hSw); (have s1 := byk (HSS.out _ hSw).row 2 (by have := (HSS.out _ hSw).len; omega)); clear hSw; (try simp only [Nat.reduceAdd] at s1); go_simp; (try with_reducible rfl)
      (try simp only [Act.put, List.getElem_toArray, List.getElem_cons_succ, List.getElem_cons_zero, List.setIfInBounds_toArray, List.set_cons_zero, List.set_cons_succ])
      refine wpAnyH_take (i := 9) (oi := _) (v := ?vq9_9) rfl (by kernel_rfl) (by kernel_rfl) (by kernel_rfl) (fun _ _ _ h => h) (Or.inl ⟨rfl, ?yq9_9⟩) (by assumption) ?_
      case yq9_9 => intro w hSw; (try dsimp only at hSw); go_simp; (try with_reducible rfl)
      (try simp only [Act.put, List.getElem_toArray, List.getElem_cons_succ, List.getElem_cons_zero, List.setIfInBounds_toArray, List.set_cons_zero, List.set_cons_succ])
      refine wpAnyH_take (i := 10) (oi := _) (v := ?vq9_10) rfl (by kernel_rfl) (by kernel_rfl) (by kernel_rfl) (fun _ _ _ h => h) (Or.inl ⟨rfl, ?yq9_10⟩) (by assumption) ?_
      case yq9_10 => intro w hSw; (try dsimp only at hSw); go_simp; (try with_reducible rfl)
      (try simp only [Act.put, List.getElem_toArray, List.getElem_cons_succ, List.getElem_cons_zero, List.setIfInBounds_toArray, List.set_cons_zero, List.set_cons_succ])
      refine wpAnyH_take (i := 11) (oi := _) (v := ?vq9_11) rfl (by kernel_rfl) (by kernel_rfl) (by kernel_rfl) (fun _ _ _ h => h) (Or.inl ⟨rfl, ?yq9_11⟩) (by assumption) ?_
      case yq9_11 => intro w hSw; (try dsimp only at hSw); go_simp; (try with_reducible rfl)
      (try simp only [Act.put, List.getElem_toArray, List.getElem_cons_succ, List.getElem_cons_zero, List.setIfInBounds_toArray, List.set_cons_zero, List.set_cons_succ])
      refine wpAnyH_take (i := 12) (oi := _) (v := ?vq9_12) rfl (by kernel_rfl) (by kernel_rfl) (by kernel_rfl) (fun _ _ _ h => h) (Or.inl ⟨rfl, ?yq9_12⟩) (by assumption) ?_
      case yq9_12 => intro w hSw; (try dsimp only at hSw); (have s1 := conv_sb (sl_piece (HSS.out _ hSw) (by omega) (by omega) (kx := kx) (by omega))); clear hSw; go_simp; (try with_reducible rfl)
      (try simp only [Act.put, List.getElem_toArray, List.getElem_cons_succ, List.getElem_cons_zero, List.setIfInBounds_toArray, List.set_cons_zero, List.set_cons_succ])
      refine wpAnyH_take (i := 13) (oi := _) (v := ?vq9_13) rfl (by kernel_rfl) (by kernel_rfl) (by kernel_rfl) (fun _ _ _ h => h) (Or.inl ⟨rfl, ?yq9_13⟩) (by assumption) ?_
      case yq9_13 => intro w hSw; (try dsimp only at hSw); go_simp; (try with_reducible rfl)
      (try simp only [Act.put, List.getElem_toArray, List.getElem_cons_succ, List.getElem_cons_zero, List.setIfInBounds_toArray, List.set_cons_zero, List.set_cons_succ])
      refine wpAnyH_take (i := 14) (oi := _) (v := ?vq9_14) rfl (by kernel_rfl) (by kernel_rfl) (by kernel_rfl) (fun _ _ _ h => h) (Or.inl ⟨rfl, ?yq9_14⟩) (by assumption) ?_
      case yq9_14 => intro w hSw; (try dsimp only at hSw); go_simp; (try with_reducible rfl)
      (try simp only [Act.put, List.getElem_toArray, List.getElem_cons_succ, List.getElem_cons_zero, List.setIfInBounds_toArray, List.set_cons_zero, List.set_cons_succ])
      refine wpAnyH_take (i := 15) (oi := _) (v := ?vq9_15) rfl (by kernel_rfl) (by kernel_rfl) (by kernel_rfl) (fun _ _ _ h => h) (Or.inl ⟨rfl, ?yq9_15⟩) (by assumption) ?_
      case yq9_15 => intro w hSw; (try dsimp only at hSw); (have s1 := byk (HSS.out _ hSw).row 3 (by have := (HSS.out _ hSw).len; omega)); clear hSw; (try simp only [Nat.reduceAdd] at s1); go_simp; (try with_reducible rfl)
      (try simp only [Act.put, List.getElem_toArray, List.getElem_cons_succ, List.getElem_cons_zero, List.setIfInBounds_toArray, List.set_cons_zero, List.set_cons_succ])
      refine wpAnyH_take (i := 16) (oi := _) (v := ?vq9_16) rfl (by kernel_rfl) (by kernel_rfl) (by kernel_rfl) (fun _ _ _ h => h) (Or.inl ⟨rfl, ?yq9_16⟩) (by assumption) ?_
      case yq9_16 => intro w hSw; (try dsimp only at hSw); go_simp; (try with_reducible rfl)
      (try simp only [Act.put, List.getElem_toArray, List.getElem_cons_succ, List.getElem_cons_zero, List.setIfInBounds_toArray, List.set_cons_zero, List.set_cons_succ])
      refine wpAnyH_take (i := 17) (oi := _) (v := ?vq9_17) rfl (by kernel_rfl) (by kernel_rfl) (by kernel_rfl) (fun _ _ _ h => h) (Or.inl ⟨rfl, ?yq9_17⟩) (by assumption) ?_
      case yq9_17 => intro w hSw; (try dsimp only at hSw); go_simp; (try with_reducible rfl)
      (try simp only [Act.put, List.getElem_toArray, List.getElem_cons_succ, List.getElem_cons_zero, List.setIfInBounds_toArray, List.set_cons_zero, List.set_cons_succ])
      refine wpAnyH_take (i := 18) (oi := _) (v := ?vq9_18) rfl (by kernel_rfl) (by kernel_rfl) (by kernel_rfl) (fun _ _ _ h => h) (Or.inl ⟨rfl, ?yq9_18⟩) (by assumption) ?_
      case yq9_18 => intro w hSw; (try dsimp only at hSw); (have s1 := byk (HSS.out _ hSw).row 4 (by have := (HSS.out _ hSw).len; omega)); clear hSw; (try simp only [Nat.reduceAdd] at s1); go_simp; (try with_reducible rfl)
      (try simp only [Act.put, List.getElem_toArray, List.getElem_cons_succ, List.getElem_cons_zero, List.setIfInBounds_toArray, List.set_cons_zero, List.set_cons_succ])
      refine wpAnyH_take (i := 19) (oi := _) (v := ?vq9_19) rfl (by kernel_rfl) (by kernel_rfl) (by kernel_rfl) (fun _ _ _ h => h) (Or.inl ⟨rfl, ?yq9_19⟩) (by assumption) ?_
      case yq9_19 => intro w hSw; (try dsimp only at hSw); go_simp; (try with_reducible rfl)
      (try simp only [Act.put, List.getElem_toArray, List.getElem_cons_succ, List.getElem_cons_zero, List.setIfInBounds_toArray, List.set_cons_zero, List.set_cons_succ])
      refine wpAnyH_take (i := 20) (oi := _) (v := ?vq9_20) rfl (by kernel_rfl) (by kernel_rfl) (by kernel_rfl) (fun _ _ _ h => h) (Or.inl ⟨rfl, ?yq9_20⟩) (by assumption) ?_
      case yq9_20 => intro w hSw; (try dsimp only at hSw); go_simp; (try with_reducible rfl)
      (try simp only [Act.put, List.getElem_toArray, List.getElem_cons_succ, List.getElem_cons_zero, List.setIfInBounds_toArray, List.set_cons_zero, List.set_cons_succ])
      refine wpAnyH_take (i := 21) (oi := _) (v := ?vq9_21) rfl (by kernel_rfl) (by kernel_rfl) (by kernel_rfl) (fun _ _ _ h => h) (Or.inl ⟨rfl, ?yq9_21⟩) (by assumption) ?_
      case yq9_21 => intro w hSw; (try dsimp only at hSw); go_simp; (try with_reducible rfl)
      (try simp only [Act.put, List.getElem_toArray, List.getElem_cons_succ, List.getElem_cons_zero, List.setIfInBounds_toArray, List.set_cons_zero, List.set_cons_succ])
      refine wpAnyH_take (i := 22) (oi := _) (v := ?vq9_22) rfl (by kernel_rfl) (by kernel_rfl) (by kernel_rfl) (fun _ _ _ h => h) (Or.inl ⟨rfl, ?yq9_22⟩) (by assumption) ?_
      case yq9_22 => intro w hSw; (try dsimp only at hSw); go_simp; (try with_reducible rfl)
      (try simp only [Act.put, List.getElem_toArray, List.getElem_cons_succ, List.getElem_cons_zero, List.setIfInBounds_toArray, List.set_cons_zero, List.set_cons_succ])
      refine wpAnyH_take (i := 23) (oi := _) (v := ?vq9_23) rfl (by kernel_rfl) (by kernel_rfl) (by kernel_rfl) (fun _ _ _ h => h) (Or.inl ⟨rfl, ?yq9_23⟩) (by assumption) ?_
      case yq9_23 => intro w hSw; (try dsimp only at hSw); go_simp; (try with_reducible rfl)
      (try simp only [Act.put, List.getElem_toArray, List.getElem_cons_succ, List.getElem_cons_zero, List.setIfInBounds_toArray, List.set_cons_zero, List.set_cons_succ])
      refine wpAnyH_take (i := 24) (oi := _) (v := ?vq9_24) rfl (by kernel_rfl) (by kernel_rfl) (by kernel_rfl) (fun _ _ _ h => h) (Or.inl ⟨rfl, ?yq9_24⟩) (by assumption) ?_
      case yq9_24 => intro w hSw; (try dsimp only at hSw); go_simp; (try with_reducible rfl)
      (try simp only [Act.put, List.getElem_toArray, List.getElem_cons_succ, List.getElem_cons_zero, List.setIfInBounds_toArray, List.set_cons_zero, List.set_cons_succ])
      refine wpAnyH_take (i := 25) (oi := _) (v := ?vq9_25) rfl (by kernel_rfl) (by kernel_rfl) (by kernel_rfl) (fun _ _ _ h => h) (Or.inl ⟨rfl, ?yq9_25⟩) (by assumption) ?_
      case yq9_25 => intro w hSw; (try dsimp only at hSw); go_simp; (try with_reducible rfl)
      (try simp only [Act.put, List.getElem_toArray, List.getElem_cons_succ, List.getElem_cons_zero, List.setIfInBounds_toArray, List.set_cons_zero, List.set_cons_succ])
      refine wpAnyH_take (i := 26) (oi := _) (v := ?vq9_26) rfl (by kernel_rfl) (by kernel_rfl) (by kernel_rfl) (fun _ _ _ h => h) (Or.inl ⟨rfl, ?yq9_26⟩) (by assumption) ?_
      case yq9_26 => intro w hSw; (try dsimp only at hSw); go_simp; (try with_reducible rfl)
      (try simp only [Act.put, List.getElem_toArray, List.getElem_cons_succ, List.getElem_cons_zero, List.setIfInBounds_toArray, List.set_cons_zero, List.set_cons_succ])
      refine wpAnyH_take (i := 27) (oi := _) (v := ?vq9_27) rfl (by kernel_rfl) (by kernel_rfl) (by kernel_rfl) (fun _ _ _ h => h) (Or.inl ⟨rfl, ?yq9_27⟩) (by assumption) ?_
      case yq9_27 => intro w hSw; (try dsimp only at hSw); go_simp; (try with_reducible rfl)
      (try simp only [Act.put, List.getElem_toArray, List.getElem_cons_succ, List.getElem_cons_zero, List.setIfInBounds_toArray, List.set_cons_zero, List.set_cons_succ])
      refine wpAnyH_take (i := 28) (oi := _) (v := ?vq9_28) rfl (by kernel_rfl) (by kernel_rfl) (by kernel_rfl) (fun _ _ _ h => h) (Or.inl ⟨rfl, ?yq9_28⟩) (by assumption) ?_
      case yq9_28 => intro w hSw; (try dsimp only at hSw); go_simp; (try with_reducible rfl)
      (try simp only [Act.put, List.getElem_toArray, List.getElem_cons_succ, List.getElem_cons_zero, List.setIfInBounds_toArray, List.set_cons_zero, List.set_cons_succ])
      refine wpAnyH_take (i := 29) (oi := _) (v := ?vq9_29) rfl (by kernel_rfl) (by kernel_rfl) (by kernel_rfl) (fun _ _ _ h => h) (Or.inl ⟨rfl, ?yq9_29⟩) (by assumption) ?_
      case yq9_29 => intro w hSw; (try dsimp only at hSw); go_simp; (try with_reducible rfl)
      (try simp only [Act.put, List.getElem_toArray, List.getElem_cons_succ, List.getElem_cons_zero, List.setIfInBounds_toArray, List.set_cons_zero, List.set_cons_succ])
      refine wpAnyH_ready (rs := [30]) (by kernel_rfl) (by simp) ?_
      refine AllReadyH.cons (o := _) rfl (fun K hK => ?_) AllReadyH.nil
      go_simp
      refine hK.out _ _ ?_ (fun hHeld => ?_)
      · (try dsimp only); exact HB0.alloc HB0.size _
      clear hK K
      (try simp only [Act.put, List.getElem_toArray, List.getElem_cons_succ, List.getElem_cons_zero, List.setIfInBounds_toArray, List.set_cons_zero, List.set_cons_succ])
      refine wpAnyH_ready (rs := [31]) (by kernel_rfl) (by simp) ?_
      refine AllReadyH.cons (o := _) rfl (fun K hK => ?_) AllReadyH.nil
      rw [if_pos (by rfl)]
      refine wp_store_row (P := Try.prog) _ (.tmp 6) (.tmp 58) rfl (w1.drewN nq).drew.heap.size (cells (beg x) (.slice none 0 0)) rfl (by show Value.agg #[.int .u8 ((by_ x 1).toNat : Int), .int .u8 ((by_ x 2).toNat : Int), .int .u8 ((by_ x 3).toNat : Int), .string ⟨(List.take (kx - 8) (List.drop 8 x)).toArray⟩, .int .u8 ((by_ x 4).toNat : Int), .int .u8 ((by_ x 5).toNat : Int), .bool true, .int .i64 0, .bool false, .int .i64 0, .int .i64 0, .int .i64 0, .int .i64 0, .slice none 0 0, .int .u8 0, .int .u8 0, .int .u8 0, .int .u8 0, .int .u8 0, .int .u8 0, .int .u8 0, .int .u8 0, .int .u8 0, .int .u16 0, .int .u16 0, .int .u16 0, .bool ON, .int .i64 ((SM : Nat) : Int)] = _; rw [HBEG.out, ← HK7.out]; rfl) _ _ (Bx.zero (w1.drewN nq).drew) (by kernel_rfl) rfl (one_cells _ _ rfl) ?_
      refine hK.out _ _ ?_ (fun hHeld => ?_)
      · (try dsimp only); exact HBE
      clear hK K
      (try simp only [Act.put, List.getElem_toArray, List.getElem_cons_succ, List.getElem_cons_zero])
      refine wpAnyH_done (by kernel_rfl) ?_ _
      refine Hid.out ?_
      refine Lib.hid ?_
      have hxF : Bx (((w1.drewN (nq + 1)).alloc (.cells #[.int .u8 0, .int .u8 0, .int .u8 0, .string ⟨#[]⟩, .int .u8 0, .int .u8 0, .bool false, .int .i64 0, .bool false, .int .i64 0, .int .i64 0, .int .i64 0, .int .i64 0, .slice none 0 0, .int .u8 0, .int .u8 0, .int .u8 0, .int .u8 0, .int .u8 0, .int .u8 0, .int .u8 0, .int .u8 0, .int .u8 0, .int .u16 0, .int .u16 0, .int .u16 0, .bool false, .int .i64 0] 59)).setRow (w1.drewN nq).drew.heap.size (cells (beg x) (.slice none 0 0))) w1.heap.size (beg x) (.slice none 0 0) := HXF.out
      have hzF : Bx (((w1.drewN (nq + 1)).alloc (.cells #[.int .u8 0, .int .u8 0, .int .u8 0, .string ⟨#[]⟩, .int .u8 0, .int .u8 0, .bool false, .int .i64 0, .bool false, .int .i64 0, .int .i64 0, .int .i64 0, .int .i64 0, .slice none 0 0, .int .u8 0, .int .u8 0, .int .u8 0, .int .u8 0, .int .u8 0, .int .u8 0, .int .u8 0, .int .u8 0, .int .u8 0, .int .u16 0, .int .u16 0, .int .u16 0, .bool false, .int .i64 0] 59)).setRow (w1.drewN nq).drew.heap.size (cells (beg x) (.slice none 0 0))) w.heap.size noSn (.slice none 0 0) := HZF.out
      have hBF : Below w.heap.size w (((w1.drewN (nq + 1)).alloc (.cells #[.int .u8 0, .int .u8 0, .int .u8 0, .string ⟨#[]⟩, .int .u8 0, .int .u8 0, .bool false, .int .i64 0, .bool false, .int .i64 0, .int .i64 0, .int .i64 0, .int .i64 0, .slice none 0 0, .int .u8 0, .int .u8 0, .int .u8 0, .int .u8 0, .int .u8 0, .int .u8 0, .int .u8 0, .int .u8 0, .int .u8 0, .int .u16 0, .int .u16 0, .int .u16 0, .bool false, .int .i64 0] 59)).setRow (w1.drewN nq).drew.heap.size (cells (beg x) (.slice none 0 0))) := HBE
      have hF1 : w.heap.size < w1.heap.size := hz1.lt
      clear HXF HZF HB0 HBE hHeld
      generalize (((w1.drewN (nq + 1)).alloc (.cells #[.int .u8 0, .int .u8 0, .int .u8 0, .string ⟨#[]⟩, .int .u8 0, .int .u8 0, .bool false, .int .i64 0, .bool false, .int .i64 0, .int .i64 0, .int .i64 0, .int .i64 0, .slice none 0 0, .int .u8 0, .int .u8 0, .int .u8 0, .int .u8 0, .int .u8 0, .int .u8 0, .int .u8 0, .int .u8 0, .int .u8 0, .int .u16 0, .int .u16 0, .int .u16 0, .bool false, .int .i64 0] 59)).setRow (w1.drewN nq).drew.heap.size (cells (beg x) (.slice none 0 0))) = w4 at *
      generalize hFF : w1.heap.size = F at *
      have HFF := Lib.hid hFF
      have kd : w4.cell? ⟨F, 6, none⟩ = some (.bool true) := by
        have := hxF.c 6
        rw [HBEG.out] at this
        exact this
      have hHR := Lib.hid (HSS.out _ hBF)
      clear HSS HRS hFF e1 e2 e3 e4 e4b e5 e6 k0 k6 k7 k0' gi1 gi2 gi3 gi4 gi5 hu8 hW HS1
      go_wp2_with fail
      have hHRd := hHR.out
      have hHeld2 : Sl w4.drew (some a) n c x := ⟨hHRd.len, hHRd.row, hHRd.cap, hHRd.max, hHRd.nil⟩
      have hx4d : Bx w4.drew F (beg x) (.slice none 0 0) := hxF
      have hz4d : Bx w4.drew w.heap.size noSn (.slice none 0 0) := hzF
      have hb4d := below_drew hBF
      have HCALL := Lib.hid (rdd_q (beg x) _ _ _ (x.drop kx) w4.drew (sl_tail2 hHeld2 (by omega) hKc) rfl)
      generalize hRR : rdD (beg x) (x.drop kx) = RR at *
      clear hHRd hHeld2 hRR
      refine wp_region_held_drew (S := (fun W => Bx W F (beg x) (.slice none 0 0))) (by kernel_rfl) ?_ (fun hHeld => ?_)
      · (try dsimp only); exact hx4d
      refine wpAnyH_take (i := 0) (oi := _) (v := ?vq8_0) rfl (by kernel_rfl) (by kernel_rfl) (by kernel_rfl) (fun _ _ _ h => h) (Or.inl ⟨rfl, ?yq8_0⟩) (by assumption) ?_
      case yq8_0 => intro w hSw; (try dsimp only at hSw); ((refine exec_load_bx (.tmp 6) ?_ ?_ hSw) <;> rfl)
      (try simp only [Act.put, List.getElem_toArray, List.getElem_cons_zero, List.setIfInBounds_toArray, List.set_cons_zero, List.set_cons_succ])
      refine wpAnyH_take (i := 1) (oi := _) (v := ?vq8_1) rfl (by kernel_rfl) (by kernel_rfl) (by kernel_rfl) (fun _ _ _ h => h) (Or.inl ⟨rfl, ?yq8_1⟩) (by assumption) ?_
      case yq8_1 => intro w hSw; (try dsimp only at hSw); go_simp; (try with_reducible rfl)
      (try simp only [Act.put, List.getElem_toArray, List.getElem_cons_succ, List.getElem_cons_zero, List.setIfInBounds_toArray, List.set_cons_zero, List.set_cons_succ])
      refine wpAnyH_take (i := 2) (oi := _) (v := ?vq8_2) rfl (by kernel_rfl) (by kernel_rfl) (by kernel_rfl) (fun _ _ _ h => h) (Or.inl ⟨rfl, ?yq8_2⟩) (by assumption) ?_
      case yq8_2 => intro w hSw; (try dsimp only at hSw); go_simp; (try with_reducible rfl)
      (try simp only [Act.put, List.getElem_toArray, List.getElem_cons_succ, List.getElem_cons_zero, List.setIfInBounds_toArray, List.set_cons_zero, List.set_cons_succ])
      refine wpAnyH_take (i := 3) (oi := _) (v := ?vq8_3) rfl (by kernel_rfl) (by kernel_rfl) (by kernel_rfl) (fun _ _ _ h => h) (Or.inl ⟨rfl, ?yq8_3⟩) (by assumption) ?_
      case yq8_3 => intro w hSw; (try dsimp only at hSw); go_simp; (try with_reducible rfl)
      (try simp only [Act.put, List.getElem_toArray, List.getElem_cons_succ, List.getElem_cons_zero, List.setIfInBounds_toArray, List.set_cons_zero, List.set_cons_succ])
      refine wpAnyH_ready (rs := [4]) (by kernel_rfl) (by simp) ?_
      refine AllReadyH.cons (o := _) rfl (fun K hK => ?_) AllReadyH.nil
      go_simp
      go_at_call 110; refine HCALL.out.mono ?_; rintro e w5 ⟨PA, pn, pc, rfl, hp5, hb5⟩; have hx5 := hx4d.below hb5; have hz5 := hz4d.below hb5
      refine hK.out _ _ ?_ (fun hHeld => ?_)
      · (try dsimp only); exact hx5
      clear hK K
      (try simp only [Act.put, List.getElem_toArray, List.getElem_cons_succ, List.getElem_cons_zero, List.setIfInBounds_toArray, List.set_cons_zero, List.set_cons_succ])
      refine wpAnyH_take (i := 5) (oi := _) (v := ?vq8_5) rfl (by kernel_rfl) (by kernel_rfl) (by kernel_rfl) (fun _ _ _ h => h) (Or.inl ⟨rfl, ?yq8_5⟩) (by assumption) ?_
      case yq8_5 => intro w hSw; (try dsimp only at hSw); go_simp; (try with_reducible rfl)
      (try simp only [Act.put, List.getElem_toArray, List.getElem_cons_succ, List.getElem_cons_zero, List.setIfInBounds_toArray, List.set_cons_zero, List.set_cons_succ])
      refine wpAnyH_take (i := 6) (oi := _) (v := ?vq8_6) rfl (by kernel_rfl) (by kernel_rfl) (by kernel_rfl) (fun _ _ _ h => h) (Or.inl ⟨rfl, ?yq8_6⟩) (by assumption) ?_
      case yq8_6 => intro w hSw; (try dsimp only at hSw); go_simp; (try with_reducible rfl)
      (try simp only [Act.put, List.getElem_toArray, List.getElem_cons_succ, List.getElem_cons_zero, List.setIfInBounds_toArray, List.set_cons_zero, List.set_cons_succ])
      refine wpAnyH_ready (rs := [7]) (by kernel_rfl) (by simp) ?_
      refine AllReadyH.cons (o := _) rfl (fun K hK => ?_) AllReadyH.nil
      rw [if_pos (by rfl)]
      refine wp_store_row (P := Try.prog) _ (.tmp 2) (.tmp 66) rfl w.heap.size (cells RR.1 (.slice PA pn pc)) rfl rfl _ _ hz5 (by kernel_rfl) rfl (one_cells _ _ rfl) ?_
      refine hK.out _ _ ?_ (fun hHeld => ?_)
      · (try dsimp only); exact hx5.kept (setRow_gr _ _ _) (fun e => by injection e; omega)
      clear hK K
      (try simp only [Act.put, List.getElem_toArray, List.getElem_cons_succ, List.getElem_cons_zero])
      refine wpAnyH_take (i := 8) (oi := _) (v := ?vq8_8) rfl (by kernel_rfl) (by kernel_rfl) (by kernel_rfl) (fun _ _ _ h => h) (Or.inl ⟨rfl, ?yq8_8⟩) (by assumption) ?_
      case yq8_8 => intro w hSw; (try dsimp only at hSw); go_simp; (try with_reducible rfl)
      (try simp only [Act.put, List.getElem_toArray, List.getElem_cons_succ, List.getElem_cons_zero, List.setIfInBounds_toArray, List.set_cons_zero, List.set_cons_succ])
      refine wpAnyH_done (by kernel_rfl) ?_ _
      have hgr := setRow_gr w5 w.heap.size (cells RR.1 (.slice PA pn pc))
      have hx6 : Bx (w5.setRow w.heap.size (cells RR.1 (.slice PA pn pc))) w.heap.size RR.1 (.slice PA pn pc) := setRow_heap _ _ _ _ _ _ hz5
      have hp6 := psl_far hp5 hz5 ⟨_, _, _, rfl⟩ hgr
      have hb6 := (hb4d.trans (hb5.mono hb4d.size)).grown hgr (Nat.le_of_lt hz5.lt) (fun k hk => by injection hk; omega)
      refine Hid.out ?_
      refine Lib.hid ?_
      go_wp2_with fail
      exact out2 Try.results72 rfl rfl rfl hx6 ⟨PA, pn, pc, rfl, hp6, hb6⟩
    · skip
      subst hKc
      obtain rfl : n = c := by omega
      have c8 : ¬ n = 8 := by omega
      go_enter Try.func72, Try.ntmps72
      go_wp2_with fail
      go_quiet (fail)
      have k0' : (w1.drewN nq).cell? a = some (.int .u8 ((by_ x 0).toNat : Int)) := k0
      go_wp2_with fail
      have HB0 : Below w.heap.size w (w1.drewN nq).drew := below_drew (below_drewN hb1)
      have HBE : Below w.heap.size w (((w1.drewN nq).drew.alloc (.cells #[.int .u8 0, .int .u8 0, .int .u8 0, .string ⟨#[]⟩, .int .u8 0, .int .u8 0, .bool false, .int .i64 0, .bool false, .int .i64 0, .int .i64 0, .int .i64 0, .int .i64 0, .slice none 0 0, .int .u8 0, .int .u8 0, .int .u8 0, .int .u8 0, .int .u8 0, .int .u8 0, .int .u8 0, .int .u8 0, .int .u8 0, .int .u16 0, .int .u16 0, .int .u16 0, .bool false, .int .i64 0] 59)).setRow (w1.drewN nq).drew.heap.size (cells (beg x) (.slice none 0 0))) :=
        (HB0.alloc HB0.size _).grown (setRow_gr _ _ _) (by rw [World.size_alloc]; exact Nat.le_succ_of_le HB0.size) (fun k hk => by injection hk with hk; rw [← hk]; exact HB0.size)
      have hxF : Bx (((w1.drewN nq).drew.alloc (.cells #[.int .u8 0, .int .u8 0, .int .u8 0, .string ⟨#[]⟩, .int .u8 0, .int .u8 0, .bool false, .int .i64 0, .bool false, .int .i64 0, .int .i64 0, .int .i64 0, .int .i64 0, .slice none 0 0, .int .u8 0, .int .u8 0, .int .u8 0, .int .u8 0, .int .u8 0, .int .u8 0, .int .u8 0, .int .u8 0, .int .u8 0, .int .u16 0, .int .u16 0, .int .u16 0, .bool false, .int .i64 0] 59)).setRow (w1.drewN nq).drew.heap.size (cells (beg x) (.slice none 0 0))) (w1.drewN nq).drew.heap.size (beg x) (.slice none 0 0) := setRow_heap _ _ _ _ _ _ (Bx.zero (w1.drewN nq).drew)
      have hzF : Bx (((w1.drewN nq).drew.alloc (.cells #[.int .u8 0, .int .u8 0, .int .u8 0, .string ⟨#[]⟩, .int .u8 0, .int .u8 0, .bool false, .int .i64 0, .bool false, .int .i64 0, .int .i64 0, .int .i64 0, .int .i64 0, .slice none 0 0, .int .u8 0, .int .u8 0, .int .u8 0, .int .u8 0, .int .u8 0, .int .u8 0, .int .u8 0, .int .u8 0, .int .u8 0, .int .u16 0, .int .u16 0, .int .u16 0, .bool false, .int .i64 0] 59)).setRow (w1.drewN nq).drew.heap.size (cells (beg x) (.slice none 0 0))) w.heap.size noSn (.slice none 0 0) :=
        ((show Bx (w1.drewN nq).drew w.heap.size noSn (.slice none 0 0) from hz1).alloc _).kept (setRow_gr _ _ _) (fun e => by injection e with e; have := hz1.lt; rw [e] at this; exact absurd this (Nat.lt_irrefl _))
      have HXF := Lib.hid hxF
      have HZF := Lib.hid hzF
      clear hxF hzF
      refine wp_region_held_drew (S := (fun W => Below w.heap.size w W)) (by kernel_rfl) ?_ (fun hHeld => ?_)
      · (try dsimp only); exact HB0
      refine wpAnyH_take (i := 0) (oi := _) (v := ?vq11_0) rfl (by kernel_rfl) (by kernel_rfl) (by kernel_rfl) (fun _ _ _ h => h) (Or.inl ⟨rfl, ?yq11_0⟩) (by assumption) ?_
      case yq11_0 => intro w hSw; (try dsimp only at hSw); go_simp; (try with_reducible rfl)
      (try simp only [Act.put, List.getElem_toArray, List.getElem_cons_zero, List.setIfInBounds_toArray, List.set_cons_zero, List.set_cons_succ])
      refine wpAnyH_take (i := 1) (oi := _) (v := ?vq11_1) rfl (by kernel_rfl) (by kernel_rfl) (by kernel_rfl) (fun _ _ _ h => h) (Or.inl ⟨rfl, ?yq11_1⟩) (by assumption) ?_
      case yq11_1 => intro w hSw; (try dsimp only at hSw); go_simp; (try with_reducible rfl)
      (try simp only [Act.put, List.getElem_toArray, List.getElem_cons_succ, List.getElem_cons_zero, List.setIfInBounds_toArray, List.set_cons_zero, List.set_cons_succ])
      refine wpAnyH_take (i := 2) (oi := _) (v := ?vq11_2) rfl (by kernel_rfl) (by kernel_rfl) (by kernel_rfl) (fun _ _ _ h => h) (Or.inl ⟨rfl, ?yq11_2⟩) (by assumption) ?_
      case yq11_2 => intro w hSw; (try dsimp only at hSw); (have s1 := byk (HSS.out _ hSw).row 0 (by have := (HSS.out _ hSw).len; omega)); clear hSw; (try simp only [Nat.zero_add] at s1); go_simp; (try with_reducible rfl)
      (try simp only [Act.put, List.getElem_toArray, List.getElem_cons_succ, List.getElem_cons_zero, List.setIfInBounds_toArray, List.set_cons_zero, List.set_cons_succ])
      refine wpAnyH_take (i := 3) (oi := _) (v := ?vq11_3) rfl (by kernel_rfl) (by kernel_rfl) (by kernel_rfl) (fun _ _ _ h => h) (Or.inl ⟨rfl, ?yq11_3⟩) (by assumption) ?_
      case yq11_3 => intro w hSw; (try dsimp only at hSw); go_simp; (try with_reducible rfl)
      (try simp only [Act.put, List.getElem_toArray, List.getElem_cons_succ, List.getElem_cons_zero, List.setIfInBounds_toArray, List.set_cons_zero, List.set_cons_succ])
      refine wpAnyH_take (i := 4) (oi := _) (v := ?vq11_4) rfl (by kernel_rfl) (by kernel_rfl) (by kernel_rfl) (fun _ _ _ h => h) (Or.inl ⟨rfl, ?yq11_4⟩) (by assumption) ?_
      case yq11_4 => intro w hSw; (try dsimp only at hSw); go_simp; (try with_reducible rfl)
      (try simp only [Act.put, List.getElem_toArray, List.getElem_cons_succ, List.getElem_cons_zero, List.setIfInBounds_toArray, List.set_cons_zero, List.set_cons_succ])
      refine wpAnyH_take (i := 5) (oi := _) (v := ?vq11_5) rfl (by kernel_rfl) (by kernel_rfl) (by kernel_rfl) (fun _ _ _ h => h) (Or.inl ⟨rfl, ?yq11_5⟩) (by assumption) ?_
      case yq11_5 => intro w hSw; (try dsimp only at hSw); (have s1 := byk (HSS.out _ hSw).row 1 (by have := (HSS.out _ hSw).len; omega)); clear hSw; (try simp only [Nat.reduceAdd] at s1); go_simp; (try with_reducible rfl)
      (try simp only [Act.put, List.getElem_toArray, List.getElem_cons_succ, List.getElem_cons_zero, List.setIfInBounds_toArray, List.set_cons_zero, List.set_cons_succ])
      refine wpAnyH_take (i := 6) (oi := _) (v := ?vq11_6) rfl (by kernel_rfl) (by kernel_rfl) (by kernel_rfl) (fun _ _ _ h => h) (Or.inl ⟨rfl, ?yq11_6⟩) (by assumption) ?_
      case yq11_6 => intro w hSw; (try dsimp only at hSw); go_simp; (try with_reducible rfl)
      (try simp only [Act.put, List.getElem_toArray, List.getElem_cons_succ, List.getElem_cons_zero, List.setIfInBounds_toArray, List.set_cons_zero, List.set_cons_succ])
      refine wpAnyH_take (i := 7) (oi := _) (v := ?vq11_7) rfl (by kernel_rfl) (by kernel_rfl) (by kernel_rfl) (fun _ _ _ h => h) (Or.inl ⟨rfl, ?yq11_7⟩) (by assumption) ?_
      case yq11_7 => intro w hSw; (try dsimp only at hSw); go_simp; (try with_reducible rfl)
      (try simp only [Act.put, List.getElem_toArray, List.getElem_cons_succ, List.getElem_cons_zero, List.setIfInBounds_toArray, List.set_cons_zero, List.set_cons_succ])
      refine wpAnyH_take (i := 8) (oi := _) (v := ?vq11_8) rfl (by kernel_rfl) (by kernel_rfl) (by kernel_rfl) (fun _ _ _ h => h) (Or.inl ⟨rfl, ?yq11_8⟩) (by assumption) ?_
      case yq11_8 => intro w hSw; (try dsimp only at hSw); (have s1 := byk (HSS.out _ hSw).row 2 (by have := (HSS.out _ hSw).len; omega)); clear hSw; (try simp only [Nat.reduceAdd] at s1); go_simp; (try with_reducible rfl)
      (try simp only [Act.put, List.getElem_toArray, List.getElem_cons_succ, List.getElem_cons_zero, List.setIfInBounds_toArray, List.set_cons_zero, List.set_cons_succ])
      refine wpAnyH_take (i := 9) (oi := _) (v := ?vq11_9) rfl (by kernel_rfl) (by kernel_rfl) (by kernel_rfl) (fun _ _ _ h => h) (Or.inl ⟨rfl, ?yq11_9⟩) (by assumption) ?_
      case yq11_9 => intro w hSw; (try dsimp only at hSw); go_simp; (try with_reducible rfl)
      (try simp only [Act.put, List.getElem_toArray, List.getElem_cons_succ, List.getElem_cons_zero, List.setIfInBounds_toArray, List.set_cons_zero, List.set_cons_succ])
      refine wpAnyH_take (i := 10) (oi := _) (v := ?vq11_10) rfl (by kernel_rfl) (by kernel_rfl) (by kernel_rfl) (fun _ _ _ h => h) (Or.inl ⟨rfl, ?yq11_10⟩) (by assumption) ?_
      case yq11_10 => intro w hSw; (try dsimp only at hSw); go_simp; (try with_reducible rfl)
      (try simp only [Act.put, List.getElem_toArray, List.getElem_cons_succ, List.getElem_cons_zero, List.setIfInBounds_toArray, List.set_cons_zero, List.set_cons_succ])
      refine wpAnyH_take (i := 11) (oi := _) (v := ?vq11_11) rfl (by kernel_rfl) (by kernel_rfl) (by kernel_rfl) (fun _ _ _ h => h) (Or.inl ⟨rfl, ?yq11_11⟩) (by assumption) ?_
      case yq11_11 => intro w hSw; (try dsimp only at hSw); go_simp; (try with_reducible rfl)
      (try simp only [Act.put, List.getElem_toArray, List.getElem_cons_succ, List.getElem_cons_zero, List.setIfInBounds_toArray, List.set_cons_zero, List.set_cons_succ])
      refine wpAnyH_take (i := 12) (oi := _) (v := ?vq11_12) rfl (by kernel_rfl) (by kernel_rfl) (by kernel_rfl) (fun _ _ _ h => h) (Or.inl ⟨rfl, ?yq11_12⟩) (by assumption) ?_
      case yq11_12 => intro w hSw; (try dsimp only at hSw); (have s1 := conv_sb (sl_piece (HSS.out _ hSw) (by omega) (by omega) (kx := n) (by omega))); clear hSw; go_simp; (try with_reducible rfl)
      (try simp only [Act.put, List.getElem_toArray, List.getElem_cons_succ, List.getElem_cons_zero, List.setIfInBounds_toArray, List.set_cons_zero, List.set_cons_succ])
      refine wpAnyH_take (i := 13) (oi := _) (v := ?vq11_13) rfl (by kernel_rfl) (by kernel_rfl) (by kernel_rfl) (fun _ _ _ h => h) (Or.inl ⟨rfl, ?yq11_13⟩) (by assumption) ?_
      case yq11_13 => intro w hSw; (try dsimp only at hSw); go_simp; (try with_reducible rfl)
      (try simp only [Act.put, List.getElem_toArray, List.getElem_cons_succ, List.getElem_cons_zero, List.setIfInBounds_toArray, List.set_cons_zero, List.set_cons_succ])
      refine wpAnyH_take (i := 14) (oi := _) (v := ?vq11_14) rfl (by kernel_rfl) (by kernel_rfl) (by kernel_rfl) (fun _ _ _ h => h) (Or.inl ⟨rfl, ?yq11_14⟩) (by assumption) ?_
      case yq11_14 => intro w hSw; (try dsimp only at hSw); go_simp; (try with_reducible rfl)
      (try simp only [Act.put, List.getElem_toArray, List.getElem_cons_succ, List.getElem_cons_zero, List.setIfInBounds_toArray, List.set_cons_zero, List.set_cons_succ])
      refine wpAnyH_take (i := 15) (oi := _) (v := ?vq11_15) rfl (by kernel_rfl) (by kernel_rfl) (by kernel_rfl) (fun _ _ _ h => h) (Or.inl ⟨rfl, ?yq11_15⟩) (by assumption) ?_
      case yq11_15 => intro w hSw; (try dsimp only at hSw); (have s1 := byk (HSS.out _ hSw).row 3 (by have := (HSS.out _ hSw).len; omega)); clear hSw; (try simp only [Nat.reduceAdd] at s1); go_simp; (try with_reducible rfl)
      (try simp only [Act.put, List.getElem_toArray, List.getElem_cons_succ, List.getElem_cons_zero, List.setIfInBounds_toArray, List.set_cons_zero, List.set_cons_succ])
      refine wpAnyH_take (i := 16) (oi := _) (v := ?vq11_16) rfl (by kernel_rfl) (by kernel_rfl) (by kernel_rfl) (fun _ _ _ h => h) (Or.inl ⟨rfl, ?yq11_16⟩) (by assumption) ?_
      case yq11_16 => intro w hSw; (try dsimp only at hSw); go_simp; (try with_reducible rfl)
      (try simp only [Act.put, List.getElem_toArray, List.getElem_cons_succ, List.getElem_cons_zero, List.setIfInBounds_toArray, List.set_cons_zero, List.set_cons_succ])
      refine wpAnyH_take (i := 17) (oi := _) (v := ?vq11_17) rfl (by kernel_rfl) (by kernel_rfl) (by kernel_rfl) (fun _ _ _ h => h) (Or.inl ⟨rfl, ?yq11_17⟩) (by assumption) ?_
      case yq11_17 => intro w hSw; (try dsimp only at hSw); go_simp; (try with_reducible rfl)
      (try simp only [Act.put, List.getElem_toArray, List.getElem_cons_succ, List.getElem_cons_zero, List.setIfInBounds_toArray, List.set_cons_zero, List.set_cons_succ])
      refine wpAnyH_take (i := 18) (oi := _) (v := ?vq11_18) rfl (by kernel_rfl) (by kernel_rfl) (by kernel_rfl) (fun _ _ _ h => h) (Or.inl ⟨rfl, ?yq11_18⟩) (by assumption) ?_
      case yq11_18 => intro w hSw; (try dsimp only at hSw); (have s1 := byk (HSS.out _ hSw).row 4 (by have := (HSS.out _ hSw).len; omega)); clear hSw; (try simp only [Nat.reduceAdd] at s1); go_simp; (try with_reducible rfl)
      (try simp only [Act.put, List.getElem_toArray, List.getElem_cons_succ, List.getElem_cons_zero, List.setIfInBounds_toArray, List.set_cons_zero, List.set_cons_succ])
      refine wpAnyH_take (i := 19) (oi := _) (v := ?vq11_19) rfl (by kernel_rfl) (by kernel_rfl) (by kernel_rfl) (fun _ _ _ h => h) (Or.inl ⟨rfl, ?yq11_19⟩) (by assumption) ?_
      case yq11_19 => intro w hSw; (try dsimp only at hSw); go_simp; (try with_reducible rfl)
      (try simp only [Act.put, List.getElem_toArray, List.getElem_cons_succ, List.getElem_cons_zero, List.setIfInBounds_toArray, List.set_cons_zero, List.set_cons_succ])
      refine wpAnyH_take (i := 20) (oi := _) (v := ?vq11_20) rfl (by kernel_rfl) (by kernel_rfl) (by kernel_rfl) (fun _ _ _ h => h) (Or.inl ⟨rfl, ?yq11_20⟩) (by assumption) ?_
      case yq11_20 => intro w hSw; (try dsimp only at hSw); go_simp; (try with_reducible rfl)
      (try simp only [Act.put, List.getElem_toArray, List.getElem_cons_succ, List.getElem_cons_zero, List.setIfInBounds_toArray, List.set_cons_zero, List.set_cons_succ])
      refine wpAnyH_take (i := 21) (oi := _) (v := ?vq11_21) rfl (by kernel_rfl) (by kernel_rfl) (by kernel_rfl) (fun _ _ _ h => h) (Or.inl ⟨rfl, ?yq11_21⟩) (by assumption) ?_
      case yq11_21 => intro w hSw; (try dsimp only at hSw); go_simp; (try with_reducible rfl)
      (try simp only [Act.put, List.getElem_toArray, List.getElem_cons_succ, List.getElem_cons_zero, List.setIfInBounds_toArray, List.set_cons_zero, List.set_cons_succ])
      refine wpAnyH_take (i := 22) (oi := _) (v := ?vq11_22) rfl (by kernel_rfl) (by kernel_rfl) (by kernel_rfl) (fun _ _ _ h => h) (Or.inl ⟨rfl, ?yq11_22⟩) (by assumption) ?_
      case yq11_22 => intro w hSw; (try dsimp only at hSw); go_simp; (try with_reducible rfl)
      (try simp only [Act.put, List.getElem_toArray, List.getElem_cons_succ, List.getElem_cons_zero, List.setIfInBounds_toArray, List.set_cons_zero, List.set_cons_succ])
      refine wpAnyH_take (i := 23) (oi := _) (v := ?vq11_23) rfl (by kernel_rfl) (by kernel_rfl) (by kernel_rfl) (fun _ _ _ h => h) (Or.inl ⟨rfl, ?yq11_23⟩) (by assumption) ?_
      case yq11_23 => intro w hSw; (try dsimp only at hSw); go_simp; (try with_reducible rfl)
      (try simp only [Act.put, List.getElem_toArray, List.getElem_cons_succ, List.getElem_cons_zero, List.setIfInBounds_toArray, List.set_cons_zero, List.set_cons_succ])
      refine wpAnyH_take (i := 24) (oi := _) (v := ?vq11_24) rfl (by kernel_rfl) (by kernel_rfl) (by kernel_rfl) (fun _ _ _ h => h) (Or.inl ⟨rfl, ?yq11_24⟩) (by assumption) ?_
      case yq11_24 => intro w hSw; (try dsimp only at hSw); go_simp; (try with_reducible rfl)
      (try simp only [Act.put, List.getElem_toArray, List.getElem_cons_succ, List.getElem_cons_zero, List.setIfInBounds_toArray, List.set_cons_zero, List.set_cons_succ])
      refine wpAnyH_take (i := 25) (oi := _) (v := ?vq11_25) rfl (by kernel_rfl) (by kernel_rfl) (by kernel_rfl) (fun _ _ _ h => h) (Or.inl ⟨rfl, ?yq11_25⟩) (by assumption) ?_
      case yq11_25 => intro w hSw; (try dsimp only at hSw); go_simp; (try with_reducible rfl)
      (try simp only [Act.put, List.getElem_toArray, List.getElem_cons_succ, List.getElem_cons_zero, List.setIfInBounds_toArray, List.set_cons_zero, List.set_cons_succ])
      refine wpAnyH_take (i := 26) (oi := _) (v := ?vq11_26) rfl (by kernel_rfl) (by kernel_rfl) (by kernel_rfl) (fun _ _ _ h => h) (Or.inl ⟨rfl, ?yq11_26⟩) (by assumption) ?_
      case yq11_26 => intro w hSw; (try dsimp only at hSw); go_simp; (try with_reducible rfl)
      (try simp only [Act.put, List.getElem_toArray, List.getElem_cons_succ, List.getElem_cons_zero, List.setIfInBounds_toArray, List.set_cons_zero, List.set_cons_succ])
      refine wpAnyH_take (i := 27) (oi := _) (v := ?vq11_27) rfl (by kernel_rfl) (by kernel_rfl) (by kernel_rfl) (fun _ _ _ h => h) (Or.inl ⟨rfl, ?yq11_27⟩) (by assumption) ?_
      case yq11_27 => intro w hSw; (try dsimp only at hSw); go_simp; (try with_reducible rfl)
      (try simp only [Act.put, List.getElem_toArray, List.getElem_cons_succ, List.getElem_cons_zero, List.setIfInBounds_toArray, List.set_cons_zero, List.set_cons_succ])
      refine wpAnyH_take (i := 28) (oi := _) (v := ?vq11_28) rfl (by kernel_rfl) (by kernel_rfl) (by kernel_rfl) (fun _ _ _ h => h) (Or.inl ⟨rfl, ?yq11_28⟩) (by assumption) ?_
      case yq11_28 => intro w hSw; (try dsimp only at hSw); go_simp; (try with_reducible rfl)
      (try simp only [Act.put, List.getElem_toArray, List.getElem_cons_succ, List.getElem_cons_zero, List.setIfInBounds_toArray, List.set_cons_zero, List.set_cons_succ])
      refine wpAnyH_take (i := 29) (oi := _) (v := ?vq11_29) rfl (by kernel_rfl) (by kernel_rfl) (by kernel_rfl) (fun _ _ _ h => h) (Or.inl ⟨rfl, ?yq11_29⟩) (by assumption) ?_
      case yq11_29 => intro w hSw; (try dsimp only at hSw); go_simp; (try with_reducible rfl)
      (try simp only [Act.put, List.getElem_toArray, List.getElem_cons_succ, List.getElem_cons_zero, List.setIfInBounds_toArray, List.set_cons_zero, List.set_cons_succ])
      refine wpAnyH_ready (rs := [30]) (by kernel_rfl) (by simp) ?_
      refine AllReadyH.cons (o := _) rfl (fun K hK => ?_) AllReadyH.nil
      go_simp
      refine hK.out _ _ ?_ (fun hHeld => ?_)
      · (try dsimp only); exact HB0.alloc HB0.size _
      clear hK K
      (try simp only [Act.put, List.getElem_toArray, List.getElem_cons_succ, List.getElem_cons_zero, List.setIfInBounds_toArray, List.set_cons_zero, List.set_cons_succ])
      refine wpAnyH_ready (rs := [31]) (by kernel_rfl) (by simp) ?_
      refine AllReadyH.cons (o := _) rfl (fun K hK => ?_) AllReadyH.nil
      rw [if_pos (by rfl)]
      refine wp_store_row (P := Try.prog) _ (.tmp 6) (.tmp 58) rfl (w1.drewN nq).drew.heap.size (cells (beg x) (.slice none 0 0)) rfl (by show Value.agg #[.int .u8 ((by_ x 1).toNat : Int), .int .u8 ((by_ x 2).toNat : Int), .int .u8 ((by_ x 3).toNat : Int), .string ⟨(List.take (n - 8) (List.drop 8 x)).toArray⟩, .int .u8 ((by_ x 4).toNat : Int), .int .u8 ((by_ x 5).toNat : Int), .bool true, .int .i64 0, .bool false, .int .i64 0, .int .i64 0, .int .i64 0, .int .i64 0, .slice none 0 0, .int .u8 0, .int .u8 0, .int .u8 0, .int .u8 0, .int .u8 0, .int .u8 0, .int .u8 0, .int .u8 0, .int .u8 0, .int .u16 0, .int .u16 0, .int .u16 0, .bool ON, .int .i64 ((SM : Nat) : Int)] = _; rw [HBEG.out, ← HK7.out]; rfl) _ _ (Bx.zero (w1.drewN nq).drew) (by kernel_rfl) rfl (one_cells _ _ rfl) ?_
      refine hK.out _ _ ?_ (fun hHeld => ?_)
      · (try dsimp only); exact HBE
      clear hK K
      (try simp only [Act.put, List.getElem_toArray, List.getElem_cons_succ, List.getElem_cons_zero])
      refine wpAnyH_done (by kernel_rfl) ?_ _
      refine Hid.out ?_
      refine Lib.hid ?_
      have hxF : Bx (((w1.drewN (nq + 1)).alloc (.cells #[.int .u8 0, .int .u8 0, .int .u8 0, .string ⟨#[]⟩, .int .u8 0, .int .u8 0, .bool false, .int .i64 0, .bool false, .int .i64 0, .int .i64 0, .int .i64 0, .int .i64 0, .slice none 0 0, .int .u8 0, .int .u8 0, .int .u8 0, .int .u8 0, .int .u8 0, .int .u8 0, .int .u8 0, .int .u8 0, .int .u8 0, .int .u16 0, .int .u16 0, .int .u16 0, .bool false, .int .i64 0] 59)).setRow (w1.drewN nq).drew.heap.size (cells (beg x) (.slice none 0 0))) w1.heap.size (beg x) (.slice none 0 0) := HXF.out
      have hzF : Bx (((w1.drewN (nq + 1)).alloc (.cells #[.int .u8 0, .int .u8 0, .int .u8 0, .string ⟨#[]⟩, .int .u8 0, .int .u8 0, .bool false, .int .i64 0, .bool false, .int .i64 0, .int .i64 0, .int .i64 0, .int .i64 0, .slice none 0 0, .int .u8 0, .int .u8 0, .int .u8 0, .int .u8 0, .int .u8 0, .int .u8 0, .int .u8 0, .int .u8 0, .int .u8 0, .int .u16 0, .int .u16 0, .int .u16 0, .bool false, .int .i64 0] 59)).setRow (w1.drewN nq).drew.heap.size (cells (beg x) (.slice none 0 0))) w.heap.size noSn (.slice none 0 0) := HZF.out
      have hBF : Below w.heap.size w (((w1.drewN (nq + 1)).alloc (.cells #[.int .u8 0, .int .u8 0, .int .u8 0, .string ⟨#[]⟩, .int .u8 0, .int .u8 0, .bool false, .int .i64 0, .bool false, .int .i64 0, .int .i64 0, .int .i64 0, .int .i64 0, .slice none 0 0, .int .u8 0, .int .u8 0, .int .u8 0, .int .u8 0, .int .u8 0, .int .u8 0, .int .u8 0, .int .u8 0, .int .u8 0, .int .u16 0, .int .u16 0, .int .u16 0, .bool false, .int .i64 0] 59)).setRow (w1.drewN nq).drew.heap.size (cells (beg x) (.slice none 0 0))) := HBE
      have hF1 : w.heap.size < w1.heap.size := hz1.lt
      clear HXF HZF HB0 HBE hHeld
      generalize (((w1.drewN (nq + 1)).alloc (.cells #[.int .u8 0, .int .u8 0, .int .u8 0, .string ⟨#[]⟩, .int .u8 0, .int .u8 0, .bool false, .int .i64 0, .bool false, .int .i64 0, .int .i64 0, .int .i64 0, .int .i64 0, .slice none 0 0, .int .u8 0, .int .u8 0, .int .u8 0, .int .u8 0, .int .u8 0, .int .u8 0, .int .u8 0, .int .u8 0, .int .u8 0, .int .u16 0, .int .u16 0, .int .u16 0, .bool false, .int .i64 0] 59)).setRow (w1.drewN nq).drew.heap.size (cells (beg x) (.slice none 0 0))) = w4 at *
      generalize hFF : w1.heap.size = F at *
      have HFF := Lib.hid hFF
      have kd : w4.cell? ⟨F, 6, none⟩ = some (.bool true) := by
        have := hxF.c 6
        rw [HBEG.out] at this
        exact this
      have hHR := Lib.hid (HSS.out _ hBF)
      clear HSS HRS hFF e1 e2 e3 e4 e4b e5 e6 k0 k6 k7 k0' gi1 gi2 gi3 gi4 gi5 hu8 hW HS1
      go_wp2_with fail
      have hHRd := hHR.out
      have hHeld2 : Sl w4.drew (some a) n n x := ⟨hHRd.len, hHRd.row, hHRd.cap, hHRd.max, hHRd.nil⟩
      have hx4d : Bx w4.drew F (beg x) (.slice none 0 0) := hxF
      have hz4d : Bx w4.drew w.heap.size noSn (.slice none 0 0) := hzF
      have hb4d := below_drew hBF
      have HCALL := Lib.hid (rdd_q (beg x) _ _ _ (x.drop n) w4.drew (sl_zero' hHeld2) rfl)
      generalize hRR : rdD (beg x) (x.drop n) = RR at *
      clear hHRd hHeld2 hRR
      refine wp_region_held_drew (S := (fun W => Bx W F (beg x) (.slice none 0 0))) (by kernel_rfl) ?_ (fun hHeld => ?_)
      · (try dsimp only); exact hx4d
      refine wpAnyH_take (i := 0) (oi := _) (v := ?vq10_0) rfl (by kernel_rfl) (by kernel_rfl) (by kernel_rfl) (fun _ _ _ h => h) (Or.inl ⟨rfl, ?yq10_0⟩) (by assumption) ?_
      case yq10_0 => intro w hSw; (try dsimp only at hSw); ((refine exec_load_bx (.tmp 6) ?_ ?_ hSw) <;> rfl)
      (try simp only [Act.put, List.getElem_toArray, List.getElem_cons_zero, List.setIfInBounds_toArray, List.set_cons_zero, List.set_cons_succ])
      refine wpAnyH_take (i := 1) (oi := _) (v := ?vq10_1) rfl (by kernel_rfl) (by kernel_rfl) (by kernel_rfl) (fun _ _ _ h => h) (Or.inl ⟨rfl, ?yq10_1⟩) (by assumption) ?_
      case yq10_1 => intro w hSw; (try dsimp only at hSw); go_simp; (try with_reducible rfl)
      (try simp only [Act.put, List.getElem_toArray, List.getElem_cons_succ, List.getElem_cons_zero, List.setIfInBounds_toArray, List.set_cons_zero, List.set_cons_succ])
      refine wpAnyH_take (i := 2) (oi := _) (v := ?vq10_2) rfl (by kernel_rfl) (by kernel_rfl) (by kernel_rfl) (fun _ _ _ h => h) (Or.inl ⟨rfl, ?yq10_2⟩) (by assumption) ?_
      case yq10_2 => intro w hSw; (try dsimp only at hSw); go_simp; (try with_reducible rfl)
      (try simp only [Act.put, List.getElem_toArray, List.getElem_cons_succ, List.getElem_cons_zero, List.setIfInBounds_toArray, List.set_cons_zero, List.set_cons_succ])
      refine wpAnyH_take (i := 3) (oi := _) (v := ?vq10_3) rfl (by kernel_rfl) (by kernel_rfl) (by kernel_rfl) (fun _ _ _ h => h) (Or.inl ⟨rfl, ?yq10_3⟩) (by assumption) ?_
      case yq10_3 => intro w hSw; (try dsimp only at hSw); go_simp; (try with_reducible rfl)
      (try simp only [Act.put, List.getElem_toArray, List.getElem_cons_succ, List.getElem_cons_zero, List.setIfInBounds_toArray, List.set_cons_zero, List.set_cons_succ])
      refine wpAnyH_ready (rs := [4]) (by kernel_rfl) (by simp) ?_
      refine AllReadyH.cons (o := _) rfl (fun K hK => ?_) AllReadyH.nil
      go_simp
      go_at_call 110; refine HCALL.out.mono ?_; rintro e w5 ⟨PA, pn, pc, rfl, hp5, hb5⟩; have hx5 := hx4d.below hb5; have hz5 := hz4d.below hb5
      refine hK.out _ _ ?_ (fun hHeld => ?_)
      · (try dsimp only); exact hx5
      clear hK K
      (try simp only [Act.put, List.getElem_toArray, List.getElem_cons_succ, List.getElem_cons_zero, List.setIfInBounds_toArray, List.set_cons_zero, List.set_cons_succ])
      refine wpAnyH_take (i := 5) (oi := _) (v := ?vq10_5) rfl (by kernel_rfl) (by kernel_rfl) (by kernel_rfl) (fun _ _ _ h => h) (Or.inl ⟨rfl, ?yq10_5⟩) (by assumption) ?_
      case yq10_5 => intro w hSw; (try dsimp only at hSw); go_simp; (try with_reducible rfl)
      (try simp only [Act.put, List.getElem_toArray, List.getElem_cons_succ, List.getElem_cons_zero, List.setIfInBounds_toArray, List.set_cons_zero, List.set_cons_succ])
      refine wpAnyH_take (i := 6) (oi := _) (v := ?vq10_6) rfl (by kernel_rfl) (by kernel_rfl) (by kernel_rfl) (fun _ _ _ h => h) (Or.inl ⟨rfl, ?yq10_6⟩) (by assumption) ?_
      case yq10_6 => intro w hSw; (try dsimp only at hSw); go_simp; (try with_reducible rfl)
      (try simp only [Act.put, List.getElem_toArray, List.getElem_cons_succ, List.getElem_cons_zero, List.setIfInBounds_toArray, List.set_cons_zero, List.set_cons_succ])
      refine wpAnyH_ready (rs := [7]) (by kernel_rfl) (by simp) ?_
      refine AllReadyH.cons (o := _) rfl (fun K hK => ?_) AllReadyH.nil
      rw [if_pos (by rfl)]
      refine wp_store_row (P := Try.prog) _ (.tmp 2) (.tmp 66) rfl w.heap.size (cells RR.1 (.slice PA pn pc)) rfl rfl _ _ hz5 (by kernel_rfl) rfl (one_cells _ _ rfl) ?_
      refine hK.out _ _ ?_ (fun hHeld => ?_)
      · (try dsimp only); exact hx5.kept (setRow_gr _ _ _) (fun e => by injection e; omega)
      clear hK K
      (try simp only [Act.put, List.getElem_toArray, List.getElem_cons_succ, List.getElem_cons_zero])
      refine wpAnyH_take (i := 8) (oi := _) (v := ?vq10_8) rfl (by kernel_rfl) (by kernel_rfl) (by kernel_rfl) (fun _ _ _ h => h) (Or.inl ⟨rfl, ?yq10_8⟩) (by assumption) ?_
      case yq10_8 => intro w hSw; (try dsimp only at hSw); go_simp; (try with_reducible rfl)
      (try simp only [Act.put, List.getElem_toArray, List.getElem_cons_succ, List.getElem_cons_zero, List.setIfInBounds_toArray, List.set_cons_zero, List.set_cons_succ])
      refine wpAnyH_done (by kernel_rfl) ?_ _
      have hgr := setRow_gr w5 w.heap.size (cells RR.1 (.slice PA pn pc))
      have hx6 : Bx (w5.setRow w.heap.size (cells RR.1 (.slice PA pn pc))) w.heap.size RR.1 (.slice PA pn pc) := setRow_heap _ _ _ _ _ _ hz5
      have hp6 := psl_far hp5 hz5 ⟨_, _, _, rfl⟩ hgr
      have hb6 := (hb4d.trans (hb5.mono hb4d.size)).grown hgr (Nat.le_of_lt hz5.lt) (fun k hk => by injection hk; omega)
      refine Hid.out ?_
      refine Lib.hid ?_
      go_wp2_with fail
      exact out2 Try.results72 rfl rfl rfl hx6 ⟨PA, pn, pc, rfl, hp6, hb6⟩
    · skip
      subst hKc
      subst h8c
      obtain rfl : n = 8 := by omega
      go_enter Try.func72, Try.ntmps72
      go_wp2_with fail
      go_quiet (fail)
      have k0' : (w1.drewN nq).cell? a = some (.int .u8 ((by_ x 0).toNat : Int)) := k0
      go_wp2_with fail
      have HB0 : Below w.heap.size w (w1.drewN nq).drew := below_drew (below_drewN hb1)
      have HBE : Below w.heap.size w (((w1.drewN nq).drew.alloc (.cells #[.int .u8 0, .int .u8 0, .int .u8 0, .string ⟨#[]⟩, .int .u8 0, .int .u8 0, .bool false, .int .i64 0, .bool false, .int .i64 0, .int .i64 0, .int .i64 0, .int .i64 0, .slice none 0 0, .int .u8 0, .int .u8 0, .int .u8 0, .int .u8 0, .int .u8 0, .int .u8 0, .int .u8 0, .int .u8 0, .int .u8 0, .int .u16 0, .int .u16 0, .int .u16 0, .bool false, .int .i64 0] 59)).setRow (w1.drewN nq).drew.heap.size (cells (beg x) (.slice none 0 0))) :=
        (HB0.alloc HB0.size _).grown (setRow_gr _ _ _) (by rw [World.size_alloc]; exact Nat.le_succ_of_le HB0.size) (fun k hk => by injection hk with hk; rw [← hk]; exact HB0.size)
      have hxF : Bx (((w1.drewN nq).drew.alloc (.cells #[.int .u8 0, .int .u8 0, .int .u8 0, .string ⟨#[]⟩, .int .u8 0, .int .u8 0, .bool false, .int .i64 0, .bool false, .int .i64 0, .int .i64 0, .int .i64 0, .int .i64 0, .slice none 0 0, .int .u8 0, .int .u8 0, .int .u8 0, .int .u8 0, .int .u8 0, .int .u8 0, .int .u8 0, .int .u8 0, .int .u8 0, .int .u16 0, .int .u16 0, .int .u16 0, .bool false, .int .i64 0] 59)).setRow (w1.drewN nq).drew.heap.size (cells (beg x) (.slice none 0 0))) (w1.drewN nq).drew.heap.size (beg x) (.slice none 0 0) := setRow_heap _ _ _ _ _ _ (Bx.zero (w1.drewN nq).drew)
      have hzF : Bx (((w1.drewN nq).drew.alloc (.cells #[.int .u8 0, .int .u8 0, .int .u8 0, .string ⟨#[]⟩, .int .u8 0, .int .u8 0, .bool false, .int .i64 0, .bool false, .int .i64 0, .int .i64 0, .int .i64 0, .int .i64 0, .slice none 0 0, .int .u8 0, .int .u8 0, .int .u8 0, .int .u8 0, .int .u8 0, .int .u8 0, .int .u8 0, .int .u8 0, .int .u8 0, .int .u16 0, .int .u16 0, .int .u16 0, .bool false, .int .i64 0] 59)).setRow (w1.drewN nq).drew.heap.size (cells (beg x) (.slice none 0 0))) w.heap.size noSn (.slice none 0 0) :=
        ((show Bx (w1.drewN nq).drew w.heap.size noSn (.slice none 0 0) from hz1).alloc _).kept (setRow_gr _ _ _) (fun e => by injection e with e; have := hz1.lt; rw [e] at this; exact absurd this (Nat.lt_irrefl _))
      have HXF := Lib.hid hxF
      have HZF := Lib.hid hzF
      clear hxF hzF
      refine wp_region_held_drew (S := (fun W => Below w.heap.size w W)) (by kernel_rfl) ?_ (fun hHeld => ?_)
      · (try dsimp only); exact HB0
      refine wpAnyH_take (i := 0) (oi := _) (v := ?vq13_0) rfl (by kernel_rfl) (by kernel_rfl) (by kernel_rfl) (fun _ _ _ h => h) (Or.inl ⟨rfl, ?yq13_0⟩) (by assumption) ?_
      case yq13_0 => intro w hSw; (try dsimp only at hSw); go_simp; (try with_reducible rfl)
      (try simp only [Act.put, List.getElem_toArray, List.getElem_cons_zero, List.setIfInBounds_toArray, List.set_cons_zero, List.set_cons_succ])
      refine wpAnyH_take (i := 1) (oi := _) (v := ?vq13_1) rfl (by kernel_rfl) (by kernel_rfl) (by kernel_rfl) (fun _ _ _ h => h) (Or.inl ⟨rfl, ?yq13_1⟩) (by assumption) ?_
      case yq13_1 => intro w hSw; (try dsimp only at hSw); go_simp; (try with_reducible rfl)
      (try simp only [Act.put, List.getElem_toArray, List.getElem_cons_succ, List.getElem_cons_zero, List.setIfInBounds_toArray, List.set_cons_zero, List.set_cons_succ])
      refine wpAnyH_take (i := 2) (oi := _) (v := ?vq13_2) rfl (by kernel_rfl) (by kernel_rfl) (by kernel_rfl) (fun _ _ _ h => h) (Or.inl ⟨rfl, ?yq13_2⟩) (by assumption) ?_
      case yq13_2 => intro w hSw; (try dsimp only at hSw); (have s1 := byk (HSS.out _ hSw).row 0 (by have := (HSS.out _ hSw).len; omega)); clear hSw; (try simp only [Nat.zero_add] at s1); go_simp; (try with_reducible rfl)
      (try simp only [Act.put, List.getElem_toArray, List.getElem_cons_succ, List.getElem_cons_zero, List.setIfInBounds_toArray, List.set_cons_zero, List.set_cons_succ])
      refine wpAnyH_take (i := 3) (oi := _) (v := ?vq13_3) rfl (by kernel_rfl) (by kernel_rfl) (by kernel_rfl) (fun _ _ _ h => h) (Or.inl ⟨rfl, ?yq13_3⟩) (by assumption) ?_
      case yq13_3 => intro w hSw; (try dsimp only at hSw); go_simp; (try with_reducible rfl)
      (try simp only [Act.put, List.getElem_toArray, List.getElem_cons_succ, List.getElem_cons_zero, List.setIfInBounds_toArray, List.set_cons_zero, List.set_cons_succ])
      refine wpAnyH_take (i := 4) (oi := _) (v := ?vq13_4) rfl (by kernel_rfl) (by kernel_rfl) (by kernel_rfl) (fun _ _ _ h => h) (Or.inl ⟨rfl, ?yq13_4⟩) (by assumption) ?_
      case yq13_4 => intro w hSw; (try dsimp only at hSw); go_simp; (try with_reducible rfl)
      (try simp only [Act.put, List.getElem_toArray, List.getElem_cons_succ, List.getElem_cons_zero, List.setIfInBounds_toArray, List.set_cons_zero, List.set_cons_succ])
      refine wpAnyH_take (i := 5) (oi := _) (v := ?vq13_5) rfl (by kernel_rfl) (by kernel_rfl) (by kernel_rfl) (fun _ _ _ h => h) (Or.inl ⟨rfl, ?yq13_5⟩) (by assumption) ?_
      case yq13_5 => intro w hSw; (try dsimp only at hSw); (have s1 := byk (HSS.out _ hSw).row 1 (by have := (HSS.out _ hSw).len; omega)); clear hSw; (try simp only [Nat.reduceAdd] at s1); go_simp; (try with_reducible rfl)
      (try simp only [Act.put, List.getElem_toArray, List.getElem_cons_succ, List.getElem_cons_zero, List.setIfInBounds_toArray, List.set_cons_zero, List.set_cons_succ])
      refine wpAnyH_take (i := 6) (oi := _) (v := ?vq13_6) rfl (by kernel_rfl) (by kernel_rfl) (by kernel_rfl) (fun _ _ _ h => h) (Or.inl ⟨rfl, ?yq13_6⟩) (by assumption) ?_
      case yq13_6 => intro w hSw; (try dsimp only at hSw); go_simp; (try with_reducible rfl)
      (try simp only [Act.put, List.getElem_toArray, List.getElem_cons_succ, List.getElem_cons_zero, List.setIfInBounds_toArray, List.set_cons_zero, List.set_cons_succ])
      refine wpAnyH_take (i := 7) (oi := _) (v := ?vq13_7) rfl (by kernel_rfl) (by kernel_rfl) (by kernel_rfl) (fun _ _ _ h => h) (Or.inl ⟨rfl, ?yq13_7⟩) (by assumption) ?_
      case yq13_7 => intro w hSw; (try dsimp only at hSw); go_simp; (try with_reducible rfl)
      (try simp only [Act.put, List.getElem_toArray, List.getElem_cons_succ, List.getElem_cons_zero, List.setIfInBounds_toArray, List.set_cons_zero, List.set_cons_succ])
      refine wpAnyH_take (i := 8) (oi := _) (v := ?vq13_8) rfl (by kernel_rfl) (by kernel_rfl) (by kernel_rfl) (fun _ _ _ h => h) (Or.inl ⟨rfl, ?yq13_8⟩) (by assumption) ?_
      case yq13_8 => intro w hSw; (try dsimp only at hSw); (have s1 := byk (HSS.out _ hSw).row 2 (by have := (HSS.out _ hSw).len; omega)); clear hSw; (try simp only [Nat.reduceAdd] at s1); go_simp; (try with_reducible rfl)
      (try simp only [Act.put, List.getElem_toArray, List.getElem_cons_succ, List.getElem_cons_zero, List.setIfInBounds_toArray, List.set_cons_zero, List.set_cons_succ])
      refine wpAnyH_take (i := 9) (oi := _) (v := ?vq13_9) rfl (by kernel_rfl) (by kernel_rfl) (by kernel_rfl) (fun _ _ _ h => h) (Or.inl ⟨rfl, ?yq13_9⟩) (by assumption) ?_
      case yq13_9 => intro w hSw; (try dsimp only at hSw); go_simp; (try with_reducible rfl)
      (try simp only [Act.put, List.getElem_toArray, List.getElem_cons_succ, List.getElem_cons_zero, List.setIfInBounds_toArray, List.set_cons_zero, List.set_cons_succ])
      refine wpAnyH_take (i := 10) (oi := _) (v := ?vq13_10) rfl (by kernel_rfl) (by kernel_rfl) (by kernel_rfl) (fun _ _ _ h => h) (Or.inl ⟨rfl, ?yq13_10⟩) (by assumption) ?_
      case yq13_10 => intro w hSw; (try dsimp only at hSw); go_simp; (try with_reducible rfl)
      (try simp only [Act.put, List.getElem_toArray, List.getElem_cons_succ, List.getElem_cons_zero, List.setIfInBounds_toArray, List.set_cons_zero, List.set_cons_succ])
      refine wpAnyH_take (i := 11) (oi := _) (v := ?vq13_11) rfl (by kernel_rfl) (by kernel_rfl) (by kernel_rfl) (fun _ _ _ h => h) (Or.inl ⟨rfl, ?yq13_11⟩) (by assumption) ?_
      case yq13_11 => intro w hSw; (try dsimp only at hSw); go_simp; (try with_reducible rfl)
      (try simp only [Act.put, List.getElem_toArray, List.getElem_cons_succ, List.getElem_cons_zero, List.setIfInBounds_toArray, List.set_cons_zero, List.set_cons_succ])
      refine wpAnyH_take (i := 12) (oi := _) (v := ?vq13_12) rfl (by kernel_rfl) (by kernel_rfl) (by kernel_rfl) (fun _ _ _ h => h) (Or.inl ⟨rfl, ?yq13_12⟩) (by assumption) ?_
      case yq13_12 => intro w hSw; (try dsimp only at hSw); (have s1 := conv_sb (sl_zero (HSS.out _ hSw))); clear hSw; go_simp; (try with_reducible rfl)
      (try simp only [Act.put, List.getElem_toArray, List.getElem_cons_succ, List.getElem_cons_zero, List.setIfInBounds_toArray, List.set_cons_zero, List.set_cons_succ])
      refine wpAnyH_take (i := 13) (oi := _) (v := ?vq13_13) rfl (by kernel_rfl) (by kernel_rfl) (by kernel_rfl) (fun _ _ _ h => h) (Or.inl ⟨rfl, ?yq13_13⟩) (by assumption) ?_
      case yq13_13 => intro w hSw; (try dsimp only at hSw); go_simp; (try with_reducible rfl)
      (try simp only [Act.put, List.getElem_toArray, List.getElem_cons_succ, List.getElem_cons_zero, List.setIfInBounds_toArray, List.set_cons_zero, List.set_cons_succ])
      refine wpAnyH_take (i := 14) (oi := _) (v := ?vq13_14) rfl (by kernel_rfl) (by kernel_rfl) (by kernel_rfl) (fun _ _ _ h => h) (Or.inl ⟨rfl, ?yq13_14⟩) (by assumption) ?_
      case yq13_14 => intro w hSw; (try dsimp only at hSw); go_simp; (try with_reducible rfl)
      (try simp only [Act.put, List.getElem_toArray, List.getElem_cons_succ, List.getElem_cons_zero, List.setIfInBounds_toArray, List.set_cons_zero, List.set_cons_succ])
      refine wpAnyH_take (i := 15) (oi := _) (v := ?vq13_15) rfl (by kernel_rfl) (by kernel_rfl) (by kernel_rfl) (fun _ _ _ h => h) (Or.inl ⟨rfl, ?yq13_15⟩) (by assumption) ?_
      case yq13_15 => intro w hSw; (try dsimp only at hSw); (have s1 := byk (HSS.out _ hSw).row 3 (by have := (HSS.out _ hSw).len; omega)); clear hSw; (try simp only [Nat.reduceAdd] at s1); go_simp; (try with_reducible rfl)
      (try simp only [Act.put, List.getElem_toArray, List.getElem_cons_succ, List.getElem_cons_zero, List.setIfInBounds_toArray, List.set_cons_zero, List.set_cons_succ])
      refine wpAnyH_take (i := 16) (oi := _) (v := ?vq13_16) rfl (by kernel_rfl) (by kernel_rfl) (by kernel_rfl) (fun _ _ _ h => h) (Or.inl ⟨rfl, ?yq13_16⟩) (by assumption) ?_
      case yq13_16 => intro w hSw; (try dsimp only at hSw); go_simp; (try with_reducible rfl)
      (try simp only [Act.put, List.getElem_toArray, List.getElem_cons_succ, List.getElem_cons_zero, List.setIfInBounds_toArray, List.set_cons_zero, List.set_cons_succ])
      refine wpAnyH_take (i := 17) (oi := _) (v := ?vq13_17) rfl (by kernel_rfl) (by kernel_rfl) (by kernel_rfl) (fun _ _ _ h => h) (Or.inl ⟨rfl, ?yq13_17⟩) (by assumption) ?_
      case yq13_17 => intro w hSw; (try dsimp only at hSw); go_simp; (try with_reducible rfl)
      (try simp only [Act.put, List.getElem_toArray, List.getElem_cons_succ, List.getElem_cons_zero, List.setIfInBounds_toArray, List.set_cons_zero, List.set_cons_succ])
      refine wpAnyH_take (i := 18) (oi := _) (v := ?vq13_18) rfl (by kernel_rfl) (by kernel_rfl) (by kernel_rfl) (fun _ _ _ h => h) (Or.inl ⟨rfl, ?yq13_18⟩) (by assumption) ?_
      case yq13_18 => intro w hSw; (try dsimp only at hSw); (have s1 := byk (HSS.out _ hSw).row 4 (by have := (HSS.out _ hSw).len; omega)); clear hSw; (try simp only [Nat.reduceAdd] at s1); go_simp; (try with_reducible rfl)
      (try simp only [Act.put, List.getElem_toArray, List.getElem_cons_succ, List.getElem_cons_zero, List.setIfInBounds_toArray, List.set_cons_zero, List.set_cons_succ])
      refine wpAnyH_take (i := 19) (oi := _) (v := ?vq13_19) rfl (by kernel_rfl) (by kernel_rfl) (by kernel_rfl) (fun _ _ _ h => h) (Or.inl ⟨rfl, ?yq13_19⟩) (by assumption) ?_
      case yq13_19 => intro w hSw; (try dsimp only at hSw); go_simp; (try with_reducible rfl)
      (try simp only [Act.put, List.getElem_toArray, List.getElem_cons_succ, List.getElem_cons_zero, List.setIfInBounds_toArray, List.set_cons_zero, List.set_cons_succ])
      refine wpAnyH_take (i := 20) (oi := _) (v := ?vq13_20) rfl (by kernel_rfl) (by kernel_rfl) (by kernel_rfl) (fun _ _ _ h => h) (Or.inl ⟨rfl, ?yq13_20⟩) (by assumption) ?_
      case yq13_20 => intro w hSw; (try dsimp only at hSw); go_simp; (try with_reducible rfl)
      (try simp only [Act.put, List.getElem_toArray, List.getElem_cons_succ, List.getElem_cons_zero, List.setIfInBounds_toArray, List.set_cons_zero, List.set_cons_succ])
      refine wpAnyH_take (i := 21) (oi := _) (v := ?vq13_21) rfl (by kernel_rfl) (by kernel_rfl) (by kernel_rfl) (fun _ _ _ h => h) (Or.inl ⟨rfl, ?yq13_21⟩) (by assumption) ?_
      case yq13_21 => intro w hSw; (try dsimp only at hSw); go_simp; (try with_reducible rfl)
      (try simp only [Act.put, List.getElem_toArray, List.getElem_cons_succ, List.getElem_cons_zero, List.setIfInBounds_toArray, List.set_cons_zero, List.set_cons_succ])
      refine wpAnyH_take (i := 22) (oi := _) (v := ?vq13_22) rfl (by kernel_rfl) (by kernel_rfl) (by kernel_rfl) (fun _ _ _ h => h) (Or.inl ⟨rfl, ?yq13_22⟩) (by assumption) ?_
      case yq13_22 => intro w hSw; (try dsimp only at hSw); go_simp; (try with_reducible rfl)
      (try simp only [Act.put, List.getElem_toArray, List.getElem_cons_succ, List.getElem_cons_zero, List.setIfInBounds_toArray, List.set_cons_zero, List.set_cons_succ])
      refine wpAnyH_take (i := 23) (oi := _) (v := ?vq13_23) rfl (by kernel_rfl) (by kernel_rfl) (by kernel_rfl) (fun _ _ _ h => h) (Or.inl ⟨rfl, ?yq13_23⟩) (by assumption) ?_
      case yq13_23 => intro w hSw; (try dsimp only at hSw); go_simp; (try with_reducible rfl)
      (try simp only [Act.put, List.getElem_toArray, List.getElem_cons_succ, List.getElem_cons_zero, List.setIfInBounds_toArray, List.set_cons_zero, List.set_cons_succ])
      refine wpAnyH_take (i := 24) (oi := _) (v := ?vq13_24) rfl (by kernel_rfl) (by kernel_rfl) (by kernel_rfl) (fun _ _ _ h => h) (Or.inl ⟨rfl, ?yq13_24⟩) (by assumption) ?_
      case yq13_24 => intro w hSw; (try dsimp only at hSw); go_simp; (try with_reducible rfl)
      (try simp only [Act.put, List.getElem_toArray, List.getElem_cons_succ, List.getElem_cons_zero, List.setIfInBounds_toArray, List.set_cons_zero, List.set_cons_succ])
      refine wpAnyH_take (i := 25) (oi := _) (v := ?vq13_25) rfl (by kernel_rfl) (by kernel_rfl) (by kernel_rfl) (fun _ _ _ h => h) (Or.inl ⟨rfl, ?yq13_25⟩) (by assumption) ?_
      case yq13_25 => intro w hSw; (try dsimp only at hSw); go_simp; (try with_reducible rfl)
      (try simp only [Act.put, List.getElem_toArray, List.getElem_cons_succ, List.getElem_cons_zero, List.setIfInBounds_toArray, List.set_cons_zero, List.set_cons_succ])
      refine wpAnyH_take (i := 26) (oi := _) (v := ?vq13_26) rfl (by kernel_rfl) (by kernel_rfl) (by kernel_rfl) (fun _ _ _ h => h) (Or.inl ⟨rfl, ?yq13_26⟩) (by assumption) ?_
      case yq13_26 => intro w hSw; (try dsimp only at hSw); go_simp; (try with_reducible rfl)
      (try simp only [Act.put, List.getElem_toArray, List.getElem_cons_succ, List.getElem_cons_zero, List.setIfInBounds_toArray, List.set_cons_zero, List.set_cons_succ])
      refine wpAnyH_take (i := 27) (oi := _) (v := ?vq13_27) rfl (by kernel_rfl) (by kernel_rfl) (by kernel_rfl) (fun _ _ _ h => h) (Or.inl ⟨rfl, ?yq13_27⟩) (by assumption) ?_
      case yq13_27 => intro w hSw; (try dsimp only at hSw); go_simp; (try with_reducible rfl)
      (try simp only [Act.put, List.getElem_toArray, List.getElem_cons_succ, List.getElem_cons_zero, List.setIfInBounds_toArray, List.set_cons_zero, List.set_cons_succ])
      refine wpAnyH_take (i := 28) (oi := _) (v := ?vq13_28) rfl (by kernel_rfl) (by kernel_rfl) (by kernel_rfl) (fun _ _ _ h => h) (Or.inl ⟨rfl, ?yq13_28⟩) (by assumption) ?_
      case yq13_28 => intro w hSw; (try dsimp only at hSw); go_simp; (try with_reducible rfl)
      (try simp only [Act.put, List.getElem_toArray, List.getElem_cons_succ, List.getElem_cons_zero, List.setIfInBounds_toArray, List.set_cons_zero, List.set_cons_succ])
      refine wpAnyH_take (i := 29) (oi := _) (v := ?vq13_29) rfl (by kernel_rfl) (by kernel_rfl) (by kernel_rfl) (fun _ _ _ h => h) (Or.inl ⟨rfl, ?yq13_29⟩) (by assumption) ?_
      case yq13_29 => intro w hSw; (try dsimp only at hSw); go_simp; (try with_reducible rfl)
      (try simp only [Act.put, List.getElem_toArray, List.getElem_cons_succ, List.getElem_cons_zero, List.setIfInBounds_toArray, List.set_cons_zero, List.set_cons_succ])
      refine wpAnyH_ready (rs := [30]) (by kernel_rfl) (by simp) ?_
      refine AllReadyH.cons (o := _) rfl (fun K hK => ?_) AllReadyH.nil
      go_simp
      refine hK.out _ _ ?_ (fun hHeld => ?_)
      · (try dsimp only); exact HB0.alloc HB0.size _
      clear hK K
      (try simp only [Act.put, List.getElem_toArray, List.getElem_cons_succ, List.getElem_cons_zero, List.setIfInBounds_toArray, List.set_cons_zero, List.set_cons_succ])
      refine wpAnyH_ready (rs := [31]) (by kernel_rfl) (by simp) ?_
      refine AllReadyH.cons (o := _) rfl (fun K hK => ?_) AllReadyH.nil
      rw [if_pos (by rfl)]
      refine wp_store_row (P := Try.prog) _ (.tmp 6) (.tmp 58) rfl (w1.drewN nq).drew.heap.size (cells (beg x) (.slice none 0 0)) rfl (by show Value.agg #[.int .u8 ((by_ x 1).toNat : Int), .int .u8 ((by_ x 2).toNat : Int), .int .u8 ((by_ x 3).toNat : Int), .string ⟨#[]⟩, .int .u8 ((by_ x 4).toNat : Int), .int .u8 ((by_ x 5).toNat : Int), .bool true, .int .i64 0, .bool false, .int .i64 0, .int .i64 0, .int .i64 0, .int .i64 0, .slice none 0 0, .int .u8 0, .int .u8 0, .int .u8 0, .int .u8 0, .int .u8 0, .int .u8 0, .int .u8 0, .int .u8 0, .int .u8 0, .int .u16 0, .int .u16 0, .int .u16 0, .bool ON, .int .i64 ((SM : Nat) : Int)] = _; rw [HBEG.out, ← HK7.out]; rfl) _ _ (Bx.zero (w1.drewN nq).drew) (by kernel_rfl) rfl (one_cells _ _ rfl) ?_
      refine hK.out _ _ ?_ (fun hHeld => ?_)
      · (try dsimp only); exact HBE
      clear hK K
      (try simp only [Act.put, List.getElem_toArray, List.getElem_cons_succ, List.getElem_cons_zero])
      refine wpAnyH_done (by kernel_rfl) ?_ _
      refine Hid.out ?_
      refine Lib.hid ?_
      have hxF : Bx (((w1.drewN (nq + 1)).alloc (.cells #[.int .u8 0, .int .u8 0, .int .u8 0, .string ⟨#[]⟩, .int .u8 0, .int .u8 0, .bool false, .int .i64 0, .bool false, .int .i64 0, .int .i64 0, .int .i64 0, .int .i64 0, .slice none 0 0, .int .u8 0, .int .u8 0, .int .u8 0, .int .u8 0, .int .u8 0, .int .u8 0, .int .u8 0, .int .u8 0, .int .u8 0, .int .u16 0, .int .u16 0, .int .u16 0, .bool false, .int .i64 0] 59)).setRow (w1.drewN nq).drew.heap.size (cells (beg x) (.slice none 0 0))) w1.heap.size (beg x) (.slice none 0 0) := HXF.out
      have hzF : Bx (((w1.drewN (nq + 1)).alloc (.cells #[.int .u8 0, .int .u8 0, .int .u8 0, .string ⟨#[]⟩, .int .u8 0, .int .u8 0, .bool false, .int .i64 0, .bool false, .int .i64 0, .int .i64 0, .int .i64 0, .int .i64 0, .slice none 0 0, .int .u8 0, .int .u8 0, .int .u8 0, .int .u8 0, .int .u8 0, .int .u8 0, .int .u8 0, .int .u8 0, .int .u8 0, .int .u16 0, .int .u16 0, .int .u16 0, .bool false, .int .i64 0] 59)).setRow (w1.drewN nq).drew.heap.size (cells (beg x) (.slice none 0 0))) w.heap.size noSn (.slice none 0 0) := HZF.out
      have hBF : Below w.heap.size w (((w1.drewN (nq + 1)).alloc (.cells #[.int .u8 0, .int .u8 0, .int .u8 0, .string ⟨#[]⟩, .int .u8 0, .int .u8 0, .bool false, .int .i64 0, .bool false, .int .i64 0, .int .i64 0, .int .i64 0, .int .i64 0, .slice none 0 0, .int .u8 0, .int .u8 0, .int .u8 0, .int .u8 0, .int .u8 0, .int .u8 0, .int .u8 0, .int .u8 0, .int .u8 0, .int .u16 0, .int .u16 0, .int .u16 0, .bool false, .int .i64 0] 59)).setRow (w1.drewN nq).drew.heap.size (cells (beg x) (.slice none 0 0))) := HBE
      have hF1 : w.heap.size < w1.heap.size := hz1.lt
      clear HXF HZF HB0 HBE hHeld
      generalize (((w1.drewN (nq + 1)).alloc (.cells #[.int .u8 0, .int .u8 0, .int .u8 0, .string ⟨#[]⟩, .int .u8 0, .int .u8 0, .bool false, .int .i64 0, .bool false, .int .i64 0, .int .i64 0, .int .i64 0, .int .i64 0, .slice none 0 0, .int .u8 0, .int .u8 0, .int .u8 0, .int .u8 0, .int .u8 0, .int .u8 0, .int .u8 0, .int .u8 0, .int .u8 0, .int .u16 0, .int .u16 0, .int .u16 0, .bool false, .int .i64 0] 59)).setRow (w1.drewN nq).drew.heap.size (cells (beg x) (.slice none 0 0))) = w4 at *
      generalize hFF : w1.heap.size = F at *
      have HFF := Lib.hid hFF
      have kd : w4.cell? ⟨F, 6, none⟩ = some (.bool true) := by
        have := hxF.c 6
        rw [HBEG.out] at this
        exact this
      have hHR := Lib.hid (HSS.out _ hBF)
      clear HSS HRS hFF e1 e2 e3 e4 e4b e5 e6 k0 k6 k7 k0' gi1 gi2 gi3 gi4 gi5 hu8 hW HS1
      go_wp2_with fail
      have hHRd := hHR.out
      have hHeld2 : Sl w4.drew (some a) 8 8 x := ⟨hHRd.len, hHRd.row, hHRd.cap, hHRd.max, hHRd.nil⟩
      have hx4d : Bx w4.drew F (beg x) (.slice none 0 0) := hxF
      have hz4d : Bx w4.drew w.heap.size noSn (.slice none 0 0) := hzF
      have hb4d := below_drew hBF
      have HCALL := Lib.hid (rdd_q (beg x) _ _ _ (x.drop 8) w4.drew (sl_zero' hHeld2) rfl)
      generalize hRR : rdD (beg x) (x.drop 8) = RR at *
      clear hHRd hHeld2 hRR
      refine wp_region_held_drew (S := (fun W => Bx W F (beg x) (.slice none 0 0))) (by kernel_rfl) ?_ (fun hHeld => ?_)
      · (try dsimp only); exact hx4d
      refine wpAnyH_take (i := 0) (oi := _) (v := ?vq12_0) rfl (by kernel_rfl) (by kernel_rfl) (by kernel_rfl) (fun _ _ _ h => h) (Or.inl ⟨rfl, ?yq12_0⟩) (by assumption) ?_
      case yq12_0 => intro w hSw; (try dsimp only at hSw); ((refine exec_load_bx (.tmp 6) ?_ ?_ hSw) <;> rfl)
      (try simp only [Act.put, List.getElem_toArray, List.getElem_cons_zero, List.setIfInBounds_toArray, List.set_cons_zero, List.set_cons_succ])
      refine wpAnyH_take (i := 1) (oi := _) (v := ?vq12_1) rfl (by kernel_rfl) (by kernel_rfl) (by kernel_rfl) (fun _ _ _ h => h) (Or.inl ⟨rfl, ?yq12_1⟩) (by assumption) ?_
      case yq12_1 => intro w hSw; (try dsimp only at hSw); go_simp; (try with_reducible rfl)
      (try simp only [Act.put, List.getElem_toArray, List.getElem_cons_succ, List.getElem_cons_zero, List.setIfInBounds_toArray, List.set_cons_zero, List.set_cons_succ])
      refine wpAnyH_take (i := 2) (oi := _) (v := ?vq12_2) rfl (by kernel_rfl) (by kernel_rfl) (by kernel_rfl) (fun _ _ _ h => h) (Or.inl ⟨rfl, ?yq12_2⟩) (by assumption) ?_
      case yq12_2 => intro w hSw; (try dsimp only at hSw); go_simp; (try with_reducible rfl)
      (try simp only [Act.put, List.getElem_toArray, List.getElem_cons_succ, List.getElem_cons_zero, List.setIfInBounds_toArray, List.set_cons_zero, List.set_cons_succ])
      refine wpAnyH_take (i := 3) (oi := _) (v := ?vq12_3) rfl (by kernel_rfl) (by kernel_rfl) (by kernel_rfl) (fun _ _ _ h => h) (Or.inl ⟨rfl, ?yq12_3⟩) (by assumption) ?_
      case yq12_3 => intro w hSw; (try dsimp only at hSw); go_simp; (try with_reducible rfl)
      (try simp only [Act.put, List.getElem_toArray, List.getElem_cons_succ, List.getElem_cons_zero, List.setIfInBounds_toArray, List.set_cons_zero, List.set_cons_succ])
      refine wpAnyH_ready (rs := [4]) (by kernel_rfl) (by simp) ?_
      refine AllReadyH.cons (o := _) rfl (fun K hK => ?_) AllReadyH.nil
      go_simp
      go_at_call 110; refine HCALL.out.mono ?_; rintro e w5 ⟨PA, pn, pc, rfl, hp5, hb5⟩; have hx5 := hx4d.below hb5; have hz5 := hz4d.below hb5
      refine hK.out _ _ ?_ (fun hHeld => ?_)
      · (try dsimp only); exact hx5
      clear hK K
      (try simp only [Act.put, List.getElem_toArray, List.getElem_cons_succ, List.getElem_cons_zero, List.setIfInBounds_toArray, List.set_cons_zero, List.set_cons_succ])
      refine wpAnyH_take (i := 5) (oi := _) (v := ?vq12_5) rfl (by kernel_rfl) (by kernel_rfl) (by kernel_rfl) (fun _ _ _ h => h) (Or.inl ⟨rfl, ?yq12_5⟩) (by assumption) ?_
      case yq12_5 => intro w hSw; (try dsimp only at hSw); go_simp; (try with_reducible rfl)
      (try simp only [Act.put, List.getElem_toArray, List.getElem_cons_succ, List.getElem_cons_zero, List.setIfInBounds_toArray, List.set_cons_zero, List.set_cons_succ])
      refine wpAnyH_take (i := 6) (oi := _) (v := ?vq12_6) rfl (by kernel_rfl) (by kernel_rfl) (by kernel_rfl) (fun _ _ _ h => h) (Or.inl ⟨rfl, ?yq12_6⟩) (by assumption) ?_
      case yq12_6 => intro w hSw; (try dsimp only at hSw); go_simp; (try with_reducible rfl)
      (try simp only [Act.put, List.getElem_toArray, List.getElem_cons_succ, List.getElem_cons_zero, List.setIfInBounds_toArray, List.set_cons_zero, List.set_cons_succ])
      refine wpAnyH_ready (rs := [7]) (by kernel_rfl) (by simp) ?_
      refine AllReadyH.cons (o := _) rfl (fun K hK => ?_) AllReadyH.nil
      rw [if_pos (by rfl)]
      refine wp_store_row (P := Try.prog) _ (.tmp 2) (.tmp 66) rfl w.heap.size (cells RR.1 (.slice PA pn pc)) rfl rfl _ _ hz5 (by kernel_rfl) rfl (one_cells _ _ rfl) ?_
      refine hK.out _ _ ?_ (fun hHeld => ?_)
      · (try dsimp only); exact hx5.kept (setRow_gr _ _ _) (fun e => by injection e; omega)
      clear hK K
      (try simp only [Act.put, List.getElem_toArray, List.getElem_cons_succ, List.getElem_cons_zero])
      refine wpAnyH_take (i := 8) (oi := _) (v := ?vq12_8) rfl (by kernel_rfl) (by kernel_rfl) (by kernel_rfl) (fun _ _ _ h => h) (Or.inl ⟨rfl, ?yq12_8⟩) (by assumption) ?_
      case yq12_8 => intro w hSw; (try dsimp only at hSw); go_simp; (try with_reducible rfl)
      (try simp only [Act.put, List.getElem_toArray, List.getElem_cons_succ, List.getElem_cons_zero, List.setIfInBounds_toArray, List.set_cons_zero, List.set_cons_succ])
      refine wpAnyH_done (by kernel_rfl) ?_ _
      have hgr := setRow_gr w5 w.heap.size (cells RR.1 (.slice PA pn pc))
      have hx6 : Bx (w5.setRow w.heap.size (cells RR.1 (.slice PA pn pc))) w.heap.size RR.1 (.slice PA pn pc) := setRow_heap _ _ _ _ _ _ hz5
      have hp6 := psl_far hp5 hz5 ⟨_, _, _, rfl⟩ hgr
      have hb6 := (hb4d.trans (hb5.mono hb4d.size)).grown hgr (Nat.le_of_lt hz5.lt) (fun k hk => by injection hk; omega)
      refine Hid.out ?_
      refine Lib.hid ?_
      go_wp2_with fail
      exact out2 Try.results72 rfl rfl rfl hx6 ⟨PA, pn, pc, rfl, hp6, hb6⟩
end Go.Proofs.Ytafoaonkjcfbaaa.Ua
