/- The statement ClockParts: advancing in two steps is the same as at once, and a clock that was set shows the time at once and goes on from it. -/
import Derived.Test.YtafhbdbmoeihaaaV9j
import Derived.Test.YtafhbdbmoeihaaaLaw8
import Derived.Laws.StructEq
namespace Go.Proofs.Ytafhbdbmoeihaaa.clockParts
open Go.RowKit Go.ChangeShapes Go.WideShapes Go.ChangeAt Go.Proofs.Ytafhbdbmoeihaaa.Mem Go.Proofs.Ytafhbdbmoeihaaa.Law Go.Proofs.Ytafhbdbmoeihaaa.F2p Go.Proofs.Ytafhbdbmoeihaaa.V7 Go.Proofs.Ytafhbdbmoeihaaa.V9 Go.Proofs.Ytafhbdbmoeihaaa.Made
set_option maxRecDepth 100000
set_option maxHeartbeats 4000000

theorem adv_parts (c : Ck) (a b : Int) (ha : 0 ≤ a) (hb : 0 ≤ b) (h : (adv c a).2 = 0) : adv (adv c a).1 b = adv c (a + b) := by
  unfold adv at h ⊢
  rcases hk : c.ok with _ | _
  · rw [hk] at h; simp at h
  · obtain ⟨h1, h2, h3, h4, h5⟩ := Ck.ok_b hk
    rw [hk] at h
    simp only [if_true] at h ⊢
    by_cases hn : a < 0 ∨ 17179869184 - c.t < a
    · rw [if_pos hn] at h; simp at h
    · rw [if_neg hn] at h ⊢
      rcases hk2 : (Ck.mk (c.t + a) c.b c.s).ok with _ | _
      · rw [hk2] at h; simp at h
      · simp only [hk2, if_true]
        have e1 : (b < 0 ∨ 17179869184 - (c.t + a) < b) ↔ (a + b < 0 ∨ 17179869184 - c.t < a + b) := by omega
        by_cases h6 : a + b < 0 ∨ 17179869184 - c.t < a + b
        · rw [if_pos h6, if_pos (e1.2 h6)]
        · rw [if_neg h6, if_neg (fun x => h6 (e1.1 x)), Int.add_assoc]
theorem adv_bad (c : Ck) (a b : Int) (ha : 0 ≤ a) (hb : 0 ≤ b) (h : (adv c a).2 ≠ 0) : (adv c (a + b)).2 ≠ 0 := by
  unfold adv at h ⊢
  rcases hk : c.ok with _ | _
  · simp
  · obtain ⟨h1, h2, h3, h4, h5⟩ := Ck.ok_b hk
    rw [hk] at h
    simp only [if_true] at h ⊢
    by_cases h6 : a + b < 0 ∨ 17179869184 - c.t < a + b
    · rw [if_pos h6]; simp
    · rw [if_neg h6]
      by_cases hn : a < 0 ∨ 17179869184 - c.t < a
      · omega
      · rw [if_neg hn] at h
        rcases hk2 : (Ck.mk (c.t + a) c.b c.s).ok with _ | _
        · have : (Ck.mk (c.t + (a + b)) c.b c.s).ok = false := by
            simp only [Ck.ok, Ck.tm, Bool.and_eq_false_iff, decide_eq_false_iff_not, Bool.or_eq_false_iff] at hk2 h3 h4 h5 ⊢
            rcases hk2 with (((hk2 | hk2) | hk2) | hk2) | hk2
            · omega
            · omega
            · exact .inl (.inl (.inr hk2))
            · omega
            · right; omega
          rw [this]; simp
        · rw [hk2] at h; simp at h
theorem tmod_nat (n m : Nat) : ((n : Int)).tmod (m : Int) = ((n % m : Nat) : Int) := by
  rw [Int.tmod_eq_emod_of_nonneg (by omega)]; rfl
theorem w_sub {r q : Nat} (h : r < 4294967296) (h2 : q < 4000000000) : wrap64 ((r : Int) - (q : Int)) = (r : Int) - (q : Int) := by unfold wrap64; omega
theorem w_z {z : Nat} (h : z ≤ 6553) : wrap64 (z : Int) = (z : Int) := by unfold wrap64; omega
theorem w_z1 {z : Nat} (h : z ≤ 6553) : wrap64 ((z : Int) + 1) = (z : Int) + 1 := by unfold wrap64; omega
theorem le_of {r q z d : Int} (h : r - q = d) (h2 : r ≤ q + z + 1) : d ≤ z + 1 := by omega
theorem adv_fit (c : Ck) (hf : c.Fit) (n : Int) : (adv c n).1.Fit := by
  unfold adv
  rcases hk : c.ok with _ | _
  · exact none_ckfit
  · obtain ⟨h1, h2, h3, h4, h5⟩ := Ck.ok_b hk
    simp only [if_true]
    by_cases hn : n < 0 ∨ 17179869184 - c.t < n
    · rw [if_pos hn]; exact none_ckfit
    · rw [if_neg hn]
      split
      · exact ⟨by show _ ≤ c.t + n ∧ c.t + n ≤ _; omega, hf.b⟩
      · exact none_ckfit
/-- Setting a valid clock to a time below four thousand million. -/
theorem adj_ok (c : Ck) (hk : c.ok = true) (q : Nat) (hq : q < 4000000000) : adj c q = (⟨c.t, (q : Int) - c.t / 10, true⟩, [chg 0 c.tm.toNat, chg 128 q], 0) := by
  unfold adj
  rw [hk, if_pos rfl, if_neg (by omega)]
theorem adj_no (c : Ck) (hk : c.ok = false) (q : Nat) : adj c q = (Ck.none, [], 1) := by
  unfold adj
  rw [hk, if_neg (by simp)]
theorem set_fit (c : Ck) (hk : c.ok = true) (q : Nat) (hq : q < 4000000000) : (Ck.mk c.t ((q : Int) - c.t / 10) true).Fit ∧ (Ck.mk c.t ((q : Int) - c.t / 10) true).ok = true ∧ stp ⟨c.t, (q : Int) - c.t / 10, true⟩ = .tuple #[.int .u32 (q : Int), .int .i64 0] := by
  obtain ⟨h1, h2, h3, h4, h5⟩ := Ck.ok_b hk
  have hok : (Ck.mk c.t ((q : Int) - c.t / 10) true).ok = true := by simp [Ck.ok]; omega
  have htm : (Ck.mk c.t ((q : Int) - c.t / 10) true).tm = (q : Int) := by show c.t / 10 + ((q : Int) - c.t / 10) = q; omega
  refine ⟨⟨by show _ ≤ c.t ∧ c.t ≤ _; omega, by show _ ≤ (q : Int) - c.t / 10 ∧ (q : Int) - c.t / 10 ≤ _; omega⟩, hok, ?_⟩
  unfold stp
  rw [if_pos hok, htm]
/-- A clock that was set goes on. -/
theorem set_on (c : Ck) (hk : c.ok = true) (q a : Nat) (hq : q < 4000000000) (ha : a ≤ 65535) : (adv ⟨c.t, (q : Int) - c.t / 10, true⟩ a).2 ≠ 0 ∨
    ((adv ⟨c.t, (q : Int) - c.t / 10, true⟩ a).2 = 0 ∧ ∃ r : Nat, q ≤ r ∧ r ≤ q + a / 10 + 1 ∧ r < 4294967296 ∧ stp (adv ⟨c.t, (q : Int) - c.t / 10, true⟩ a).1 = .tuple #[.int .u32 (r : Int), .int .i64 0]) := by
  obtain ⟨h1, h2, h3, h4, h5⟩ := Ck.ok_b hk
  obtain ⟨-, hok, -⟩ := set_fit c hk q hq
  unfold adv
  rw [hok, if_pos rfl]
  by_cases hn : (a : Int) < 0 ∨ 17179869184 - (Ck.mk c.t ((q : Int) - c.t / 10) true).t < (a : Int)
  · left; rw [if_pos hn]; simp
  · rw [if_neg hn]
    right
    have hn' : (a : Int) ≤ 17179869184 - c.t := by have := hn; simp at this; omega
    have hok2 : (Ck.mk (c.t + a) ((q : Int) - c.t / 10) true).ok = true := by simp [Ck.ok]; omega
    simp only [hok2, if_true]
    refine ⟨trivial, ((c.t + a) / 10 + ((q : Int) - c.t / 10)).toNat, by omega, by omega, by omega, ?_⟩
    unfold stp
    rw [if_pos hok2]
    have htm : (Ck.mk (c.t + a) ((q : Int) - c.t / 10) true).tm = ((((c.t + a) / 10 + ((q : Int) - c.t / 10)).toNat : Nat) : Int) := by show (c.t + a) / 10 + ((q : Int) - c.t / 10) = _; omega
    rw [htm]

theorem walk (tick : Int) (_h2 : -9223372036854775808 ≤ tick ∧ tick ≤ 9223372036854775807) (base : Int) (_h3 : -9223372036854775808 ≤ base ∧ base ≤ 9223372036854775807) (set : Bool) (a : Int) (ha : 0 ≤ a ∧ a ≤ 65535) (b : Int) (hb : 0 ≤ b ∧ b ≤ 65535) (secs : Int) (hsec : 0 ≤ secs ∧ secs ≤ 4294967295) (W : World) :
    Calls Try.prog 7 #[.int .i64 tick, .int .i64 base, .bool set, .int .u16 a, .int .u16 b, .int .u32 secs] W fun e W' => e = .returned (.bool true) ∧ Below W.heap.size W W' := by
  obtain ⟨secs, rfl⟩ := nat_of hsec.1
  obtain ⟨a, rfl⟩ := nat_of ha.1
  obtain ⟨b, rfl⟩ := nat_of hb.1
  have haw := Lib.hid (fun u => awake_any u)
  have hmd := Lib.hid (fun u => made_any tick base set u)
  obtain ⟨q, hqd⟩ : ∃ q, q = secs % 4000000000 := ⟨_, rfl⟩
  have hq : q < 4000000000 := by omega
  have hrem : ((secs : Int)).tmod 4000000000 = (q : Int) := by rw [hqd]; exact tmod_nat secs 4000000000
  have hremw : IntKind.u32.wrap (q : Int) = (q : Int) := IntWalk.u32_in _ ⟨by omega, by omega⟩
  have hsumw : wrap64 ((a : Int) + (b : Int)) = (a : Int) + (b : Int) := by unfold wrap64; omega
  have hqs : Hid (q = secs % 4000000000) := Lib.hid hqd
  clear hqd
  go_enter Try.func7, Try.ntmps7
  go_wp2_with fail
  refine (hmd.out _).mono ?_
  rintro e w1 ⟨⟨ct, cb, cs⟩, hc, rfl, hb1⟩
  have hfit := hc.fit
  clear hc
  dsimp only [Ck.v, Ck.cells]
  obtain ⟨⟨⟨Xt, Xb, Xs⟩, e⟩, hX⟩ : ∃ p : Ck × Int, adv ⟨ct, cb, cs⟩ (a : Int) = p := ⟨_, rfl⟩
  have hXf : (Ck.mk Xt Xb Xs).Fit := by have := adv_fit ⟨ct, cb, cs⟩ hfit (a : Int); rw [hX] at this; exact this
  obtain ⟨⟨⟨Yt, Yb, Ys⟩, f⟩, hY⟩ : ∃ p : Ck × Int, adv ⟨Xt, Xb, Xs⟩ (b : Int) = p := ⟨_, rfl⟩
  obtain ⟨⟨⟨Zt, Zb, Zs⟩, g⟩, hZ⟩ : ∃ p : Ck × Int, adv ⟨ct, cb, cs⟩ ((a : Int) + (b : Int)) = p := ⟨_, rfl⟩
  have H1 := Lib.hid (fun u => (show Calls Try.prog 10 #[.agg #[.int .i64 ct, .int .i64 cb, .bool cs], .int .i64 (a : Int)] u fun x w' => x = .returned (.tuple #[.agg #[.int .i64 Xt, .int .i64 Xb, .bool Xs], .int .i64 e]) ∧ Below u.heap.size u w' from by have := advance_p ⟨ct, cb, cs⟩ hfit (a : Int) u; rw [hX] at this; exact this))
  have H2 := Lib.hid (fun u => (show Calls Try.prog 10 #[.agg #[.int .i64 Xt, .int .i64 Xb, .bool Xs], .int .i64 (b : Int)] u fun x w' => x = .returned (.tuple #[.agg #[.int .i64 Yt, .int .i64 Yb, .bool Ys], .int .i64 f]) ∧ Below u.heap.size u w' from by have := advance_p ⟨Xt, Xb, Xs⟩ hXf (b : Int) u; rw [hY] at this; exact this))
  have H3 := Lib.hid (fun u => (show Calls Try.prog 10 #[.agg #[.int .i64 ct, .int .i64 cb, .bool cs], .int .i64 ((a : Int) + (b : Int))] u fun x w' => x = .returned (.tuple #[.agg #[.int .i64 Zt, .int .i64 Zb, .bool Zs], .int .i64 g]) ∧ Below u.heap.size u w' from by have := advance_p ⟨ct, cb, cs⟩ hfit ((a : Int) + (b : Int)) u; rw [hZ] at this; exact this))
  have hone : (e = 0 ∧ (Yt = Zt ∧ Yb = Zb ∧ Ys = Zs) ∧ f = g) ∨ (e ≠ 0 ∧ g ≠ 0) := by
    by_cases he : e = 0
    · left
      have := adv_parts ⟨ct, cb, cs⟩ a b (by omega) (by omega) (by rw [hX]; exact he)
      rw [hX, hZ] at this
      simp only at this
      rw [hY] at this
      injection this with h1 h2
      injection h1 with h3 h4 h5
      exact ⟨he, ⟨h3, h4, h5⟩, h2⟩
    · right
      have := adv_bad ⟨ct, cb, cs⟩ a b (by omega) (by omega) (by rw [hX]; exact he)
      rw [hZ] at this
      exact ⟨he, this⟩
  clear hX hY hZ hXf
  have hbel : Below W.heap.size W (w1.alloc (.cells #[.int .i64 ct, .int .i64 cb, .bool cs] 23)) := hb1.alloc hb1.size _
  have hc := CBox.new w1 ⟨ct, cb, cs⟩
  simp only [Ck.cells] at hc
  clear hb1
  have hvd := Lib.hid (fun u => (show Calls Try.prog 14 #[.agg #[.int .i64 ct, .int .i64 cb, .bool cs]] u fun x w' => x = .returned (.bool (Ck.mk ct cb cs).ok) ∧ Below u.heap.size u w' from valid_ck ⟨ct, cb, cs⟩ hfit u))
  have had := Lib.hid (fun u => adjust_p ⟨ct, cb, cs⟩ hfit q (by omega) u)
  have hso := Lib.hid (fun hk => set_on ⟨ct, cb, cs⟩ hk q a hq (by omega))
  have hsf := Lib.hid (fun hk => set_fit ⟨ct, cb, cs⟩ hk q hq)
  have hao := Lib.hid (fun hk => adj_ok ⟨ct, cb, cs⟩ hk q hq)
  have han := Lib.hid (fun hk => adj_no ⟨ct, cb, cs⟩ hk q)
  clear hfit
  go_wp2_with fail
  generalize w1.alloc (.cells #[.int .i64 ct, .int .i64 cb, .bool cs] 23) = V1 at *
  rcases hone with ⟨rfl, ⟨rfl, rfl, rfl⟩, rfl⟩ | ⟨he, hg0⟩
  · have hq2 := fun V => run_neq_ck V Yt Yb Ys
    have hg2 := fun V => guard_ck (.tmp 60) (.tmp 61) Yt Yb Ys Yt Yb Ys V
    refine (H1.out _).mono ?_
    rintro e u1 ⟨rfl, hb⟩
    have hc := hc.below hb hc.lt
    have hbel := hbel.trans (hb.mono hbel.size)
    clear hb
    go_wp2_with fail
    have hX := CBox.new u1 ⟨Xt, Xb, Xs⟩
    have hltX : u1.heap.size < (u1.alloc (.cells #[.int .i64 Xt, .int .i64 Xb, .bool Xs] 23)).heap.size := by simp
    have hc := hc.alloc (.cells #[.int .i64 Xt, .int .i64 Xb, .bool Xs] 23)
    have hbel := hbel.alloc hbel.size (.cells #[.int .i64 Xt, .int .i64 Xb, .bool Xs] 23)
    simp only [Ck.cells] at hX
    generalize u1.alloc (.cells #[.int .i64 Xt, .int .i64 Xb, .bool Xs] 23) = V2 at *
    refine (H2.out _).mono ?_
    rintro e u2 ⟨rfl, hb⟩
    have hc := hc.below hb hc.lt
    have hX := hX.below hb hX.lt
    have hbel := hbel.trans (hb.mono hbel.size)
    clear hb
    have k0 := hc.c0; have k1 := hc.c1; have k2 := hc.c2
    simp only at k0 k1 k2
    have kl := hc.lt
    go_wp2_with fail
    have hY := CBox.new u2 ⟨Yt, Yb, Ys⟩
    have hltY : u2.heap.size < (u2.alloc (.cells #[.int .i64 Yt, .int .i64 Yb, .bool Ys] 23)).heap.size := by simp
    have hc := hc.alloc (.cells #[.int .i64 Yt, .int .i64 Yb, .bool Ys] 23)
    have hX := hX.alloc (.cells #[.int .i64 Yt, .int .i64 Yb, .bool Ys] 23)
    have hbel := hbel.alloc hbel.size (.cells #[.int .i64 Yt, .int .i64 Yb, .bool Ys] 23)
    simp only [Ck.cells] at hY
    generalize u2.alloc (.cells #[.int .i64 Yt, .int .i64 Yb, .bool Ys] 23) = V3 at *
    clear k0 k1 k2 kl
    refine (H3.out _).mono ?_
    rintro e u3 ⟨rfl, hb⟩
    have hc := hc.below hb hc.lt
    have hY := hY.below hb hY.lt
    have hbel := hbel.trans (hb.mono hbel.size)
    clear hb
    have y0 := hY.c0; have y1 := hY.c1; have y2 := hY.c2
    simp only at y0 y1 y2
    have yl := hY.lt
    have k0 := hc.c0; have k1 := hc.c1; have k2 := hc.c2
    simp only at k0 k1 k2
    have kl := hc.lt
    go_wp2_with fail
    have hZ := CBox.new u3 ⟨Yt, Yb, Ys⟩
    have hltZ : u3.heap.size < (u3.alloc (.cells #[.int .i64 Yt, .int .i64 Yb, .bool Ys] 23)).heap.size := by simp
    have hc := hc.alloc (.cells #[.int .i64 Yt, .int .i64 Yb, .bool Ys] 23)
    have hY := hY.alloc (.cells #[.int .i64 Yt, .int .i64 Yb, .bool Ys] 23)
    have hbel := hbel.alloc hbel.size (.cells #[.int .i64 Yt, .int .i64 Yb, .bool Ys] 23)
    simp only [Ck.cells] at hZ
    generalize u3.alloc (.cells #[.int .i64 Yt, .int .i64 Yb, .bool Ys] 23) = V4 at *
    clear y0 y1 y2 yl
    clear k0 k1 k2 kl
    rcases hk : (Ck.mk ct cb cs).ok with _ | _
    · rw [han.out hk] at had
      rw [hk] at hvd
      simp only [Ck.v, Ck.cells, Ck.none] at had
      clear hso hsf hao han hk
      refine (had.out _).mono ?_
      rintro e u4 ⟨v4, rfl, -, hb⟩
      have hc := hc.below hb hc.lt
      have hbel := hbel.trans (hb.mono hbel.size)
      clear hb
      have k0 := hc.c0; have k1 := hc.c1; have k2 := hc.c2
      simp only at k0 k1 k2
      have kl := hc.lt
      go_wp2_with fail
      have hbel := hbel.alloc hbel.size (.cells #[.int .i64 0, .int .i64 0, .bool false] 23)
      refine (hvd.out _).mono ?_
      rintro e u5 ⟨rfl, hb⟩
      have hbel := hbel.trans (hb.mono hbel.size)
      clear hb k0 k1 k2 kl
      go_wp2_with fail
      refine (haw.out _).mono ?_
      rintro e u6 ⟨rfl, hb⟩
      have hbel := hbel.trans (hb.mono hbel.size)
      clear hb
      go_wp2_with fail
      go_ret
      exact ⟨rfl, hbel⟩
    · obtain ⟨hDf, hDok, hDs⟩ := hsf.out hk
      have hso := hso.out hk
      rw [hao.out hk] at had
      simp only [Ck.v, Ck.cells] at had hDf hDok hDs hso
      obtain ⟨⟨⟨Et, Eb, Es⟩, k⟩, hE⟩ : ∃ p : Ck × Int, adv ⟨ct, (q : Int) - ct / 10, true⟩ (a : Int) = p := ⟨_, rfl⟩
      rw [hE] at hso
      have H4 := Lib.hid (fun u => (show Calls Try.prog 12 #[.agg #[.int .i64 ct, .int .i64 ((q : Int) - ct / 10), .bool true]] u fun x w' => x = .returned (.tuple #[.int .u32 (q : Int), .int .i64 0]) ∧ Below u.heap.size u w' from by have := stamp_p ⟨ct, (q : Int) - ct / 10, true⟩ hDf u; rw [hDs] at this; exact this))
      have H5 := Lib.hid (fun u => (show Calls Try.prog 10 #[.agg #[.int .i64 ct, .int .i64 ((q : Int) - ct / 10), .bool true], .int .i64 (a : Int)] u fun x w' => x = .returned (.tuple #[.agg #[.int .i64 Et, .int .i64 Eb, .bool Es], .int .i64 k]) ∧ Below u.heap.size u w' from by have := advance_p ⟨ct, (q : Int) - ct / 10, true⟩ hDf (a : Int) u; rw [hE] at this; exact this))
      have hEf : (Ck.mk Et Eb Es).Fit := by have := adv_fit ⟨ct, (q : Int) - ct / 10, true⟩ hDf (a : Int); rw [hE] at this; exact this
      have hst := Lib.hid (fun u => stamp_p ⟨Et, Eb, Es⟩ hEf u)
      obtain ⟨r, n, hrn, hkn⟩ : ∃ r n : Int, stp ⟨Et, Eb, Es⟩ = .tuple #[.int .u32 r, .int .i64 n] ∧ (k ≠ 0 ∨ (k = 0 ∧ n = 0 ∧ (q : Int) ≤ r ∧ r ≤ (q : Int) + ((a / 10 : Nat) : Int) + 1 ∧ r < 4294967296)) := by
        simp only at hso
        rcases hso with hso | ⟨h1, rr, h2, h3, h4, h5⟩
        · obtain ⟨r, n, hrn⟩ := stp_form ⟨Et, Eb, Es⟩
          exact ⟨r, n, hrn, .inl hso⟩
        · exact ⟨rr, 0, h5, .inr ⟨h1, rfl, by omega, by omega, by omega⟩⟩
      rw [hrn] at hst
      simp only [Ck.v, Ck.cells] at hst
      obtain ⟨B, hB⟩ : ∃ B, (q : Int) - ct / 10 = B := ⟨_, rfl⟩
      rw [hB] at had H4 H5
      clear hsf hao han hk hE hEf hrn hso hDf hDok hDs hB hvd
      refine (had.out _).mono ?_
      rintro e u4 ⟨v4, rfl, -, hb⟩
      have hbel := hbel.trans (hb.mono hbel.size)
      clear hb
      go_wp2_with fail
      have hD := CBox.new u4 ⟨ct, B, true⟩
      have hltD : u4.heap.size < (u4.alloc (.cells #[.int .i64 ct, .int .i64 B, .bool true] 23)).heap.size := by simp
      have hbel := hbel.alloc hbel.size (.cells #[.int .i64 ct, .int .i64 B, .bool true] 23)
      simp only [Ck.cells] at hD
      generalize u4.alloc (.cells #[.int .i64 ct, .int .i64 B, .bool true] 23) = V5 at *
      refine (H4.out _).mono ?_
      rintro e u5 ⟨rfl, hb⟩
      have hD := hD.below hb hD.lt
      have hbel := hbel.trans (hb.mono hbel.size)
      clear hb
      have k0 := hD.c0; have k1 := hD.c1; have k2 := hD.c2
      simp only at k0 k1 k2
      have kl := hD.lt
      go_wp2_with fail
      refine (H5.out _).mono ?_
      rintro e u6 ⟨rfl, hb⟩
      have hD := hD.below hb hD.lt
      have hbel := hbel.trans (hb.mono hbel.size)
      clear hb k0 k1 k2 kl
      go_wp2_with fail
      have hE := CBox.new u6 ⟨Et, Eb, Es⟩
      have hltE : u6.heap.size < (u6.alloc (.cells #[.int .i64 Et, .int .i64 Eb, .bool Es] 23)).heap.size := by simp
      have hD := hD.alloc (.cells #[.int .i64 Et, .int .i64 Eb, .bool Es] 23)
      have hbel := hbel.alloc hbel.size (.cells #[.int .i64 Et, .int .i64 Eb, .bool Es] 23)
      simp only [Ck.cells] at hE
      generalize u6.alloc (.cells #[.int .i64 Et, .int .i64 Eb, .bool Es] 23) = V7 at *
      refine (hst.out _).mono ?_
      rintro e u7 ⟨rfl, hb⟩
      have hD := hD.below hb hD.lt
      have hbel := hbel.trans (hb.mono hbel.size)
      clear hb hE hltE
      have k0 := hD.c0; have k1 := hD.c1; have k2 := hD.c2
      simp only at k0 k1 k2
      have kl := hD.lt
      rcases hkn with hk0 | ⟨rfl, rfl, hr1, hr2, hr3⟩
      · have hk1 : (k != 0) = true := by simpa using hk0
        have hk2 : (k == 0) = false := by simpa using hk0
        clear hk0
        go_wp2_with fail
        refine (haw.out _).mono ?_
        rintro e u8 ⟨rfl, hb⟩
        have hbel := hbel.trans (hb.mono hbel.size)
        clear hb
        go_wp2_with fail
        go_ret
        exact ⟨rfl, hbel⟩
      · obtain ⟨r, rfl⟩ := nat_of (show 0 ≤ r by omega)
        have hr4 : r < 4294967296 := by omega
        have hr5 : q ≤ r := by omega
        obtain ⟨z, hz⟩ : ∃ z : Nat, z = a / 10 := ⟨_, rfl⟩
        have h10 : ((a : Int)).tdiv 10 = (z : Int) := by rw [Int.tdiv_eq_ediv_of_nonneg (by omega)]; omega
        rw [← hz] at hr2
        have hz2 : z ≤ 6553 := by omega
        have hrw1 : wrap64 ((r : Int) - (q : Int)) = (r : Int) - (q : Int) := w_sub hr4 hq
        have hrw3 : wrap64 (z : Int) = (z : Int) := w_z hz2
        have hrw2 : wrap64 ((z : Int) + 1) = (z : Int) + 1 := w_z1 hz2
        have hle : (r : Int) - (q : Int) ≤ (z : Int) + 1 := le_of rfl hr2
        clear hr2 hr3 hz hz2
        go_wp2_with fail
        refine (haw.out _).mono ?_
        rintro e u8 ⟨rfl, hb⟩
        have hbel := hbel.trans (hb.mono hbel.size)
        clear hb
        go_wp2_with fail
        go_ret
        exact ⟨rfl, hbel⟩
  · have he1 : (e == 0) = false := by simpa using he
    have he2 : (e != 0) = true := by simpa using he
    have hg1 : (g == 0) = false := by simpa using hg0
    have hg2 : (g != 0) = true := by simpa using hg0
    clear he hg0
    refine (H1.out _).mono ?_
    rintro e u1 ⟨rfl, hb⟩
    have hc := hc.below hb hc.lt
    have hbel := hbel.trans (hb.mono hbel.size)
    clear hb
    go_wp2_with fail
    have hX := CBox.new u1 ⟨Xt, Xb, Xs⟩
    have hltX : u1.heap.size < (u1.alloc (.cells #[.int .i64 Xt, .int .i64 Xb, .bool Xs] 23)).heap.size := by simp
    have hc := hc.alloc (.cells #[.int .i64 Xt, .int .i64 Xb, .bool Xs] 23)
    have hbel := hbel.alloc hbel.size (.cells #[.int .i64 Xt, .int .i64 Xb, .bool Xs] 23)
    simp only [Ck.cells] at hX
    generalize u1.alloc (.cells #[.int .i64 Xt, .int .i64 Xb, .bool Xs] 23) = V2 at *
    refine (H2.out _).mono ?_
    rintro e u2 ⟨rfl, hb⟩
    have hc := hc.below hb hc.lt
    have hX := hX.below hb hX.lt
    have hbel := hbel.trans (hb.mono hbel.size)
    clear hb
    have k0 := hc.c0; have k1 := hc.c1; have k2 := hc.c2
    simp only at k0 k1 k2
    have kl := hc.lt
    go_wp2_with fail
    have hY := CBox.new u2 ⟨Yt, Yb, Ys⟩
    have hltY : u2.heap.size < (u2.alloc (.cells #[.int .i64 Yt, .int .i64 Yb, .bool Ys] 23)).heap.size := by simp
    have hc := hc.alloc (.cells #[.int .i64 Yt, .int .i64 Yb, .bool Ys] 23)
    have hX := hX.alloc (.cells #[.int .i64 Yt, .int .i64 Yb, .bool Ys] 23)
    have hbel := hbel.alloc hbel.size (.cells #[.int .i64 Yt, .int .i64 Yb, .bool Ys] 23)
    simp only [Ck.cells] at hY
    generalize u2.alloc (.cells #[.int .i64 Yt, .int .i64 Yb, .bool Ys] 23) = V3 at *
    clear k0 k1 k2 kl
    refine (H3.out _).mono ?_
    rintro e u3 ⟨rfl, hb⟩
    have hc := hc.below hb hc.lt
    have hY := hY.below hb hY.lt
    have hbel := hbel.trans (hb.mono hbel.size)
    clear hb
    have y0 := hY.c0; have y1 := hY.c1; have y2 := hY.c2
    simp only at y0 y1 y2
    have yl := hY.lt
    have k0 := hc.c0; have k1 := hc.c1; have k2 := hc.c2
    simp only at k0 k1 k2
    have kl := hc.lt
    go_wp2_with fail
    have hZ := CBox.new u3 ⟨Zt, Zb, Zs⟩
    have hltZ : u3.heap.size < (u3.alloc (.cells #[.int .i64 Zt, .int .i64 Zb, .bool Zs] 23)).heap.size := by simp
    have hc := hc.alloc (.cells #[.int .i64 Zt, .int .i64 Zb, .bool Zs] 23)
    have hY := hY.alloc (.cells #[.int .i64 Zt, .int .i64 Zb, .bool Zs] 23)
    have hbel := hbel.alloc hbel.size (.cells #[.int .i64 Zt, .int .i64 Zb, .bool Zs] 23)
    simp only [Ck.cells] at hZ
    generalize u3.alloc (.cells #[.int .i64 Zt, .int .i64 Zb, .bool Zs] 23) = V4 at *
    clear y0 y1 y2 yl
    clear k0 k1 k2 kl
    rcases hk : (Ck.mk ct cb cs).ok with _ | _
    · rw [han.out hk] at had
      rw [hk] at hvd
      simp only [Ck.v, Ck.cells, Ck.none] at had
      clear hso hsf hao han hk
      refine (had.out _).mono ?_
      rintro e u4 ⟨v4, rfl, -, hb⟩
      have hc := hc.below hb hc.lt
      have hbel := hbel.trans (hb.mono hbel.size)
      clear hb
      have k0 := hc.c0; have k1 := hc.c1; have k2 := hc.c2
      simp only at k0 k1 k2
      have kl := hc.lt
      go_wp2_with fail
      have hbel := hbel.alloc hbel.size (.cells #[.int .i64 0, .int .i64 0, .bool false] 23)
      refine (hvd.out _).mono ?_
      rintro e u5 ⟨rfl, hb⟩
      have hbel := hbel.trans (hb.mono hbel.size)
      clear hb k0 k1 k2 kl
      go_wp2_with fail
      refine (haw.out _).mono ?_
      rintro e u6 ⟨rfl, hb⟩
      have hbel := hbel.trans (hb.mono hbel.size)
      clear hb
      go_wp2_with fail
      go_ret
      exact ⟨rfl, hbel⟩
    · obtain ⟨hDf, hDok, hDs⟩ := hsf.out hk
      have hso := hso.out hk
      rw [hao.out hk] at had
      simp only [Ck.v, Ck.cells] at had hDf hDok hDs hso
      obtain ⟨⟨⟨Et, Eb, Es⟩, k⟩, hE⟩ : ∃ p : Ck × Int, adv ⟨ct, (q : Int) - ct / 10, true⟩ (a : Int) = p := ⟨_, rfl⟩
      rw [hE] at hso
      have H4 := Lib.hid (fun u => (show Calls Try.prog 12 #[.agg #[.int .i64 ct, .int .i64 ((q : Int) - ct / 10), .bool true]] u fun x w' => x = .returned (.tuple #[.int .u32 (q : Int), .int .i64 0]) ∧ Below u.heap.size u w' from by have := stamp_p ⟨ct, (q : Int) - ct / 10, true⟩ hDf u; rw [hDs] at this; exact this))
      have H5 := Lib.hid (fun u => (show Calls Try.prog 10 #[.agg #[.int .i64 ct, .int .i64 ((q : Int) - ct / 10), .bool true], .int .i64 (a : Int)] u fun x w' => x = .returned (.tuple #[.agg #[.int .i64 Et, .int .i64 Eb, .bool Es], .int .i64 k]) ∧ Below u.heap.size u w' from by have := advance_p ⟨ct, (q : Int) - ct / 10, true⟩ hDf (a : Int) u; rw [hE] at this; exact this))
      have hEf : (Ck.mk Et Eb Es).Fit := by have := adv_fit ⟨ct, (q : Int) - ct / 10, true⟩ hDf (a : Int); rw [hE] at this; exact this
      have hst := Lib.hid (fun u => stamp_p ⟨Et, Eb, Es⟩ hEf u)
      obtain ⟨r, n, hrn, hkn⟩ : ∃ r n : Int, stp ⟨Et, Eb, Es⟩ = .tuple #[.int .u32 r, .int .i64 n] ∧ (k ≠ 0 ∨ (k = 0 ∧ n = 0 ∧ (q : Int) ≤ r ∧ r ≤ (q : Int) + ((a / 10 : Nat) : Int) + 1 ∧ r < 4294967296)) := by
        simp only at hso
        rcases hso with hso | ⟨h1, rr, h2, h3, h4, h5⟩
        · obtain ⟨r, n, hrn⟩ := stp_form ⟨Et, Eb, Es⟩
          exact ⟨r, n, hrn, .inl hso⟩
        · exact ⟨rr, 0, h5, .inr ⟨h1, rfl, by omega, by omega, by omega⟩⟩
      rw [hrn] at hst
      simp only [Ck.v, Ck.cells] at hst
      obtain ⟨B, hB⟩ : ∃ B, (q : Int) - ct / 10 = B := ⟨_, rfl⟩
      rw [hB] at had H4 H5
      clear hsf hao han hk hE hEf hrn hso hDf hDok hDs hB hvd
      refine (had.out _).mono ?_
      rintro e u4 ⟨v4, rfl, -, hb⟩
      have hbel := hbel.trans (hb.mono hbel.size)
      clear hb
      go_wp2_with fail
      have hD := CBox.new u4 ⟨ct, B, true⟩
      have hltD : u4.heap.size < (u4.alloc (.cells #[.int .i64 ct, .int .i64 B, .bool true] 23)).heap.size := by simp
      have hbel := hbel.alloc hbel.size (.cells #[.int .i64 ct, .int .i64 B, .bool true] 23)
      simp only [Ck.cells] at hD
      generalize u4.alloc (.cells #[.int .i64 ct, .int .i64 B, .bool true] 23) = V5 at *
      refine (H4.out _).mono ?_
      rintro e u5 ⟨rfl, hb⟩
      have hD := hD.below hb hD.lt
      have hbel := hbel.trans (hb.mono hbel.size)
      clear hb
      have k0 := hD.c0; have k1 := hD.c1; have k2 := hD.c2
      simp only at k0 k1 k2
      have kl := hD.lt
      go_wp2_with fail
      refine (H5.out _).mono ?_
      rintro e u6 ⟨rfl, hb⟩
      have hD := hD.below hb hD.lt
      have hbel := hbel.trans (hb.mono hbel.size)
      clear hb k0 k1 k2 kl
      go_wp2_with fail
      have hE := CBox.new u6 ⟨Et, Eb, Es⟩
      have hltE : u6.heap.size < (u6.alloc (.cells #[.int .i64 Et, .int .i64 Eb, .bool Es] 23)).heap.size := by simp
      have hD := hD.alloc (.cells #[.int .i64 Et, .int .i64 Eb, .bool Es] 23)
      have hbel := hbel.alloc hbel.size (.cells #[.int .i64 Et, .int .i64 Eb, .bool Es] 23)
      simp only [Ck.cells] at hE
      generalize u6.alloc (.cells #[.int .i64 Et, .int .i64 Eb, .bool Es] 23) = V7 at *
      refine (hst.out _).mono ?_
      rintro e u7 ⟨rfl, hb⟩
      have hD := hD.below hb hD.lt
      have hbel := hbel.trans (hb.mono hbel.size)
      clear hb hE hltE
      have k0 := hD.c0; have k1 := hD.c1; have k2 := hD.c2
      simp only at k0 k1 k2
      have kl := hD.lt
      rcases hkn with hk0 | ⟨rfl, rfl, hr1, hr2, hr3⟩
      · have hk1 : (k != 0) = true := by simpa using hk0
        have hk2 : (k == 0) = false := by simpa using hk0
        clear hk0
        go_wp2_with fail
        refine (haw.out _).mono ?_
        rintro e u8 ⟨rfl, hb⟩
        have hbel := hbel.trans (hb.mono hbel.size)
        clear hb
        go_wp2_with fail
        go_ret
        exact ⟨rfl, hbel⟩
      · obtain ⟨r, rfl⟩ := nat_of (show 0 ≤ r by omega)
        have hr4 : r < 4294967296 := by omega
        have hr5 : q ≤ r := by omega
        obtain ⟨z, hz⟩ : ∃ z : Nat, z = a / 10 := ⟨_, rfl⟩
        have h10 : ((a : Int)).tdiv 10 = (z : Int) := by rw [Int.tdiv_eq_ediv_of_nonneg (by omega)]; omega
        rw [← hz] at hr2
        have hz2 : z ≤ 6553 := by omega
        have hrw1 : wrap64 ((r : Int) - (q : Int)) = (r : Int) - (q : Int) := w_sub hr4 hq
        have hrw3 : wrap64 (z : Int) = (z : Int) := w_z hz2
        have hrw2 : wrap64 ((z : Int) + 1) = (z : Int) + 1 := w_z1 hz2
        have hle : (r : Int) - (q : Int) ≤ (z : Int) + 1 := le_of rfl hr2
        clear hr2 hr3 hz hz2
        go_wp2_with fail
        refine (haw.out _).mono ?_
        rintro e u8 ⟨rfl, hb⟩
        have hbel := hbel.trans (hb.mono hbel.size)
        clear hb
        go_wp2_with fail
        go_ret
        exact ⟨rfl, hbel⟩

theorem cells_u8 : Try.prog.cellsOf 5 = 1 := by kernel_rfl
theorem own : ownKnob Try.prog.godebug = none := by kernel_rfl
theorem laidOut : laidOutB Try.prog = true := by kernel_rfl
theorem contract (H : Type) (enc : TypeId × Value → H) (W : World) (base : Nat) (args : Array Value) (ds gs : List (DataW H)) (before : List MemPlace)
    (hval : ∀ (j : Nat) t v, Try.f7.params[j]? = some t → args[j]? = some v → Value.okWide Try.prog W .any base t v)
    (hW : DataW.Whole enc Try.prog Try.f7.params.toList Rows.clockPartsSpec.vars false W args.toList ds gs before) :
    Calls Try.prog 7 args W fun e W' => ∃ v, e = .returned v ∧ Rows.clockPartsSpec.post enc Try.prog Try.f7 false true false false W args v W' := by
  have hW' := hW
  obtain ⟨p, q, hA0, hV, rfl, hfz, hnd⟩ := hW
  have hA : DataW.TrodAll enc Try.prog W 0 (fun _ => true) true Try.f7.params.toList args.toList ds p := hA0
  rw [Try.params7] at hA hval
  obtain ⟨v0, vs0, d0, ds0, p0, q0, hargs, rfl, rfl, h0, r0⟩ := trodAll_cons hA
  obtain ⟨v1, vs1, d1, ds1, p1, q1, rfl, rfl, rfl, h1, r1⟩ := trodAll_cons r0
  obtain ⟨v2, vs2, d2, ds2, p2, q2, rfl, rfl, rfl, h2, r2⟩ := trodAll_cons r1
  obtain ⟨v3, vs3, d3, ds3, p3, q3, rfl, rfl, rfl, h3, r3⟩ := trodAll_cons r2
  obtain ⟨v4, vs4, d4, ds4, p4, q4, rfl, rfl, rfl, h4, r4⟩ := trodAll_cons r3
  obtain ⟨v5, vs5, d5, ds5, p5, q5, rfl, rfl, rfl, h5, r5⟩ := trodAll_cons r4
  obtain ⟨rfl, rfl, rfl⟩ := trodAll_nil r5
  obtain rfl : args = #[v0, v1, v2, v3, v4, v5] := by cases args; simp_all
  obtain ⟨a0, rfl, -, -, w0⟩ := open_int Try.underlying2 (hval 0 2 v0 rfl rfl) h0
  obtain ⟨a1, rfl, -, -, w1⟩ := open_int Try.underlying2 (hval 1 2 v1 rfl rfl) h1
  obtain ⟨b2, rfl, -, -⟩ := open_bool Try.underlying4 (hval 2 4 v2 rfl rfl) h2
  obtain ⟨a3, rfl, -, -, w3⟩ := open_int Try.underlying24 (hval 3 24 v3 rfl rfl) h3
  obtain ⟨a4, rfl, -, -, w4⟩ := open_int Try.underlying24 (hval 4 24 v4 rfl rfl) h4
  obtain ⟨a5, rfl, -, -, w5⟩ := open_int Try.underlying31 (hval 5 31 v5 rfl rfl) h5
  clear hA0
  refine (walk a0 (bounds_i64 w0) a1 (bounds_i64 w1) b2 a3 (bounds_u16 w3) a4 (bounds_u16 w4) a5 (bounds_u32 w5) W ).mono fun e W' ⟨he, hb⟩ => ?_
  subst he
  exact ⟨_, rfl, law_post laidOut (types_fit (by kernel_rfl)) (by kernel_rfl) Try.underlying4 rfl (fun xs hx => by
    match xs, hx with
    | [_, _, _, _, _, _], _ => rfl) hW' hb⟩

theorem lifted (os : Os) (started : os.Started) (H : Type) (enc : TypeId × Value → H) :
    ReturnsInHanded {} Try.checked os 7 .any (Rows.clockPartsSpec.pre6 enc Try.prog Try.f7 Rows.clockPartsRow.domain false) (Rows.clockPartsSpec.post enc Try.prog Try.f7 false true false false) := by
  refine returnsInHanded_of_change (C := Try.checked) own started (by kernel_rfl) Try.func7
    (ChangeSpec.witness6 (enc := enc) (C := Try.checked) false ⟨#[], #[.int .i64 0, .int .i64 0, .bool false, .int .u16 0, .int .u16 0, .int .u32 0], []⟩ 8 (by kernel_rfl) (by kernel_rfl) (by kernel_rfl) (by kernel_rfl)) ?_
  intro W base args ds gs before hval hW _ _
  exact contract H enc W base args ds gs before hval hW

theorem proved : Rows.ClockPartsSaid :=
  OpenClaim.holds_of_wide 7 Try.f7 rfl rfl rfl rfl rfl rfl rfl ⟨rfl, rfl, rfl, rfl, rfl⟩ rfl rfl rfl rfl rfl (by kernel_rfl) Try.func7 (by kernel_rfl)
    (of_decide_eq_true (by kernel_rfl)) (by unfold Func.isWrapper; first | (rw [if_pos (by decide +kernel)]; kernel_rfl) | (rw [if_neg (by decide +kernel)]; exact ⟨rfl, rfl⟩))
    (fun os started H enc _ => lifted os started H enc)
end Go.Proofs.Ytafhbdbmoeihaaa.clockParts
