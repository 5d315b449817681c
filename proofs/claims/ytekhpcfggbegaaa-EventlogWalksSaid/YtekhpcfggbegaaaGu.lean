/- Walks: a log to which events of the dice were added. -/
import Derived.Test.YtekhpcfggbegaaaGt
namespace Go.Proofs.Ytekhpcfggbegaaa.G9
open Go.RowKit Go.Proofs.Ytekhpcfggbegaaa.Mem Go.Proofs.Ytekhpcfggbegaaa.E5p Go.Proofs.Ytekhpcfggbegaaa.E5m Go.Proofs.Ytekhpcfggbegaaa.E5a Go.Proofs.Ytekhpcfggbegaaa.E5d Go.Proofs.Ytekhpcfggbegaaa.V7 Go.Proofs.Ytekhpcfggbegaaa.V9 Go.Proofs.Ytekhpcfggbegaaa.Made Go.Proofs.Ytekhpcfggbegaaa.De
set_option maxRecDepth 100000
set_option maxHeartbeats 4000000

/-- Events are added, one after the other, while the power holds. -/
def addsF (k : Nat) (L : Lg) (evs : List Ev) : Lg := evs.foldl (fun L e => (madd k L e).1) L
theorem madd_newest (k : Nat) (L : Lg) (e : Ev) : (madd k L e).1.newest ≤ L.newest + 1 := by
  have h : (mroom k L).1.newest ≤ L.newest + 1 := by
    unfold mroom
    split
    · exact Nat.le_succ _
    split
    · split
      · exact Nat.le_refl _
      · exact Nat.le_succ _
    · exact Nat.le_refl _
  unfold madd
  dsimp only
  split <;> exact h
theorem addsF_newest (k : Nat) : ∀ (evs : List Ev) (L : Lg), (addsF k L evs).newest ≤ L.newest + evs.length
  | [], _ => Nat.le_refl _
  | e :: l, L => by
    have h1 := addsF_newest k l (madd k L e).1
    have h2 := madd_newest k L e
    show (addsF k (madd k L e).1 l).newest ≤ _
    simp only [List.length_cons]
    omega
theorem addsF_snoc (k : Nat) (L : Lg) (evs : List Ev) (e : Ev) : addsF k L (evs ++ [e]) = (madd k (addsF k L evs) e).1 := by simp [addsF]
theorem madd_err (k : Nat) (L : Lg) (e : Ev) : (madd k L e).2.2 = 0 ∨ (madd k L e).2.2 = 9 := by
  unfold madd
  dsimp only
  split
  · exact .inl rfl
  · exact .inr rfl
theorem LA.grown_far {B : Nat} {W w w' : World} {d : Sh} {s : Fl} {m g n b : Nat} {rv : Value} {L : Lg} (h : LA B W w d s m g rv L n) (hg : w.grownBy w' (some b)) (hf : Far d g rv b) (hB : B ≤ b) : LA B W w' d s m g rv L n := by
  obtain ⟨a1, a2, a3, a4, a5⟩ := hf
  have ho : ∀ k, k < w.heap.size → k ≠ b → w'.heap[k]? = w.heap[k]? := fun k hk hn => hg.block k hk (fun e => hn (by injection e))
  exact ⟨⟨h.dev.dev.stays (ho _ h.dev.dev.lg a1.symm) (ho _ h.dev.dev.lb.2 a2.symm) (ho _ h.dev.dev.lw.2 a3.symm), h.dev.ok, h.dev.low.grown hg h.dev.base (fun q hq => by injection hq with hq; rw [← hq]; exact hB)⟩, (ho _ h.lg a4.symm).trans h.head, row_any h.own (fun k hk => ho k (h.r1 hk).2.2.2.2 (fun e => a5 (by rw [← e]; exact hk))), h.low, h.ok⟩
theorem eown_base9 {base base' : Nat} {w : World} {v : Value} {l : List Ev} (h : EOwn base w v l) (hb : base' ≤ base) : EOwn base' w v l := by
  refine ⟨h.1, ?_⟩
  rcases h.2 with h0 | ⟨g, cap, cur, e, hg, r⟩
  · exact .inl h0
  · exact .inr ⟨g, cap, cur, e, Nat.le_trans hb hg, r⟩
/-- What 'filled' leaves. -/
structure Fill (W w : World) (d : Sh) (g : Nat) (rv : Value) (s : Fl) (S z : Nat) (ow : Bool) (evs : List Ev) (N : Nat) : Prop where
  len : evs.length = N
  ok : ∀ e ∈ evs, OkE e
  calm : Calm s
  slots : slots s = (z - 11) / 17
  log : LA W.heap.size W w d s (40 * N) g rv (addsF ((z - 11) / 17) (fresh 0 S ow ((z - 11) / 17)) evs) N
theorem measN {N k : Nat} (h : k < N) : N - (intOf (.int .i64 ((k : Int) + 1))).toNat < N - (intOf (.int .i64 (k : Int))).toNat := by simp [intOf]; omega
theorem filled_p (S z : Nat) (hS1 : 2 ≤ S) (hS2 : S ≤ 4) (hz1 : 64 ≤ z) (hz2 : z ≤ 103) (ow : Bool) (A : Option Addr) (n c : Nat) (l : List Int) (N : Nat) (hN : N ≤ 40) (W : World) (hr : IRow W.heap.size W A l) (hn : n = l.length)
    (hl : ∀ x ∈ l, -9223372036854775808 ≤ x ∧ x ≤ 9223372036854775807) (hm : n ≤ 1000000) :
    Calls Try.prog 42 #[.int .i64 (S : Int), .int .i64 (z : Int), .bool ow, .slice A n c, .int .i64 (N : Int)] W fun e w' =>
      ∃ d g rv s v evs, e = .returned (.tuple #[.pointer (some ⟨d.g, 0, none⟩), .pointer (some ⟨g, 0, none⟩), v, .bool true]) ∧ Fill W w' d g rv s S z ow evs N ∧ EOwn W.heap.size w' v ((addsF ((z - 11) / 17) (fresh 0 S ow ((z - 11) / 17)) evs).recs.map (·.e)) := by
  have HNEW := Lib.hid (At.new S z (by omega) (by omega) hz1 (by omega) W.heap.size W W (Below.refl _ _) (Nat.le_refl _))
  have hwear : (Fl.new S z).wear.length = S := by show (List.replicate S (0 : Int)).length = _; exact List.length_replicate
  have hsl : slots (Fl.new S z) = (z - 11) / 17 := rfl
  have HR := Lib.hid hr
  have HNL := Lib.hid hn
  have HL := Lib.hid hl
  have HM := Lib.hid hm
  have HS1 := Lib.hid hS1
  have HWE := Lib.hid hwear
  clear hr hn hl hm hwear hS1 hS2 hz1 hz2
  go_enter Try.func42, Try.ntmps42
  go_wp2_with fail
  refine HNEW.out.mono ?_
  rintro e w1 ⟨d, rfl, h1, -, -⟩
  have HO := openl_p h1 rfl (fun x hx => List.eq_of_mem_replicate hx) 0 S HS1.out (by rw [HWE.out]; omega) ow
  rw [hsl] at HO
  have HO := Lib.hid (show Calls Try.prog 79 #[.pointer (some ⟨d.g, 0, none⟩), .int .i64 0, .int .i64 (S : Int), .bool ow] w1 _ from HO)
  obtain ⟨K, hK⟩ : ∃ K, K = (z - 11) / 17 := ⟨_, rfl⟩
  rw [← hK] at HO hsl
  have HKK := Lib.hid hK
  clear hK
  have HSL := Lib.hid hsl
  clear h1 HNEW hsl
  go_wp2_with fail
  refine HO.out.mono ?_
  rintro e w2 ⟨g, rfl, h2, -, -⟩
  have H2 := Lib.hid h2
  clear h2 HO
  go_wp2_with fail
  refine (roll_any A n c w2).mono ?_
  rintro e w3 ⟨rfl, hw3⟩
  have hrow2 : IRow w2.heap.size w2 A l := (Rd.below HR.out H2.out.dev.low).more H2.out.dev.low.size
  have hdz := Dz.start A n c l w2 hrow2 HNL.out HL.out HM.out
  have hal : Below w2.heap.size w2 (w2.alloc (.cells #[.slice A n c, .int .i64 0] 99)) := (Below.refl _ _).alloc (Nat.le_refl _) _
  rw [← hw3] at hdz hal
  have h3 := H2.out.step hal
  have hfar := H2.out.far (Nat.le_refl w2.heap.size)
  have hBg : W.heap.size ≤ w2.heap.size := H2.out.dev.low.size
  obtain ⟨gd, hgd⟩ : ∃ gd, gd = w2.heap.size := ⟨_, rfl⟩
  rw [← hgd] at hdz hfar hBg ⊢
  have H3 := Lib.hid h3
  have HDZ := Lib.hid hdz
  have HFAR := Lib.hid hfar
  have HBG := Lib.hid hBg
  clear hrow2 hdz hal hw3 h3 hfar hgd hBg H2
  go_wp2_with fail
  go_loopw [19] (fun iv wr => ∃ (k : Nat) (evs : List Ev) (s : Fl) (rv : Value), k ≤ N ∧ iv = .int .i64 (k : Int) ∧ evs.length = k ∧ (∀ e ∈ evs, OkE e) ∧ Calm s ∧ slots s = K ∧
    LA W.heap.size W wr d s (40 * k) g rv (addsF K (fresh 0 S ow K) evs) k ∧ Dz wr gd A n c l ∧ Far d g rv gd) (fun iv _ => N - (intOf iv).toNat)
  case atStart => exact ⟨0, [], Fl.new S z, .slice none 0 0, Nat.zero_le _, rfl, rfl, by simp, ⟨rfl, rfl⟩, HSL.out, H3.out, HDZ.out, HFAR.out⟩
  case round =>
    obtain ⟨k, evs, s, rv, hk, rfl, hlen, hoks, hcalm, hsl, hla, hdz, hfar⟩ := hrel
    rcases Nat.lt_or_ge k N with hlt | hge
    · have n1 : (k : Int) < (N : Int) := by omega
      have hnew := addsF_newest K evs (fresh 0 S ow K)
      rw [hlen] at hnew
      have HNW : Hid ((addsF K (fresh 0 S ow K) evs).newest < 2147483648) := Lib.hid (Nat.lt_of_le_of_lt hnew (by show 0 + k < 2147483648; omega))
      have HB1 : Hid (40 * k ≤ 700000 ∧ k ≤ 900) := Lib.hid ⟨by omega, by omega⟩
      have HLA := Lib.hid hla
      have HF := Lib.hid hfar
      have HC := Lib.hid hcalm
      have HS := Lib.hid hsl
      have HLEN := Lib.hid hlen
      have HOK := Lib.hid hoks
      have HLT := Lib.hid hlt
      clear hla hfar hcalm hsl hlen hoks hnew hlt hk H3 HDZ HFAR
      go_wp2_with fail
      refine (event_any hdz).mono ?_
      rintro e w4 ⟨x, rfl, hx, hdz4, hg4⟩
      have hla4 := HLA.out.grown_far hg4 HF.out HBG.out
      have hadd := add_p hla4 HB1.out.1 HB1.out.2 x hx.fit
      obtain ⟨a1, a2, a3⟩ := add_calm HC.out hla4.ok hla4.dev.ok HNW.out x hx.vld hx.id
      rw [HS.out] at a1
      have HADD := Lib.hid hadd
      have A1 := Lib.hid a1
      have A2 := Lib.hid a2
      have A3 := Lib.hid a3
      have HX := Lib.hid hx
      have HDZ4 := Lib.hid hdz4
      clear hla4 hadd a1 a2 a3 hx hdz4 hg4 hdz
      go_wp2_with fail
      refine HADD.out.mono ?_
      rintro e w5 ⟨rv5, rfl, h5, k5⟩
      rw [A1.out] at h5 ⊢
      have H5 : Hid (LA W.heap.size W w5 d (Lg.add s (addsF K (fresh 0 S ow K) evs) x).1 (40 * (k + 1)) g rv5 (addsF K (fresh 0 S ow K) (evs ++ [x])) (k + 1)) := Lib.hid (by rw [addsF_snoc]; exact h5)
      have D5 := Lib.hid (dz_kp HDZ4.out HR.out H5.out.dev.low HBG.out k5 HF.out)
      have F5 := Lib.hid (k5.at_ HF.out HDZ4.out.lt).2
      have herr := madd_err K (addsF K (fresh 0 S ow K) evs) x
      clear h5 k5 HADD A1
      generalize (madd K (addsF K (fresh 0 S ow K) evs) x).2 = r at *
      obtain ⟨r1, r2⟩ := r
      simp only at herr ⊢
      rcases herr with rfl | rfl
      all_goals
        go_wp2_with fail
        exact ⟨⟨k + 1, evs ++ [x], _, rv5, HLT.out, by go_num, by rw [List.length_append, HLEN.out]; rfl, fun e he => (List.mem_append.1 he).elim (HOK.out e) (fun h => by rw [List.mem_singleton.1 h]; exact HX.out), A2.out, by rw [A3.out.slots]; exact HS.out, H5.out, D5.out, F5.out⟩, measN HLT.out⟩
    · obtain rfl : k = N := Nat.le_antisymm hk hge
      have n1 : ¬ (k : Int) < (k : Int) := Int.lt_irrefl _
      have HREC := Lib.hid (records_p hla (by omega))
      have HLA := Lib.hid hla
      have HC := Lib.hid hcalm
      have HS := Lib.hid hsl
      have HLEN := Lib.hid hlen
      have HOK := Lib.hid hoks
      clear hla hcalm hsl hlen hoks hdz hfar H3 HDZ HFAR hge hk
      go_wp2_with fail
      refine HREC.out.mono ?_
      rintro e w5 ⟨v5, rfl, ho5, hb5⟩
      have H5 := Lib.hid (HLA.out.step hb5)
      have O5 := Lib.hid (eown_base9 ho5 HLA.out.dev.low.size)
      clear ho5 hb5 HREC
      go_wp2_with fail
      refine bodyPost_ret (v := .tuple #[.pointer (some ⟨d.g, 0, none⟩), .pointer (some ⟨g, 0, none⟩), v5, .bool true]) (by simp [results, Try.results42]) rfl ?_
      rw [← HKK.out]
      exact ⟨d, g, rv, s, v5, evs, rfl, ⟨HLEN.out, HOK.out, HC.out, by rw [← HKK.out]; exact HS.out, by rw [← HKK.out]; exact H5.out⟩, O5.out⟩
end Go.Proofs.Ytekhpcfggbegaaa.G9
