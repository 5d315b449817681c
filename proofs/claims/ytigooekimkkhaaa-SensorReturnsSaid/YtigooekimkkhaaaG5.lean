/- Walks: the program's sensor records: Decode. Plain mathematics of sensor records: their bytes are read back. Plain mathematics of sensor records: a changed byte, a missing end. Walks: the reference of conversions: two that are the same. Walks: two equal records are the same. -/
import Derived.Test.YtigooekimkkhaaaUe
import Derived.Test.YtigooekimkkhaaaWc
import Derived.Test.YtigooekimkkhaaaTa
import Derived.Test.YtigooekimkkhaaaC5e
import Derived.Test.YtigooekimkkhaaaTf
namespace Go.Proofs.Ytigooekimkkhaaa.Ua
open Go.RowKit Go.Proofs.Ytigooekimkkhaaa.Mem Go.Proofs.Ytigooekimkkhaaa.F2p Go.Proofs.Ytigooekimkkhaaa.C4l Go.Proofs.Ytigooekimkkhaaa.Ta Go.Proofs.Ytigooekimkkhaaa.Tb
set_option maxRecDepth 100000
set_option maxHeartbeats 2000000

theorem rds_nm (x : List UInt8) : (rdS x).1.nm.size ≤ 255 := by
  have hb : (beg x).nm.size ≤ 255 := by
    show ((x.drop 8).take (by_ x 7).toNat).toArray.size ≤ 255
    rw [List.size_toArray, List.length_take]
    have := (by_ x 7).toNat_lt
    omega
  have h0 : noSn.nm.size ≤ 255 := by decide
  unfold rdS
  split
  · exact h0
  · split
    · exact h0
    · split
      · unfold rdD
        split
        · exact h0
        · exact hb
      · unfold rdA
        split
        · exact h0
        · split
          · exact h0
          · exact hb
theorem dec_p (A : Option Addr) (n c : Nat) (l : List UInt8) (w : World) (hsl : Sl w A n c l) (hn : n ≤ 100000) :
    Calls Try.prog 25 #[.slice A n c] w (Rdd w (decS l)) := by
  have hb1 : Below w.heap.size w (w.alloc (.cells #[.int .u8 0, .int .u8 0, .int .u8 0, .string ⟨#[]⟩, .int .u8 0, .int .u8 0, .bool false, .int .i64 0, .bool false, .int .i64 0, .int .i64 0, .int .i64 0, .int .i64 0, .slice none 0 0, .int .u8 0, .int .u8 0, .int .u8 0, .int .u8 0, .int .u8 0, .int .u8 0, .int .u8 0, .int .u8 0, .int .u8 0, .int .u16 0, .int .u16 0, .int .u16 0, .bool false, .int .i64 0] 32)) := (Below.refl _ _).alloc (Nat.le_refl _) _
  have hz1 := Bx.zero w
  have hs1 := hsl.step hb1
  have hl := hs1.len
  generalize hW : w.alloc (.cells #[.int .u8 0, .int .u8 0, .int .u8 0, .string ⟨#[]⟩, .int .u8 0, .int .u8 0, .bool false, .int .i64 0, .bool false, .int .i64 0, .int .i64 0, .int .i64 0, .int .i64 0, .slice none 0 0, .int .u8 0, .int .u8 0, .int .u8 0, .int .u8 0, .int .u8 0, .int .u8 0, .int .u8 0, .int .u8 0, .int .u8 0, .int .u16 0, .int .u16 0, .int .u16 0, .bool false, .int .i64 0] 32) = w1 at *
  by_cases h9 : n < 9
  · have hR : decS l = (noSn, 4) := by unfold decS; rw [if_pos (by omega)]
    rw [hR]
    have hk : decide ((n : Int) < 9) = true := by simp; omega
    clear hR hl hs1 hsl
    go_enter Try.func25, Try.ntmps25
    go_wp2_with (refine wpList_store_bx rfl (.tmp 2) (.tmp 10) rfl w.heap.size noSn noSn (.slice none 0 0) (.slice none 0 0) rfl rfl rfl hz1 ?_; intro w9 hx9 hg9; refine Hid.out ?_)
    refine Lib.hid ?_
    have hb9 := (hb1).grown hg9 (hb1).size (fun k hk => by injection hk; omega)
    go_wp2_with fail
    exact out2 Try.results25 rfl rfl rfl hx9 ⟨none, 0, 0, rfl, PSl.none, hb9⟩
  have hk : ¬ (n : Int) < 9 := by omega
  have hO := Wc.open8_any A n c l w1 hs1.len hs1.row hs1.cap hn
  have ho8 : Wc.open8 l = if Pl.sum8 l ≠ 0 then (5, []) else (0, l.take (l.length - 1)) := by unfold Wc.open8; rw [if_neg (by omega)]
  by_cases hs : Pl.sum8 l ≠ 0
  · have hR : decS l = (noSn, 5) := by unfold decS; rw [if_neg (by omega), if_pos hs]
    rw [if_pos hs] at ho8
    rw [ho8] at hO
    rw [hR]
    replace hO := Lib.hid hO
    clear hR hl hs1 hsl ho8
    go_enter Try.func25, Try.ntmps25
    go_wp2_with fail
    refine hO.out.mono ?_
    rintro e w2 ⟨v, rfl, ho2, hb2⟩
    obtain ⟨A2, n2', c2, rfl, -⟩ := Sl.of_own ho2
    have hz2 := hz1.below hb2
    have hbb2 := hb1.trans (hb2.mono hb1.size)
    go_wp2_with (refine wpList_store_bx rfl (.tmp 2) (.tmp 18) rfl w.heap.size noSn noSn (.slice none 0 0) (.slice none 0 0) rfl rfl rfl hz2 ?_; intro w9 hx9 hg9; refine Hid.out ?_)
    refine Lib.hid ?_
    have hb9 := (hbb2).grown hg9 (hbb2).size (fun k hk => by injection hk; omega)
    go_wp2_with fail
    exact out2 Try.results25 rfl rfl rfl hx9 ⟨none, 0, 0, rfl, PSl.none, hb9⟩
  rw [if_neg hs] at ho8
  rw [ho8] at hO
  replace hO := Lib.hid hO
  have hR0 : decS l = if (rdS (l.take (l.length - 1))).2 ≠ 0 then (noSn, (rdS (l.take (l.length - 1))).2) else if vs (rdS (l.take (l.length - 1))).1 = true then ((rdS (l.take (l.length - 1))).1, 0) else (noSn, 1) := by
    show (if l.length < 9 then (noSn, 4) else if Pl.sum8 l ≠ 0 then (noSn, 5) else _) = _
    rw [if_neg (by omega), if_neg hs]
  have hxl : (l.take (l.length - 1)).length = n - 1 := by rw [List.length_take]; omega
  have hnm := rds_nm (l.take (l.length - 1))
  have HRD := Lib.hid fun (A2 : Option Addr) (n2 c2 : Nat) (u : World) (hu : Sl u A2 n2 c2 (l.take (l.length - 1))) => read_p A2 n2 c2 (l.take (l.length - 1)) u hu (by rw [hu.len]; omega) (by rw [hu.len]; omega)
  have HRX := Lib.hid hR0
  generalize l.take (l.length - 1) = x at *
  generalize hRS : rdS x = RS at *
  obtain ⟨RS, E⟩ := RS
  dsimp only at hR0 hnm
  clear hl hs1 hsl ho8 hxl hs h9 hRS HRX
  rw [hR0]
  by_cases hE : E = 0
  case neg =>
    rw [if_pos hE]
    have hq : ((E : Int) != 0) = true := by rw [bne_iff_ne]; omega
    clear hR0
    go_enter Try.func25, Try.ntmps25
    go_wp2_with fail
    refine hO.out.mono ?_
    rintro e w2 ⟨v, rfl, ho2, hb2⟩
    obtain ⟨A2, n2', c2, rfl, hs2⟩ := Sl.of_own ho2
    have HS2 := Lib.hid hs2
    have hz2 := hz1.below hb2
    have hbb2 := hb1.trans (hb2.mono hb1.size)
    clear hs2 ho2
    go_wp2_with fail
    refine (HRD.out _ _ _ _ HS2.out).mono ?_
    rintro e w3 ⟨PA, pn, pc, rfl, -, hb3⟩
    have hz3 := hz2.below hb3
    have hbb3 := hbb2.trans (hb3.mono hbb2.size)
    have hq3 := Bx.zero w3
    have hz4 := hz3.alloc (.cells #[.int .u8 0, .int .u8 0, .int .u8 0, .string ⟨#[]⟩, .int .u8 0, .int .u8 0, .bool false, .int .i64 0, .bool false, .int .i64 0, .int .i64 0, .int .i64 0, .int .i64 0, .slice none 0 0, .int .u8 0, .int .u8 0, .int .u8 0, .int .u8 0, .int .u8 0, .int .u8 0, .int .u8 0, .int .u8 0, .int .u8 0, .int .u16 0, .int .u16 0, .int .u16 0, .bool false, .int .i64 0] 32)
    have hb4 := hbb3.alloc hbb3.size (.cells #[.int .u8 0, .int .u8 0, .int .u8 0, .string ⟨#[]⟩, .int .u8 0, .int .u8 0, .bool false, .int .i64 0, .bool false, .int .i64 0, .int .i64 0, .int .i64 0, .int .i64 0, .slice none 0 0, .int .u8 0, .int .u8 0, .int .u8 0, .int .u8 0, .int .u8 0, .int .u8 0, .int .u8 0, .int .u8 0, .int .u8 0, .int .u16 0, .int .u16 0, .int .u16 0, .bool false, .int .i64 0] 32)
    have hF := hz3.lt
    go_wp2_with (refine wpList_store_bx rfl (.tmp 6) (.tmp 23) rfl w3.heap.size RS noSn (.slice PA pn pc) (.slice none 0 0) rfl rfl rfl hq3 ?_; intro w5 hx5 hg5; refine Hid.out ?_)
    refine Lib.hid ?_
    have hz5 := hz4.kept hg5 (fun e => by injection e; omega)
    have hb5 := hb4.grown hg5 hb4.size (fun k hk => by injection hk; omega)
    go_wp2_with (refine wpList_store_bx rfl (.tmp 2) (.tmp 27) rfl w.heap.size noSn noSn (.slice none 0 0) (.slice none 0 0) rfl rfl rfl hz5 ?_; intro w9 hx9 hg9; refine Hid.out ?_)
    refine Lib.hid ?_
    have hb9 := (hb5).grown hg9 (hb5).size (fun k hk => by injection hk; omega)
    go_wp2_with fail
    exact out2 Try.results25 rfl rfl rfl hx9 ⟨none, 0, 0, rfl, PSl.none, hb9⟩
  subst hE
  rw [if_neg (by simp)]
  have HV := Lib.hid fun (A2 : Option Addr) (n2 c2 : Nat) (u : World) (hu : PSl u A2 n2 c2 RS.c.p) => valid_p RS A2 n2 c2 u hu (by unfold maxLen; omega)
  clear hR0 hnm
  cases hvs : vs RS
  · rw [if_neg (by simp)]
    rw [hvs] at HV
    go_enter Try.func25, Try.ntmps25
    go_wp2_with fail
    refine hO.out.mono ?_
    rintro e w2 ⟨v, rfl, ho2, hb2⟩
    obtain ⟨A2, n2', c2, rfl, hs2⟩ := Sl.of_own ho2
    have HS2 := Lib.hid hs2
    have hz2 := hz1.below hb2
    have hbb2 := hb1.trans (hb2.mono hb1.size)
    clear hs2 ho2
    go_wp2_with fail
    refine (HRD.out _ _ _ _ HS2.out).mono ?_
    rintro e w3 ⟨PA, pn, pc, rfl, hp3, hb3⟩
    have hz3 := hz2.below hb3
    have hbb3 := hbb2.trans (hb3.mono hbb2.size)
    have hq3 := Bx.zero w3
    have hz4 := hz3.alloc (.cells #[.int .u8 0, .int .u8 0, .int .u8 0, .string ⟨#[]⟩, .int .u8 0, .int .u8 0, .bool false, .int .i64 0, .bool false, .int .i64 0, .int .i64 0, .int .i64 0, .int .i64 0, .slice none 0 0, .int .u8 0, .int .u8 0, .int .u8 0, .int .u8 0, .int .u8 0, .int .u8 0, .int .u8 0, .int .u8 0, .int .u8 0, .int .u16 0, .int .u16 0, .int .u16 0, .bool false, .int .i64 0] 32)
    have hb4 := hbb3.alloc hbb3.size (.cells #[.int .u8 0, .int .u8 0, .int .u8 0, .string ⟨#[]⟩, .int .u8 0, .int .u8 0, .bool false, .int .i64 0, .bool false, .int .i64 0, .int .i64 0, .int .i64 0, .int .i64 0, .slice none 0 0, .int .u8 0, .int .u8 0, .int .u8 0, .int .u8 0, .int .u8 0, .int .u8 0, .int .u8 0, .int .u8 0, .int .u8 0, .int .u16 0, .int .u16 0, .int .u16 0, .bool false, .int .i64 0] 32)
    have hF := hz3.lt
    have hp4 := hp3.step ((Below.refl w3.heap.size w3).alloc (Nat.le_refl _) (.cells #[.int .u8 0, .int .u8 0, .int .u8 0, .string ⟨#[]⟩, .int .u8 0, .int .u8 0, .bool false, .int .i64 0, .bool false, .int .i64 0, .int .i64 0, .int .i64 0, .int .i64 0, .slice none 0 0, .int .u8 0, .int .u8 0, .int .u8 0, .int .u8 0, .int .u8 0, .int .u8 0, .int .u8 0, .int .u8 0, .int .u8 0, .int .u16 0, .int .u16 0, .int .u16 0, .bool false, .int .i64 0] 32))
    go_wp2_with (refine wpList_store_bx rfl (.tmp 6) (.tmp 23) rfl w3.heap.size RS noSn (.slice PA pn pc) (.slice none 0 0) rfl rfl rfl hq3 ?_; intro w5 hx5 hg5; refine Hid.out ?_)
    refine Lib.hid ?_
    have hz5 := hz4.kept hg5 (fun e => by injection e; omega)
    have hb5 := hb4.grown hg5 hb4.size (fun k hk => by injection hk; omega)
    have hp5 := psl_far hp4 hq3 ⟨_, _, _, rfl⟩ hg5
    have HP5 := Lib.hid hp5
    clear hp5 hp4 hp3 hg5
    go_wp2_with (refine wpList_load_bx rfl (.tmp 6) rfl _ _ _ rfl hx5 ?_)
    refine (HV.out _ _ _ _ HP5.out).mono ?_
    rintro e w6 ⟨rfl, hb6⟩
    have hz6 := hz5.below hb6
    have hbb6 := hb5.trans (hb6.mono hb5.size)
    go_wp2_with (refine wpList_store_bx rfl (.tmp 2) (.tmp 32) rfl w.heap.size noSn noSn (.slice none 0 0) (.slice none 0 0) rfl rfl rfl hz6 ?_; intro w9 hx9 hg9; refine Hid.out ?_)
    refine Lib.hid ?_
    have hb9 := (hbb6).grown hg9 (hbb6).size (fun k hk => by injection hk; omega)
    go_wp2_with fail
    exact out2 Try.results25 rfl rfl rfl hx9 ⟨none, 0, 0, rfl, PSl.none, hb9⟩
  · rw [if_pos rfl]
    rw [hvs] at HV
    go_enter Try.func25, Try.ntmps25
    go_wp2_with fail
    refine hO.out.mono ?_
    rintro e w2 ⟨v, rfl, ho2, hb2⟩
    obtain ⟨A2, n2', c2, rfl, hs2⟩ := Sl.of_own ho2
    have HS2 := Lib.hid hs2
    have hz2 := hz1.below hb2
    have hbb2 := hb1.trans (hb2.mono hb1.size)
    clear hs2 ho2
    go_wp2_with fail
    refine (HRD.out _ _ _ _ HS2.out).mono ?_
    rintro e w3 ⟨PA, pn, pc, rfl, hp3, hb3⟩
    have hz3 := hz2.below hb3
    have hbb3 := hbb2.trans (hb3.mono hbb2.size)
    have hq3 := Bx.zero w3
    have hz4 := hz3.alloc (.cells #[.int .u8 0, .int .u8 0, .int .u8 0, .string ⟨#[]⟩, .int .u8 0, .int .u8 0, .bool false, .int .i64 0, .bool false, .int .i64 0, .int .i64 0, .int .i64 0, .int .i64 0, .slice none 0 0, .int .u8 0, .int .u8 0, .int .u8 0, .int .u8 0, .int .u8 0, .int .u8 0, .int .u8 0, .int .u8 0, .int .u8 0, .int .u16 0, .int .u16 0, .int .u16 0, .bool false, .int .i64 0] 32)
    have hb4 := hbb3.alloc hbb3.size (.cells #[.int .u8 0, .int .u8 0, .int .u8 0, .string ⟨#[]⟩, .int .u8 0, .int .u8 0, .bool false, .int .i64 0, .bool false, .int .i64 0, .int .i64 0, .int .i64 0, .int .i64 0, .slice none 0 0, .int .u8 0, .int .u8 0, .int .u8 0, .int .u8 0, .int .u8 0, .int .u8 0, .int .u8 0, .int .u8 0, .int .u8 0, .int .u16 0, .int .u16 0, .int .u16 0, .bool false, .int .i64 0] 32)
    have hF := hz3.lt
    have hp4 := hp3.step ((Below.refl w3.heap.size w3).alloc (Nat.le_refl _) (.cells #[.int .u8 0, .int .u8 0, .int .u8 0, .string ⟨#[]⟩, .int .u8 0, .int .u8 0, .bool false, .int .i64 0, .bool false, .int .i64 0, .int .i64 0, .int .i64 0, .int .i64 0, .slice none 0 0, .int .u8 0, .int .u8 0, .int .u8 0, .int .u8 0, .int .u8 0, .int .u8 0, .int .u8 0, .int .u8 0, .int .u8 0, .int .u16 0, .int .u16 0, .int .u16 0, .bool false, .int .i64 0] 32))
    go_wp2_with (refine wpList_store_bx rfl (.tmp 6) (.tmp 23) rfl w3.heap.size RS noSn (.slice PA pn pc) (.slice none 0 0) rfl rfl rfl hq3 ?_; intro w5 hx5 hg5; refine Hid.out ?_)
    refine Lib.hid ?_
    have hz5 := hz4.kept hg5 (fun e => by injection e; omega)
    have hb5 := hb4.grown hg5 hb4.size (fun k hk => by injection hk; omega)
    have hp5 := psl_far hp4 hq3 ⟨_, _, _, rfl⟩ hg5
    have HP5 := Lib.hid hp5
    clear hp5 hp4 hp3 hg5
    go_wp2_with (refine wpList_load_bx rfl (.tmp 6) rfl _ _ _ rfl hx5 ?_)
    refine (HV.out _ _ _ _ HP5.out).mono ?_
    rintro e w6 ⟨rfl, hb6⟩
    have hz6 := hz5.below hb6
    have hx6 := hx5.below hb6
    have HP6 := Lib.hid (HP5.out.step hb6)
    have hbb6 := hb5.trans (hb6.mono hb5.size)
    go_wp2_with (first
      | (refine wpList_load_bx rfl (.tmp 6) rfl _ _ _ rfl hx6 ?_)
      | (refine wpList_store_bx rfl (.tmp 2) (.tmp 33) rfl w.heap.size RS noSn (.slice PA pn pc) (.slice none 0 0) rfl rfl rfl hz6 ?_; intro w9 hx9 hg9; refine Hid.out ?_))
    refine Lib.hid ?_
    have hb9 := hbb6.grown hg9 hbb6.size (fun k hk => by injection hk; omega)
    have hp9 := psl_far HP6.out hz6 ⟨_, _, _, rfl⟩ hg9
    go_wp2_with fail
    exact out2 Try.results25 rfl rfl rfl hx9 ⟨PA, pn, pc, rfl, hp9, hb9⟩
end Go.Proofs.Ytigooekimkkhaaa.Ua
namespace Go.Proofs.Ytigooekimkkhaaa.Um
open Go.Proofs.Ytigooekimkkhaaa.F2p Go.Proofs.Ytigooekimkkhaaa.Ta
set_option maxRecDepth 100000

theorem total_app (a b : List UInt8) : Pl.total (a ++ b) = (Pl.total a + Pl.total b) % 256 := by
  have gen : ∀ (l : List UInt8) (c : Nat), l.foldl (fun s x => (s + x.toNat) % 256) c % 256 = (c + Pl.total l) % 256 := by
    intro l
    induction l with
    | nil => intro c; simp [Pl.total]
    | cons x l ih =>
      intro c
      have h1 := ih ((c + x.toNat) % 256)
      have h2 := ih ((0 + x.toNat) % 256)
      have h3 : Pl.total (x :: l) = l.foldl (fun s x => (s + x.toNat) % 256) ((0 + x.toNat) % 256) := rfl
      have h4 := Pl.total_lt (x :: l)
      rw [List.foldl_cons]
      rw [h3] at h4
      rw [h3]
      omega
  have h := gen b (Pl.total a)
  have e : Pl.total (a ++ b) = b.foldl (fun s x => (s + x.toNat) % 256) (Pl.total a) := by
    unfold Pl.total
    rw [List.foldl_append]
  have hl := Pl.total_lt (a ++ b)
  rw [e] at hl ⊢
  omega
theorem sum8_sealed (l : List UInt8) : Pl.sum8 (sealB l) = 0 := by
  unfold sealB Pl.sum8
  rw [total_app]
  have h1 : Pl.total [UInt8.ofNat ((256 - Pl.total l) % 256)] = (256 - Pl.total l) % 256 := by
    show (0 + (UInt8.ofNat ((256 - Pl.total l) % 256)).toNat) % 256 = _
    rw [UInt8.toNat_ofNat']
    omega
  have h2 := Pl.total_lt l
  rw [h1]
  omega
theorem seal_len (l : List UInt8) : (sealB l).length = l.length + 1 := by unfold sealB; simp
theorem seal_take (l : List UInt8) : (sealB l).take ((sealB l).length - 1) = l := by
  rw [seal_len]
  unfold sealB
  simp
theorem ba_eq (s : ByteArray) : (⟨(bl s).toArray⟩ : ByteArray) = s := by
  unfold bl
  cases s
  simp
theorem n2_lit (v : Nat) (h : v < 65536) (rest : List UInt8) : n2 (lit v 2 ++ rest) 0 = v := by
  unfold n2
  rw [List.drop_zero, C4p.take_pre (lit_len v 2), F2p.num_lit v 2 (by omega)]
theorem n2_skip (l rest : List UInt8) (i k : Nat) (h : l.length = k) : n2 (l ++ rest) (k + i) = n2 rest i := by
  unfold n2
  rw [← List.drop_drop, C4p.drop_pre h]
theorem wid_of {s : Sn} (hv : vs s = true) : s.sm = 1 ∨ s.sm = 3 ∨ s.sm = 5 := by
  unfold vs wid at hv
  simp only [Bool.and_eq_true, decide_eq_true_eq] at hv
  exact hv.2.1
theorem nm_of {s : Sn} (hv : vs s = true) : 1 ≤ s.nm.size ∧ s.nm.size ≤ 16 := by
  unfold vs okn at hv
  simp only [Bool.and_eq_true, decide_eq_true_eq, bl_len] at hv
  exact hv.1.1
theorem flg_nat {s : Sn} (hv : vs s = true) : (UInt8.ofNat (flg s.d s.on s.sm)).toNat = flg s.d s.on s.sm ∧ flg s.d s.on s.sm < 32 ∧ (decide (flg s.d s.on s.sm % 2 = 1) = s.d) ∧ (decide (flg s.d s.on s.sm / 2 % 2 = 1) = s.on) ∧ (((flg s.d s.on s.sm / 4 : Nat) : Int) = s.sm) := by
  have h := wid_of hv
  rw [UInt8.toNat_ofNat']
  unfold flg
  rcases h with h | h | h <;> rw [h] <;> cases s.d <;> cases s.on <;> decide
/-- What stands behind the name. -/
def back (s : Sn) : List UInt8 := mid s ++ (lit s.av 2 ++ lit s.dv 2)
theorem pay_eq (s : Sn) : pay s = head s ++ (bl s.nm ++ back s) := by
  unfold pay back
  simp only [List.append_assoc]
theorem by_7 {s : Sn} (hv : vs s = true) : (by_ (pay s) 7).toNat = s.nm.size := by
  show (UInt8.ofNat s.nm.size).toNat = _
  rw [UInt8.toNat_ofNat']
  have := nm_of hv
  omega
theorem pay_len (s : Sn) : (pay s).length = 8 + s.nm.size + (back s).length := by
  rw [pay_eq, List.length_append, List.length_append, bl_len]
  show 8 + _ = _
  omega
theorem pay_drop {s : Sn} (hv : vs s = true) : (pay s).drop (8 + (by_ (pay s) 7).toNat) = back s := by
  rw [by_7 hv, pay_eq, ← List.drop_drop, C4p.drop_pre (a := head s) (by rfl), C4p.drop_pre (bl_len s.nm)]
theorem beg_pay {s : Sn} (hv : vs s = true) : beg (pay s) = { noSn with nu := s.nu, ty := s.ty, un := s.un, nm := s.nm, ei := s.ei, en := s.en, d := s.d, on := s.on, sm := s.sm } := by
  obtain ⟨h1, h2, h3, h4, h5⟩ := flg_nat hv
  have e6 : (by_ (pay s) 6).toNat = flg s.d s.on s.sm := h1
  have enm : (⟨(((pay s).drop 8).take (by_ (pay s) 7).toNat).toArray⟩ : ByteArray) = s.nm := by
    rw [by_7 hv, pay_eq, C4p.drop_pre (a := head s) (by rfl), C4p.take_pre (bl_len s.nm), ba_eq]
  unfold beg
  rw [e6, h3, h4, h5, enm]
  rfl
theorem dec_encS {s : Sn} (hv : vs s = true) (hf : s.Fit) : decS (encS s) = (s, 0) := by
  obtain ⟨h1, h2, h3, h4, h5⟩ := flg_nat hv
  have e6 : (by_ (pay s) 6).toNat = flg s.d s.on s.sm := h1
  have hb := beg_pay hv
  have hd := pay_drop hv
  have hl := pay_len s
  have hR : rdS (pay s) = (s, 0) := by
    unfold rdS
    rw [if_neg (by rw [e6]; intro h; rcases h with h | h; exact h rfl; omega), if_neg (by rw [by_7 hv, hl]; omega), hd, hb]
    have hd2 : (by_ (pay s) 6).toNat % 2 = 1 ↔ s.d = true := by
      rw [e6]
      constructor
      · intro h; rw [← h3]; exact decide_eq_true h
      · intro h; rw [h] at h3; rw [h]; exact of_decide_eq_true h3
    by_cases hdd : s.d = true
    · rw [if_pos (hd2.2 hdd)]
      have hbk : back s = lit s.st 2 ++ (lit s.av 2 ++ lit s.dv 2) := by unfold back mid; rw [if_pos hdd]
      have hlen : (back s).length = 6 := by rw [hbk]; simp [lit_len]
      have hv2 := hv
      unfold vs dsc nocv nolim at hv2
      rw [if_pos hdd] at hv2
      simp only [Bool.and_eq_true, decide_eq_true_eq] at hv2
      obtain ⟨-, -, ⟨c1, c2, c3, c4, c5, c6, c7⟩, ⟨q0, q1, q2, q3, q4, q5, q6⟩, q7, q8, -, -⟩ := hv2
      have hsz : size (back s) 6 = 0 := by unfold size; rw [hlen]; rfl
      unfold rdD
      rw [if_neg (by omega)]
      have n0 : n2 (back s) 0 = s.st := by rw [hbk]; exact n2_lit _ hf.st _
      have n2' : n2 (back s) 2 = s.av := by rw [hbk, show (2 : Nat) = 2 + 0 from rfl, n2_skip _ _ 0 2 (lit_len _ _)]; exact n2_lit _ hf.av _
      have n4 : n2 (back s) 4 = s.dv := by
        rw [hbk, show (4 : Nat) = 2 + (2 + 0) from rfl, n2_skip _ _ (2 + 0) 2 (lit_len _ _), n2_skip _ _ 0 2 (lit_len _ _)]
        have := n2_lit s.dv hf.dv []
        rwa [List.append_nil] at this
      rw [n0, n2', n4]
      obtain ⟨nu, ty, un, nm, ei, en, d, ⟨f, sg, m, b, k1, k2, p⟩, mx, r0, r1, r2, r3, r4, r5, hl', hu, st, av, dv, on, sm⟩ := s
      dsimp only at *
      rw [Bool.not_eq_true'] at c2
      have c7' : p = [] := List.length_eq_zero_iff.1 c7
      subst c1 c2 c3 c4 c5 c6 c7' q0 q1 q2 q3 q4 q5 q6 q7 q8
      rfl
    · rw [if_neg (fun h => hdd (hd2.1 h))]
      have hv2 := hv
      unfold vs ana at hv2
      rw [if_neg hdd] at hv2
      simp only [Bool.and_eq_true, decide_eq_true_eq] at hv2
      obtain ⟨-, -, hvc, -, hst, -, -⟩ := hv2
      have hbk : back s = C4p.enc s.c ++ (s.mx :: s.r0 :: s.r1 :: s.r2 :: s.r3 :: s.r4 :: s.r5 :: s.hl :: s.hu :: (lit s.av 2 ++ lit s.dv 2)) := by
        unfold back mid ext Sn.raw
        rw [if_neg hdd]
        simp
      have hdc := C4p.dec_enc hvc (s.mx :: s.r0 :: s.r1 :: s.r2 :: s.r3 :: s.r4 :: s.r5 :: s.hl :: s.hu :: (lit s.av 2 ++ lit s.dv 2))
      rw [← hbk] at hdc
      unfold rdA
      rw [hdc]
      dsimp only
      rw [if_neg (by simp), Int.toNat_natCast]
      have hdr : (back s).drop (C4p.enc s.c).length = s.mx :: s.r0 :: s.r1 :: s.r2 :: s.r3 :: s.r4 :: s.r5 :: s.hl :: s.hu :: (lit s.av 2 ++ lit s.dv 2) := by rw [hbk]; exact C4p.drop_pre rfl
      rw [hdr]
      have hsz : size (s.mx :: s.r0 :: s.r1 :: s.r2 :: s.r3 :: s.r4 :: s.r5 :: s.hl :: s.hu :: (lit s.av 2 ++ lit s.dv 2)) 13 = 0 := by
        unfold size
        simp [lit_len]
      rw [if_neg (by omega)]
      have na : n2 (s.mx :: s.r0 :: s.r1 :: s.r2 :: s.r3 :: s.r4 :: s.r5 :: s.hl :: s.hu :: (lit s.av 2 ++ lit s.dv 2)) 9 = s.av := n2_lit _ hf.av _
      have nd : n2 (s.mx :: s.r0 :: s.r1 :: s.r2 :: s.r3 :: s.r4 :: s.r5 :: s.hl :: s.hu :: (lit s.av 2 ++ lit s.dv 2)) 11 = s.dv := by
        have := n2_lit s.dv hf.dv []
        rw [List.append_nil] at this
        exact this
      unfold fin
      rw [na, nd]
      obtain ⟨nu, ty, un, nm, ei, en, d, c, mx, r0, r1, r2, r3, r4, r5, hl', hu, st, av, dv, on, sm⟩ := s
      dsimp only at *
      subst hst
      rfl
  unfold decS
  have hsl := seal_len (pay s)
  have hn := nm_of hv
  rw [show encS s = sealB (pay s) from rfl, if_neg (by rw [hsl, hl]; omega), if_neg (by rw [sum8_sealed]; simp), seal_take, hR]
  dsimp only
  rw [if_neg (by simp), hv]
  rfl
end Go.Proofs.Ytigooekimkkhaaa.Um
namespace Go.Proofs.Ytigooekimkkhaaa.Um
open Go.Proofs.Ytigooekimkkhaaa.F2p Go.Proofs.Ytigooekimkkhaaa.Ta
set_option maxRecDepth 100000

theorem total_one (x : UInt8) : Pl.total [x] = x.toNat := by
  have := x.toNat_lt
  show (0 + x.toNat) % 256 = _
  omega
theorem set_split (l : List UInt8) (i : Nat) (h : i < l.length) (y : UInt8) : l.set i y = l.take i ++ ([y] ++ l.drop (i + 1)) := by
  rw [List.set_eq_take_append_cons_drop, if_pos h]
  rfl
theorem sum_set {l : List UInt8} {i : Nat} (h : i < l.length) (y : UInt8) (h0 : Pl.sum8 l = 0) (hne : y ≠ l[i]) : Pl.sum8 (l.set i y) ≠ 0 := by
  have e : l = l.take i ++ ([l[i]] ++ l.drop (i + 1)) := by
    have := List.take_append_drop i l
    rw [List.drop_eq_getElem_cons h] at this
    exact this.symm
  have hn : y.toNat ≠ (l[i]).toNat := fun g => hne (UInt8.toNat_inj.1 g)
  have t1 : Pl.total l = (Pl.total (l.take i) + ((l[i]).toNat + Pl.total (l.drop (i + 1))) % 256) % 256 := by
    conv => lhs; rw [e]
    rw [total_app, total_app, total_one]
  have t2 : Pl.total (l.set i y) = (Pl.total (l.take i) + (y.toNat + Pl.total (l.drop (i + 1))) % 256) % 256 := by
    rw [set_split l i h, total_app, total_app, total_one]
  have b1 := Pl.total_lt l
  have b2 := Pl.total_lt (l.set i y)
  have b3 := y.toNat_lt
  have b4 := (l[i]).toNat_lt
  unfold Pl.sum8 at h0 ⊢
  omega
theorem enc_len {s : Sn} (hv : vs s = true) : 10 ≤ (encS s).length ∧ (encS s).length ≤ 160 := by
  have hn := nm_of hv
  have hb : 6 ≤ (back s).length ∧ (back s).length ≤ 110 := by
    unfold back mid
    by_cases hd : s.d = true
    · rw [if_pos hd]; simp [lit_len]
    · rw [if_neg hd]
      have hv2 := hv
      unfold vs ana at hv2
      rw [if_neg hd] at hv2
      simp only [Bool.and_eq_true, decide_eq_true_eq] at hv2
      have hvc := hv2.2.2.1
      have : (C4p.enc s.c).length ≤ 86 := by
        rw [C4p.enc_len]
        split
        · rename_i h5
          have := (C4p.vld_tab hvc h5).2.1.2
          omega
        · omega
      unfold ext Sn.raw
      simp [lit_len]
      omega
  rw [show encS s = sealB (pay s) from rfl, seal_len, pay_len]
  omega
theorem dec_changed {s : Sn} (hv : vs s = true) {i : Nat} (h : i < (encS s).length) (y : UInt8) (hne : y ≠ (encS s)[i]) : decS ((encS s).set i y) = (noSn, 5) := by
  have hl := enc_len hv
  have h0 : Pl.sum8 (encS s) = 0 := sum8_sealed _
  unfold decS
  rw [List.length_set, if_neg (by omega), if_pos (sum_set h y h0 hne)]
theorem dec_cut (l : List UInt8) (k : Nat) (h : k < 9) : decS (l.take k) = (noSn, 4) := by
  unfold decS
  rw [if_pos (by rw [List.length_take]; omega)]
end Go.Proofs.Ytigooekimkkhaaa.Um
namespace Go.Proofs.Ytigooekimkkhaaa.C4v
open Go.RowKit Go.Proofs.Ytigooekimkkhaaa.Mem Go.Proofs.Ytigooekimkkhaaa.M3p Go.Proofs.Ytigooekimkkhaaa.C4p Go.Proofs.Ytigooekimkkhaaa.C4l
set_option maxRecDepth 100000
set_option maxHeartbeats 4000000

theorem csame_yes (f m b k1 k2 : Int) (s : Bool) (A A' : Option Addr) (n n' cp cp' : Nat) (l : List Pt) (w : World) (hsl : PSl w A n cp l) (hsl' : PSl w A' n' cp' l) :
    Calls Try.prog 56 #[.agg #[.int .i64 f, .bool s, .int .i64 m, .int .i64 b, .int .i64 k1, .int .i64 k2, .slice A n cp], .agg #[.int .i64 f, .bool s, .int .i64 m, .int .i64 b, .int .i64 k1, .int .i64 k2, .slice A' n' cp']] w fun e w' => e = .returned (.bool true) ∧ Below w.heap.size w w' := by
  obtain rfl : n' = n := hsl'.len.trans hsl.len.symm
  obtain ⟨w1, hw1⟩ : ∃ w1, w1 = (w.alloc (.cells #[.int .i64 f, .bool s, .int .i64 m, .int .i64 b, .int .i64 k1, .int .i64 k2, .slice A n' cp] 26)).alloc (.cells #[.int .i64 f, .bool s, .int .i64 m, .int .i64 b, .int .i64 k1, .int .i64 k2, .slice A' n' cp'] 26) := ⟨_, rfl⟩
  have hb1 : Below w.heap.size w w1 := by rw [hw1]; exact ((Below.refl _ _).alloc (Nat.le_refl _) _).alloc (by simp) _
  have hst2 : w1.heap[w.heap.size + 1]? = some (.cells #[.int .i64 f, .bool s, .int .i64 m, .int .i64 b, .int .i64 k1, .int .i64 k2, .slice A' n' cp'] 26 (0, 0)) := by
    rw [hw1]
    have := heap_alloc_new (w.alloc (.cells #[.int .i64 f, .bool s, .int .i64 m, .int .i64 b, .int .i64 k1, .int .i64 k2, .slice A n' cp] 26)) (.cells #[.int .i64 f, .bool s, .int .i64 m, .int .i64 b, .int .i64 k1, .int .i64 k2, .slice A' n' cp'] 26)
    simpa using this
  have hst1 : w1.heap[w.heap.size]? = some (.cells #[.int .i64 f, .bool s, .int .i64 m, .int .i64 b, .int .i64 k1, .int .i64 k2, .slice A n' cp] 26 (0, 0)) := by
    rw [hw1, Below.heap_alloc _ _ _ (by simp)]
    exact heap_alloc_new w _
  have e6 : w1.cell? ⟨w.heap.size, 6, none⟩ = some (.slice A n' cp) := by rw [cell_of_row w1 w.heap.size 6 _ _ _ hst1]; rfl
  have g6 : w1.cell? ⟨w.heap.size + 1, 6, none⟩ = some (.slice A' n' cp') := by rw [cell_of_row w1 (w.heap.size + 1) 6 _ _ _ hst2]; rfl
  have HS := Lib.hid (hsl.step hb1)
  have HS' := Lib.hid (hsl'.step hb1)
  have hnm : n' ≤ maxLen := Nat.le_trans hsl.cap hsl.max
  unfold maxLen at hnm
  have HLN := Lib.hid hsl.len
  clear hsl hsl' hst1 hst2
  go_enter Try.func56, Try.ntmps56
  go_wp2_with fail
  rw [← hw1]
  clear hw1
  go_loopw [5] (fun i wr => ∃ j d : Nat, j ≤ n' ∧ i = .int .i64 j ∧ wr = w1.drewN d) (fun i _ => n' - (intOf i).toNat)
  case atStart => exact ⟨0, 0, Nat.zero_le _, rfl, rfl⟩
  case round =>
    obtain ⟨j, d, hj, rfl, rfl⟩ := hrel
    by_cases hlt : j < n'
    · have hjl : j < l.length := by rw [← HLN.out]; exact hlt
      obtain ⟨a, q, rfl, hab, hq, hqb, hc0, hc1⟩ := prow_q HS.out.row hjl
      obtain ⟨a', q', rfl, hab', hq', hqb', hd0, hd1⟩ := prow_q HS'.out.row hjl
      go_wp2_with fail
      go_quiet (fail)
      all_goals go_wp2_with fail
      exact ⟨⟨j + 1, _, by omega, by go_num, rfl⟩, by simp [intOf]; omega⟩
    · go_wp2_with fail
      go_ret
      exact ⟨rfl, hb1.os, hb1.tape, hb1.output, hb1.size, hb1.block⟩
end Go.Proofs.Ytigooekimkkhaaa.C4v
namespace Go.Proofs.Ytigooekimkkhaaa.Tb
open Go.RowKit Go.Proofs.Ytigooekimkkhaaa.Mem Go.Proofs.Ytigooekimkkhaaa.F2p Go.Proofs.Ytigooekimkkhaaa.C4l Go.Proofs.Ytigooekimkkhaaa.Ta
set_option maxRecDepth 100000
set_option maxHeartbeats 1000000

theorem en_eqIn (W : World) (ei en : UInt8) : (Op.equalIn 10000 23 (.agg #[.int .u8 (ei.toNat : Int), .int .u8 (en.toNat : Int)]) (.agg #[.int .u8 (ei.toNat : Int), .int .u8 (en.toNat : Int)])).run Try.prog W = .ok true W := by
  go_simp
  try simp
theorem en_eql (W : World) (ei en : UInt8) : (binOp .eql 23 (.agg #[.int .u8 (ei.toNat : Int), .int .u8 (en.toNat : Int)]) (.agg #[.int .u8 (ei.toNat : Int), .int .u8 (en.toNat : Int)])).run Try.prog W = .ok (.bool true) W := by
  rw [run_eql_struct, en_eqIn]
  rfl
theorem en_guard (W : World) (x y : Operand) (ei en : UInt8) :
    (eqGuard .eql 23 x y (.agg #[.int .u8 (ei.toNat : Int), .int .u8 (en.toNat : Int)]) (.agg #[.int .u8 (ei.toNat : Int), .int .u8 (en.toNat : Int)])).run Try.prog W = .ok () W :=
  run_eqGuard_agg W .eql 23 x y _ _ Try.eqGuardType23
theorem same_p (s : Sn) (A A' : Option Addr) (n n' cp cp' : Nat) (w : World) (hsl : PSl w A n cp s.c.p) (hsl' : PSl w A' n' cp' s.c.p) : Calls Try.prog 27 #[.agg (cells s (.slice A n cp)), .agg (cells s (.slice A' n' cp'))] w fun e w' => e = .returned (.bool true) ∧ Below w.heap.size w w' := by
  obtain ⟨nu, ty, un, nm, ei, en, d, ⟨f, sg, m, b, k1, k2, p⟩, mx, r0, r1, r2, r3, r4, r5, hl, hu, st, av, dv, on, sm⟩ := s
  dsimp only at hsl hsl'
  unfold cells
  dsimp only
  have hb0 : Below w.heap.size w (w.alloc (.cells #[.int .u8 (nu.toNat : Int), .int .u8 (ty.toNat : Int), .int .u8 (un.toNat : Int), .string nm, .int .u8 (ei.toNat : Int), .int .u8 (en.toNat : Int), .bool d, .int .i64 f, .bool sg, .int .i64 m, .int .i64 b, .int .i64 k1, .int .i64 k2, (.slice A n cp), .int .u8 (mx.toNat : Int), .int .u8 (r0.toNat : Int), .int .u8 (r1.toNat : Int), .int .u8 (r2.toNat : Int), .int .u8 (r3.toNat : Int), .int .u8 (r4.toNat : Int), .int .u8 (r5.toNat : Int), .int .u8 (hl.toNat : Int), .int .u8 (hu.toNat : Int), .int .u16 (st : Int), .int .u16 (av : Int), .int .u16 (dv : Int), .bool on, .int .i64 sm] 32)) := (Below.refl _ _).alloc (Nat.le_refl _) _
  have hx0 : Bx (w.alloc (.cells #[.int .u8 (nu.toNat : Int), .int .u8 (ty.toNat : Int), .int .u8 (un.toNat : Int), .string nm, .int .u8 (ei.toNat : Int), .int .u8 (en.toNat : Int), .bool d, .int .i64 f, .bool sg, .int .i64 m, .int .i64 b, .int .i64 k1, .int .i64 k2, (.slice A n cp), .int .u8 (mx.toNat : Int), .int .u8 (r0.toNat : Int), .int .u8 (r1.toNat : Int), .int .u8 (r2.toNat : Int), .int .u8 (r3.toNat : Int), .int .u8 (r4.toNat : Int), .int .u8 (r5.toNat : Int), .int .u8 (hl.toNat : Int), .int .u8 (hu.toNat : Int), .int .u16 (st : Int), .int .u16 (av : Int), .int .u16 (dv : Int), .bool on, .int .i64 sm] 32)) w.heap.size ⟨nu, ty, un, nm, ei, en, d, ⟨f, sg, m, b, k1, k2, p⟩, mx, r0, r1, r2, r3, r4, r5, hl, hu, st, av, dv, on, sm⟩ (.slice A n cp) := Bx.new
  have hz0 : (w.alloc (.cells #[.int .u8 (nu.toNat : Int), .int .u8 (ty.toNat : Int), .int .u8 (un.toNat : Int), .string nm, .int .u8 (ei.toNat : Int), .int .u8 (en.toNat : Int), .bool d, .int .i64 f, .bool sg, .int .i64 m, .int .i64 b, .int .i64 k1, .int .i64 k2, (.slice A n cp), .int .u8 (mx.toNat : Int), .int .u8 (r0.toNat : Int), .int .u8 (r1.toNat : Int), .int .u8 (r2.toNat : Int), .int .u8 (r3.toNat : Int), .int .u8 (r4.toNat : Int), .int .u8 (r5.toNat : Int), .int .u8 (hl.toNat : Int), .int .u8 (hu.toNat : Int), .int .u16 (st : Int), .int .u16 (av : Int), .int .u16 (dv : Int), .bool on, .int .i64 sm] 32)).heap.size = w.heap.size + 1 := by simp
  generalize hw0 : w.alloc (.cells #[.int .u8 (nu.toNat : Int), .int .u8 (ty.toNat : Int), .int .u8 (un.toNat : Int), .string nm, .int .u8 (ei.toNat : Int), .int .u8 (en.toNat : Int), .bool d, .int .i64 f, .bool sg, .int .i64 m, .int .i64 b, .int .i64 k1, .int .i64 k2, (.slice A n cp), .int .u8 (mx.toNat : Int), .int .u8 (r0.toNat : Int), .int .u8 (r1.toNat : Int), .int .u8 (r2.toNat : Int), .int .u8 (r3.toNat : Int), .int .u8 (r4.toNat : Int), .int .u8 (r5.toNat : Int), .int .u8 (hl.toNat : Int), .int .u8 (hu.toNat : Int), .int .u16 (st : Int), .int .u16 (av : Int), .int .u16 (dv : Int), .bool on, .int .i64 sm] 32) = w0 at *
  have hb1 : Below w0.heap.size w0 (w0.alloc (.cells #[.int .u8 (nu.toNat : Int), .int .u8 (ty.toNat : Int), .int .u8 (un.toNat : Int), .string nm, .int .u8 (ei.toNat : Int), .int .u8 (en.toNat : Int), .bool d, .int .i64 f, .bool sg, .int .i64 m, .int .i64 b, .int .i64 k1, .int .i64 k2, (.slice A' n' cp'), .int .u8 (mx.toNat : Int), .int .u8 (r0.toNat : Int), .int .u8 (r1.toNat : Int), .int .u8 (r2.toNat : Int), .int .u8 (r3.toNat : Int), .int .u8 (r4.toNat : Int), .int .u8 (r5.toNat : Int), .int .u8 (hl.toNat : Int), .int .u8 (hu.toNat : Int), .int .u16 (st : Int), .int .u16 (av : Int), .int .u16 (dv : Int), .bool on, .int .i64 sm] 32)) := (Below.refl _ _).alloc (Nat.le_refl _) _
  have hx1 : Bx (w0.alloc (.cells #[.int .u8 (nu.toNat : Int), .int .u8 (ty.toNat : Int), .int .u8 (un.toNat : Int), .string nm, .int .u8 (ei.toNat : Int), .int .u8 (en.toNat : Int), .bool d, .int .i64 f, .bool sg, .int .i64 m, .int .i64 b, .int .i64 k1, .int .i64 k2, (.slice A' n' cp'), .int .u8 (mx.toNat : Int), .int .u8 (r0.toNat : Int), .int .u8 (r1.toNat : Int), .int .u8 (r2.toNat : Int), .int .u8 (r3.toNat : Int), .int .u8 (r4.toNat : Int), .int .u8 (r5.toNat : Int), .int .u8 (hl.toNat : Int), .int .u8 (hu.toNat : Int), .int .u16 (st : Int), .int .u16 (av : Int), .int .u16 (dv : Int), .bool on, .int .i64 sm] 32)) w0.heap.size ⟨nu, ty, un, nm, ei, en, d, ⟨f, sg, m, b, k1, k2, p⟩, mx, r0, r1, r2, r3, r4, r5, hl, hu, st, av, dv, on, sm⟩ (.slice A' n' cp') := Bx.new
  have hxx := hx0.below (hb1.mono (by omega))
  have hbb := hb0.trans (hb1.mono hb0.size)
  have H1 := Lib.hid fun (u : World) (hu : Below w.heap.size w u) => C4v.csame_yes f m b k1 k2 sg A A' n n' cp cp' p u (hsl.step hu) (hsl'.step hu)
  clear hsl hsl'
  rw [hz0] at hx1
  generalize hw1 : w0.alloc (.cells #[.int .u8 (nu.toNat : Int), .int .u8 (ty.toNat : Int), .int .u8 (un.toNat : Int), .string nm, .int .u8 (ei.toNat : Int), .int .u8 (en.toNat : Int), .bool d, .int .i64 f, .bool sg, .int .i64 m, .int .i64 b, .int .i64 k1, .int .i64 k2, (.slice A' n' cp'), .int .u8 (mx.toNat : Int), .int .u8 (r0.toNat : Int), .int .u8 (r1.toNat : Int), .int .u8 (r2.toNat : Int), .int .u8 (r3.toNat : Int), .int .u8 (r4.toNat : Int), .int .u8 (r5.toNat : Int), .int .u8 (hl.toNat : Int), .int .u8 (hu.toNat : Int), .int .u16 (st : Int), .int .u16 (av : Int), .int .u16 (dv : Int), .bool on, .int .i64 sm] 32) = w1 at *
  obtain ⟨z0, z1, z2, z3, z4, z5, z6, z7, z8, z9, z10, z11, z12, z13, z14, z15, z16, z17, z18, z19, z20, z21, z22, z23, z24, z25, z26, z27⟩ := hxx.all
  obtain ⟨y0, y1, y2, y3, y4, y5, y6, y7, y8, y9, y10, y11, y12, y13, y14, y15, y16, y17, y18, y19, y20, y21, y22, y23, y24, y25, y26, y27⟩ := hx1.all
  have hq1 : ∀ W : World, (binOp .eql 23 (.agg #[.int .u8 (ei.toNat : Int), .int .u8 (en.toNat : Int)]) (.agg #[.int .u8 (ei.toNat : Int), .int .u8 (en.toNat : Int)])).run Try.prog W = .ok (.bool true) W := fun W => en_eql W ei en
  have hq2 : ∀ W x y, (eqGuard .eql 23 x y (.agg #[.int .u8 (ei.toNat : Int), .int .u8 (en.toNat : Int)]) (.agg #[.int .u8 (ei.toNat : Int), .int .u8 (en.toNat : Int)])).run Try.prog W = .ok () W := fun W x y => en_guard W x y ei en
  go_enter Try.func27, Try.ntmps27
  go_wp2_with (first | rw [hw0] | rw [hw1])
  clear z0 z1 z2 z3 z4 z5 z6 z7 z8 z9 z10 z11 z12 z13 z14 z15 z16 z17 z18 z19 z20 z21 z22 z23 z24 z25 z26 z27
  clear y0 y1 y2 y3 y4 y5 y6 y7 y8 y9 y10 y11 y12 y13 y14 y15 y16 y17 y18 y19 y20 y21 y22 y23 y24 y25 y26 y27
  refine (H1.out _ hbb).mono ?_
  rintro e w2 ⟨rfl, hb2⟩
  have hxx2 := hxx.below hb2
  have hx2 := hx1.below hb2
  have hbb2 := hbb.trans (hb2.mono hbb.size)
  clear hxx hx1 hb2 H1 hq1 hq2
  obtain ⟨z0, z1, z2, z3, z4, z5, z6, z7, z8, z9, z10, z11, z12, z13, z14, z15, z16, z17, z18, z19, z20, z21, z22, z23, z24, z25, z26, z27⟩ := hxx2.all
  obtain ⟨y0, y1, y2, y3, y4, y5, y6, y7, y8, y9, y10, y11, y12, y13, y14, y15, y16, y17, y18, y19, y20, y21, y22, y23, y24, y25, y26, y27⟩ := hx2.all
  have hq1 : ∀ W : World, (binOp .eql 29 (.agg #[.int .u8 (mx.toNat : Int), .int .u8 (r0.toNat : Int), .int .u8 (r1.toNat : Int), .int .u8 (r2.toNat : Int), .int .u8 (r3.toNat : Int), .int .u8 (r4.toNat : Int), .int .u8 (r5.toNat : Int)]) (.agg #[.int .u8 (mx.toNat : Int), .int .u8 (r0.toNat : Int), .int .u8 (r1.toNat : Int), .int .u8 (r2.toNat : Int), .int .u8 (r3.toNat : Int), .int .u8 (r4.toNat : Int), .int .u8 (r5.toNat : Int)])).run Try.prog W = .ok (.bool true) W := fun W => by have := th_eql W mx r0 r1 r2 r3 r4 r5 mx r0 r1 r2 r3 r4 r5; rw [show decide (mx = mx ∧ r0 = r0 ∧ r1 = r1 ∧ r2 = r2 ∧ r3 = r3 ∧ r4 = r4 ∧ r5 = r5) = true from decide_eq_true ⟨rfl, rfl, rfl, rfl, rfl, rfl, rfl⟩] at this; exact this
  have hq2 : ∀ W x y, (eqGuard .eql 29 x y (.agg #[.int .u8 (mx.toNat : Int), .int .u8 (r0.toNat : Int), .int .u8 (r1.toNat : Int), .int .u8 (r2.toNat : Int), .int .u8 (r3.toNat : Int), .int .u8 (r4.toNat : Int), .int .u8 (r5.toNat : Int)]) (.agg #[.int .u8 (mx.toNat : Int), .int .u8 (r0.toNat : Int), .int .u8 (r1.toNat : Int), .int .u8 (r2.toNat : Int), .int .u8 (r3.toNat : Int), .int .u8 (r4.toNat : Int), .int .u8 (r5.toNat : Int)])).run Try.prog W = .ok () W := fun W x y => th_guard W x y mx r0 r1 r2 r3 r4 r5 mx r0 r1 r2 r3 r4 r5
  go_wp2_with fail
  go_ret
  exact ⟨rfl, hbb2⟩
end Go.Proofs.Ytigooekimkkhaaa.Tb
