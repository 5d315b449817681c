/- Walks: the program's sensor records: Decode. -/
import Derived.Test.YtafoaonkjcfbaaaK62
import Derived.Test.YtafoaonkjcfbaaaK37
namespace Go.Proofs.Ytafoaonkjcfbaaa.Ua
open Go.RowKit Go.Proofs.Ytafoaonkjcfbaaa.Mem Go.Proofs.Ytafoaonkjcfbaaa.F2p Go.Proofs.Ytafoaonkjcfbaaa.C4l Go.Proofs.Ytafoaonkjcfbaaa.Ta Go.Proofs.Ytafoaonkjcfbaaa.Tb
set_option maxRecDepth 100000
set_option maxHeartbeats 2000000

theorem rds_nm (x : List UInt8) : (rdS x).1.nm.size ≤ 255 := by
  have hb : (beg x).nm.size ≤ 255 := by
    show ((x.drop 8).take (by_ x 7).toNat).toArray.size ≤ 255
    rw [List.size_toArray, List.length_take]
    have := (by_ x 7).toNat_lt
    omega
  have h0 : noSn.nm.size ≤ 255 := by decide
  unfold rdS
  split
  · exact h0
  · split
    · exact h0
    · split
      · unfold rdD
        split
        · exact h0
        · exact hb
      · unfold rdA
        split
        · exact h0
        · split
          · exact h0
          · exact hb
theorem dec_p (A : Option Addr) (n c : Nat) (l : List UInt8) (w : World) (hsl : Sl w A n c l) (hn : n ≤ 100000) :
    Calls Try.prog 36 #[.slice A n c] w (Rdd w (decS l)) := by
  have hb1 : Below w.heap.size w (w.alloc (.cells #[.int .u8 0, .int .u8 0, .int .u8 0, .string ⟨#[]⟩, .int .u8 0, .int .u8 0, .bool false, .int .i64 0, .bool false, .int .i64 0, .int .i64 0, .int .i64 0, .int .i64 0, .slice none 0 0, .int .u8 0, .int .u8 0, .int .u8 0, .int .u8 0, .int .u8 0, .int .u8 0, .int .u8 0, .int .u8 0, .int .u8 0, .int .u16 0, .int .u16 0, .int .u16 0, .bool false, .int .i64 0] 59)) := (Below.refl _ _).alloc (Nat.le_refl _) _
  have hz1 := Bx.zero w
  have hs1 := hsl.step hb1
  have hl := hs1.len
  generalize hW : w.alloc (.cells #[.int .u8 0, .int .u8 0, .int .u8 0, .string ⟨#[]⟩, .int .u8 0, .int .u8 0, .bool false, .int .i64 0, .bool false, .int .i64 0, .int .i64 0, .int .i64 0, .int .i64 0, .slice none 0 0, .int .u8 0, .int .u8 0, .int .u8 0, .int .u8 0, .int .u8 0, .int .u8 0, .int .u8 0, .int .u8 0, .int .u8 0, .int .u16 0, .int .u16 0, .int .u16 0, .bool false, .int .i64 0] 59) = w1 at *
  by_cases h9 : n < 9
  · have hR : decS l = (noSn, 4) := by unfold decS; rw [if_pos (by omega)]
    rw [hR]
    have hk : decide ((n : Int) < 9) = true := by simp; omega
    clear hR hl hs1 hsl
    go_enter Try.func36, Try.ntmps36
    go_wp2_with (refine wpList_store_bx rfl (.tmp 2) (.tmp 10) rfl w.heap.size noSn noSn (.slice none 0 0) (.slice none 0 0) rfl rfl rfl hz1 ?_; intro w9 hx9 hg9; refine Hid.out ?_)
    refine Lib.hid ?_
    have hb9 := (hb1).grown hg9 (hb1).size (fun k hk => by injection hk; omega)
    go_wp2_with fail
    exact out2 Try.results36 rfl rfl rfl hx9 ⟨none, 0, 0, rfl, PSl.none, hb9⟩
  have hk : ¬ (n : Int) < 9 := by omega
  have hO := Wc.open8_any A n c l w1 hs1.len hs1.row hs1.cap hn
  have ho8 : Wc.open8 l = if Pl.sum8 l ≠ 0 then (5, []) else (0, l.take (l.length - 1)) := by unfold Wc.open8; rw [if_neg (by omega)]
  by_cases hs : Pl.sum8 l ≠ 0
  · have hR : decS l = (noSn, 5) := by unfold decS; rw [if_neg (by omega), if_pos hs]
    rw [if_pos hs] at ho8
    rw [ho8] at hO
    rw [hR]
    replace hO := Lib.hid hO
    clear hR hl hs1 hsl ho8
    go_enter Try.func36, Try.ntmps36
    go_wp2_with fail
    refine hO.out.mono ?_
    rintro e w2 ⟨v, rfl, ho2, hb2⟩
    obtain ⟨A2, n2', c2, rfl, -⟩ := Sl.of_own ho2
    have hz2 := hz1.below hb2
    have hbb2 := hb1.trans (hb2.mono hb1.size)
    go_wp2_with (refine wpList_store_bx rfl (.tmp 2) (.tmp 18) rfl w.heap.size noSn noSn (.slice none 0 0) (.slice none 0 0) rfl rfl rfl hz2 ?_; intro w9 hx9 hg9; refine Hid.out ?_)
    refine Lib.hid ?_
    have hb9 := (hbb2).grown hg9 (hbb2).size (fun k hk => by injection hk; omega)
    go_wp2_with fail
    exact out2 Try.results36 rfl rfl rfl hx9 ⟨none, 0, 0, rfl, PSl.none, hb9⟩
  rw [if_neg hs] at ho8
  rw [ho8] at hO
  replace hO := Lib.hid hO
  have hR0 : decS l = if (rdS (l.take (l.length - 1))).2 ≠ 0 then (noSn, (rdS (l.take (l.length - 1))).2) else if vs (rdS (l.take (l.length - 1))).1 = true then ((rdS (l.take (l.length - 1))).1, 0) else (noSn, 1) := by
    show (if l.length < 9 then (noSn, 4) else if Pl.sum8 l ≠ 0 then (noSn, 5) else _) = _
    rw [if_neg (by omega), if_neg hs]
  have hxl : (l.take (l.length - 1)).length = n - 1 := by rw [List.length_take]; omega
  have hnm := rds_nm (l.take (l.length - 1))
  have HRD := Lib.hid fun (A2 : Option Addr) (n2 c2 : Nat) (u : World) (hu : Sl u A2 n2 c2 (l.take (l.length - 1))) => read_p A2 n2 c2 (l.take (l.length - 1)) u hu (by rw [hu.len]; omega) (by rw [hu.len]; omega)
  have HRX := Lib.hid hR0
  generalize l.take (l.length - 1) = x at *
  generalize hRS : rdS x = RS at *
  obtain ⟨RS, E⟩ := RS
  dsimp only at hR0 hnm
  clear hl hs1 hsl ho8 hxl hs h9 hRS HRX
  rw [hR0]
  by_cases hE : E = 0
  case neg =>
    rw [if_pos hE]
    have hq : ((E : Int) != 0) = true := by rw [bne_iff_ne]; omega
    clear hR0
    go_enter Try.func36, Try.ntmps36
    go_wp2_with fail
    refine hO.out.mono ?_
    rintro e w2 ⟨v, rfl, ho2, hb2⟩
    obtain ⟨A2, n2', c2, rfl, hs2⟩ := Sl.of_own ho2
    have HS2 := Lib.hid hs2
    have hz2 := hz1.below hb2
    have hbb2 := hb1.trans (hb2.mono hb1.size)
    clear hs2 ho2
    go_wp2_with fail
    refine (HRD.out _ _ _ _ HS2.out).mono ?_
    rintro e w3 ⟨PA, pn, pc, rfl, -, hb3⟩
    have hz3 := hz2.below hb3
    have hbb3 := hbb2.trans (hb3.mono hbb2.size)
    have hq3 := Bx.zero w3
    have hz4 := hz3.alloc (.cells #[.int .u8 0, .int .u8 0, .int .u8 0, .string ⟨#[]⟩, .int .u8 0, .int .u8 0, .bool false, .int .i64 0, .bool false, .int .i64 0, .int .i64 0, .int .i64 0, .int .i64 0, .slice none 0 0, .int .u8 0, .int .u8 0, .int .u8 0, .int .u8 0, .int .u8 0, .int .u8 0, .int .u8 0, .int .u8 0, .int .u8 0, .int .u16 0, .int .u16 0, .int .u16 0, .bool false, .int .i64 0] 59)
    have hb4 := hbb3.alloc hbb3.size (.cells #[.int .u8 0, .int .u8 0, .int .u8 0, .string ⟨#[]⟩, .int .u8 0, .int .u8 0, .bool false, .int .i64 0, .bool false, .int .i64 0, .int .i64 0, .int .i64 0, .int .i64 0, .slice none 0 0, .int .u8 0, .int .u8 0, .int .u8 0, .int .u8 0, .int .u8 0, .int .u8 0, .int .u8 0, .int .u8 0, .int .u8 0, .int .u16 0, .int .u16 0, .int .u16 0, .bool false, .int .i64 0] 59)
    have hF := hz3.lt
    go_wp2_with (refine wpList_store_bx rfl (.tmp 6) (.tmp 23) rfl w3.heap.size RS noSn (.slice PA pn pc) (.slice none 0 0) rfl rfl rfl hq3 ?_; intro w5 hx5 hg5; refine Hid.out ?_)
    refine Lib.hid ?_
    have hz5 := hz4.kept hg5 (fun e => by injection e; omega)
    have hb5 := hb4.grown hg5 hb4.size (fun k hk => by injection hk; omega)
    go_wp2_with (refine wpList_store_bx rfl (.tmp 2) (.tmp 27) rfl w.heap.size noSn noSn (.slice none 0 0) (.slice none 0 0) rfl rfl rfl hz5 ?_; intro w9 hx9 hg9; refine Hid.out ?_)
    refine Lib.hid ?_
    have hb9 := (hb5).grown hg9 (hb5).size (fun k hk => by injection hk; omega)
    go_wp2_with fail
    exact out2 Try.results36 rfl rfl rfl hx9 ⟨none, 0, 0, rfl, PSl.none, hb9⟩
  subst hE
  rw [if_neg (by simp)]
  have HV := Lib.hid fun (A2 : Option Addr) (n2 c2 : Nat) (u : World) (hu : PSl u A2 n2 c2 RS.c.p) => valid_p RS A2 n2 c2 u hu (by unfold maxLen; omega)
  clear hR0 hnm
  cases hvs : vs RS
  · rw [if_neg (by simp)]
    rw [hvs] at HV
    go_enter Try.func36, Try.ntmps36
    go_wp2_with fail
    refine hO.out.mono ?_
    rintro e w2 ⟨v, rfl, ho2, hb2⟩
    obtain ⟨A2, n2', c2, rfl, hs2⟩ := Sl.of_own ho2
    have HS2 := Lib.hid hs2
    have hz2 := hz1.below hb2
    have hbb2 := hb1.trans (hb2.mono hb1.size)
    clear hs2 ho2
    go_wp2_with fail
    refine (HRD.out _ _ _ _ HS2.out).mono ?_
    rintro e w3 ⟨PA, pn, pc, rfl, hp3, hb3⟩
    have hz3 := hz2.below hb3
    have hbb3 := hbb2.trans (hb3.mono hbb2.size)
    have hq3 := Bx.zero w3
    have hz4 := hz3.alloc (.cells #[.int .u8 0, .int .u8 0, .int .u8 0, .string ⟨#[]⟩, .int .u8 0, .int .u8 0, .bool false, .int .i64 0, .bool false, .int .i64 0, .int .i64 0, .int .i64 0, .int .i64 0, .slice none 0 0, .int .u8 0, .int .u8 0, .int .u8 0, .int .u8 0, .int .u8 0, .int .u8 0, .int .u8 0, .int .u8 0, .int .u8 0, .int .u16 0, .int .u16 0, .int .u16 0, .bool false, .int .i64 0] 59)
    have hb4 := hbb3.alloc hbb3.size (.cells #[.int .u8 0, .int .u8 0, .int .u8 0, .string ⟨#[]⟩, .int .u8 0, .int .u8 0, .bool false, .int .i64 0, .bool false, .int .i64 0, .int .i64 0, .int .i64 0, .int .i64 0, .slice none 0 0, .int .u8 0, .int .u8 0, .int .u8 0, .int .u8 0, .int .u8 0, .int .u8 0, .int .u8 0, .int .u8 0, .int .u8 0, .int .u16 0, .int .u16 0, .int .u16 0, .bool false, .int .i64 0] 59)
    have hF := hz3.lt
    have hp4 := hp3.step ((Below.refl w3.heap.size w3).alloc (Nat.le_refl _) (.cells #[.int .u8 0, .int .u8 0, .int .u8 0, .string ⟨#[]⟩, .int .u8 0, .int .u8 0, .bool false, .int .i64 0, .bool false, .int .i64 0, .int .i64 0, .int .i64 0, .int .i64 0, .slice none 0 0, .int .u8 0, .int .u8 0, .int .u8 0, .int .u8 0, .int .u8 0, .int .u8 0, .int .u8 0, .int .u8 0, .int .u8 0, .int .u16 0, .int .u16 0, .int .u16 0, .bool false, .int .i64 0] 59))
    go_wp2_with (refine wpList_store_bx rfl (.tmp 6) (.tmp 23) rfl w3.heap.size RS noSn (.slice PA pn pc) (.slice none 0 0) rfl rfl rfl hq3 ?_; intro w5 hx5 hg5; refine Hid.out ?_)
    refine Lib.hid ?_
    have hz5 := hz4.kept hg5 (fun e => by injection e; omega)
    have hb5 := hb4.grown hg5 hb4.size (fun k hk => by injection hk; omega)
    have hp5 := psl_far hp4 hq3 ⟨_, _, _, rfl⟩ hg5
    have HP5 := Lib.hid hp5
    clear hp5 hp4 hp3 hg5
    go_wp2_with (refine wpList_load_bx rfl (.tmp 6) rfl _ _ _ rfl hx5 ?_)
    refine (HV.out _ _ _ _ HP5.out).mono ?_
    rintro e w6 ⟨rfl, hb6⟩
    have hz6 := hz5.below hb6
    have hbb6 := hb5.trans (hb6.mono hb5.size)
    go_wp2_with (refine wpList_store_bx rfl (.tmp 2) (.tmp 32) rfl w.heap.size noSn noSn (.slice none 0 0) (.slice none 0 0) rfl rfl rfl hz6 ?_; intro w9 hx9 hg9; refine Hid.out ?_)
    refine Lib.hid ?_
    have hb9 := (hbb6).grown hg9 (hbb6).size (fun k hk => by injection hk; omega)
    go_wp2_with fail
    exact out2 Try.results36 rfl rfl rfl hx9 ⟨none, 0, 0, rfl, PSl.none, hb9⟩
  · rw [if_pos rfl]
    rw [hvs] at HV
    go_enter Try.func36, Try.ntmps36
    go_wp2_with fail
    refine hO.out.mono ?_
    rintro e w2 ⟨v, rfl, ho2, hb2⟩
    obtain ⟨A2, n2', c2, rfl, hs2⟩ := Sl.of_own ho2
    have HS2 := Lib.hid hs2
    have hz2 := hz1.below hb2
    have hbb2 := hb1.trans (hb2.mono hb1.size)
    clear hs2 ho2
    go_wp2_with fail
    refine (HRD.out _ _ _ _ HS2.out).mono ?_
    rintro e w3 ⟨PA, pn, pc, rfl, hp3, hb3⟩
    have hz3 := hz2.below hb3
    have hbb3 := hbb2.trans (hb3.mono hbb2.size)
    have hq3 := Bx.zero w3
    have hz4 := hz3.alloc (.cells #[.int .u8 0, .int .u8 0, .int .u8 0, .string ⟨#[]⟩, .int .u8 0, .int .u8 0, .bool false, .int .i64 0, .bool false, .int .i64 0, .int .i64 0, .int .i64 0, .int .i64 0, .slice none 0 0, .int .u8 0, .int .u8 0, .int .u8 0, .int .u8 0, .int .u8 0, .int .u8 0, .int .u8 0, .int .u8 0, .int .u8 0, .int .u16 0, .int .u16 0, .int .u16 0, .bool false, .int .i64 0] 59)
    have hb4 := hbb3.alloc hbb3.size (.cells #[.int .u8 0, .int .u8 0, .int .u8 0, .string ⟨#[]⟩, .int .u8 0, .int .u8 0, .bool false, .int .i64 0, .bool false, .int .i64 0, .int .i64 0, .int .i64 0, .int .i64 0, .slice none 0 0, .int .u8 0, .int .u8 0, .int .u8 0, .int .u8 0, .int .u8 0, .int .u8 0, .int .u8 0, .int .u8 0, .int .u8 0, .int .u16 0, .int .u16 0, .int .u16 0, .bool false, .int .i64 0] 59)
    have hF := hz3.lt
    have hp4 := hp3.step ((Below.refl w3.heap.size w3).alloc (Nat.le_refl _) (.cells #[.int .u8 0, .int .u8 0, .int .u8 0, .string ⟨#[]⟩, .int .u8 0, .int .u8 0, .bool false, .int .i64 0, .bool false, .int .i64 0, .int .i64 0, .int .i64 0, .int .i64 0, .slice none 0 0, .int .u8 0, .int .u8 0, .int .u8 0, .int .u8 0, .int .u8 0, .int .u8 0, .int .u8 0, .int .u8 0, .int .u8 0, .int .u16 0, .int .u16 0, .int .u16 0, .bool false, .int .i64 0] 59))
    go_wp2_with (refine wpList_store_bx rfl (.tmp 6) (.tmp 23) rfl w3.heap.size RS noSn (.slice PA pn pc) (.slice none 0 0) rfl rfl rfl hq3 ?_; intro w5 hx5 hg5; refine Hid.out ?_)
    refine Lib.hid ?_
    have hz5 := hz4.kept hg5 (fun e => by injection e; omega)
    have hb5 := hb4.grown hg5 hb4.size (fun k hk => by injection hk; omega)
    have hp5 := psl_far hp4 hq3 ⟨_, _, _, rfl⟩ hg5
    have HP5 := Lib.hid hp5
    clear hp5 hp4 hp3 hg5
    go_wp2_with (refine wpList_load_bx rfl (.tmp 6) rfl _ _ _ rfl hx5 ?_)
    refine (HV.out _ _ _ _ HP5.out).mono ?_
    rintro e w6 ⟨rfl, hb6⟩
    have hz6 := hz5.below hb6
    have hx6 := hx5.below hb6
    have HP6 := Lib.hid (HP5.out.step hb6)
    have hbb6 := hb5.trans (hb6.mono hb5.size)
    go_wp2_with (first
      | (refine wpList_load_bx rfl (.tmp 6) rfl _ _ _ rfl hx6 ?_)
      | (refine wpList_store_bx rfl (.tmp 2) (.tmp 33) rfl w.heap.size RS noSn (.slice PA pn pc) (.slice none 0 0) rfl rfl rfl hz6 ?_; intro w9 hx9 hg9; refine Hid.out ?_))
    refine Lib.hid ?_
    have hb9 := hbb6.grown hg9 hbb6.size (fun k hk => by injection hk; omega)
    have hp9 := psl_far HP6.out hz6 ⟨_, _, _, rfl⟩ hg9
    go_wp2_with fail
    exact out2 Try.results36 rfl rfl rfl hx9 ⟨PA, pn, pc, rfl, hp9, hb9⟩
end Go.Proofs.Ytafoaonkjcfbaaa.Ua
