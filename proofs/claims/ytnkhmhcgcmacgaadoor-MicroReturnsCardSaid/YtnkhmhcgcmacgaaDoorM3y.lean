/- Walks: cutting a text at its sign and at its point. -/
import Derived.Test.YtnkhmhcgcmacgaaDoorM3x
import Derived.Test.YtnkhmhcgcmacgaaDoorM3u
import Derived.Lib.Bytealg
import Derived.Lib.Walk
namespace Go.Proofs.YtnkhmhcgcmacgaaDoor.M3w
open Go.RowKit Go.Proofs.YtnkhmhcgcmacgaaDoor.Mem Go.Proofs.YtnkhmhcgcmacgaaDoor.M3p Go.Proofs.YtnkhmhcgcmacgaaDoor.M3r Go.Proofs.YtnkhmhcgcmacgaaDoor.F2p
set_option maxRecDepth 100000
set_option maxHeartbeats 1000000

theorem bl_inj {a b : ByteArray} (h : bl a = bl b) : a = b := by rw [← mk_bl a, ← mk_bl b, h]
theorem bl_extract (s : ByteArray) (a b : Nat) : bl (s.extract a b) = ((bl s).drop a).take (b - a) := by
  unfold bl
  rw [ByteArray.data_extract, Array.toList_extract]
theorem toList_bl (s : ByteArray) : s.toList = bl s := ByteArray.toList_eq s
theorem cutp_yes (s t : ByteArray) (w : World) (h : bl s = 45 :: bl t) :
    Calls Tryd.prog 39 #[.string s, .string ⟨#[45]⟩] w fun e w' => e = .returned (.tuple #[.string t, .bool true]) ∧ w = w' := by
  have hs : 1 ≤ s.size := by rw [← bl_len, h]; simp
  have h1 : ((s.extract 0 1).toList == [45]) = true := by rw [toList_bl, bl_extract, h]; rfl
  have h2 : s.extract 1 s.size = t := bl_inj (by rw [bl_extract, ← bl_len, h]; simp)
  clear h
  go_enter Tryd.func39, Tryd.ntmps39
  go_wp2
  go_ret2
  exact ⟨rfl, rfl⟩
theorem cutp_no (s : ByteArray) (w : World) (h : (bl s).head? ≠ some 45) :
    Calls Tryd.prog 39 #[.string s, .string ⟨#[45]⟩] w fun e w' => e = .returned (.tuple #[.string s, .bool false]) ∧ w = w' := by
  by_cases hs : 1 ≤ s.size
  · have h1 : ((s.extract 0 1).toList == [45]) = false := by
      rw [toList_bl, bl_extract, beq_eq_false_iff_ne]
      intro e
      refine h ?_
      rcases hb : bl s with _ | ⟨x, r⟩
      · rw [hb] at e; simp at e
      · rw [hb] at e; simp at e; rw [e]; rfl
    clear h
    go_enter Tryd.func39, Tryd.ntmps39
    go_wp2
    go_ret2
    exact ⟨rfl, rfl⟩
  · clear h
    go_enter Tryd.func39, Tryd.ntmps39
    go_wp2
    go_ret2
    exact ⟨rfl, rfl⟩
theorem index_no {l : List UInt8} (h : ∀ x ∈ l, notpt x = true) : Lib.indexByte l 46 = -1 := by
  induction l with
  | nil => rfl
  | cons a l ih =>
    have ha := h a (by simp)
    have hne : (a == 46) = false := by
      rw [beq_eq_false_iff_ne]
      intro e; subst e
      revert ha; decide
    rw [Lib.indexByte, hne, ih (fun x hx => h x (by simp [hx]))]
    rfl
theorem index_yes {i : List UInt8} (f : List UInt8) (h : ∀ x ∈ i, notpt x = true) : Lib.indexByte (i ++ 46 :: f) 46 = (i.length : Int) := by
  induction i with
  | nil => rfl
  | cons a l ih =>
    have ha := h a (by simp)
    have hne : (a == 46) = false := by
      rw [beq_eq_false_iff_ne]
      intro e; subst e
      revert ha; decide
    rw [List.cons_append, Lib.indexByte, hne, ih (fun x hx => h x (by simp [hx]))]
    have : (((l.length : Int)) == -1) = false := by rw [beq_eq_false_iff_ne]; omega
    rw [if_neg (by simp), this, if_neg (by simp), List.length_cons]
    omega
theorem idx_p (s : ByteArray) (w : World) :
    Calls Tryd.prog 53 #[.string s, .int .u8 46] w fun e w' => e = .returned (.int .i64 (Lib.indexByte (bl s) 46)) ∧ w = w' := by
  go_enter Tryd.func53, Tryd.ntmps53
  go_wp2
  rw [run_callFunc_extern Tryd.func61 (by kernel_rfl) (by kernel_rfl) (by kernel_rfl) (e := Extern.BytealgIndexByte.indexByte) (by kernel_rfl), Lib.run_indexByteString]
  simp only [Result.andThen]
  rw [Oper.upon_value]
  go_wp2
  go_ret
  exact ⟨rfl, rfl⟩
theorem index_p (s : ByteArray) (w : World) :
    Calls Tryd.prog 51 #[.string s, .string ⟨#[46]⟩] w fun e w' => e = .returned (.int .i64 (Lib.indexByte (bl s) 46)) ∧ w = w' := by
  have h46 : ((⟨#[46]⟩ : ByteArray)[0].toNat : Int) = 46 := by decide
  by_cases hs : ([46] == s.toList) = true
  · have h0 : Lib.indexByte (bl s) 46 = 0 := by rw [← toList_bl, ← beq_iff_eq.1 hs]; rfl
    rw [h0]
    clear h0
    go_enter Tryd.func51, Tryd.ntmps51
    go_wp2_with fail
    go_ret
    exact ⟨rfl, rfl⟩
  · rw [Bool.not_eq_true] at hs
    go_enter Tryd.func51, Tryd.ntmps51
    go_wp2_with fail
    refine (idx_p _ _).mono ?_
    rintro e w' ⟨rfl, rfl⟩
    go_wp2_with fail
    go_ret
    exact ⟨rfl, rfl⟩
theorem cut_no (s : ByteArray) (w : World) (h : ∀ x ∈ bl s, notpt x = true) :
    Calls Tryd.prog 40 #[.string s, .string ⟨#[46]⟩] w fun e w' => e = .returned (.tuple #[.string s, .string ⟨#[]⟩, .bool false]) ∧ w = w' := by
  have hc := Lib.hid (fun u => by have := index_p s u; rw [index_no h] at this; exact this)
  clear h
  go_enter Tryd.func40, Tryd.ntmps40
  go_wp2_with (first | (go_at_call 51; refine (hc.out _).mono ?_; rintro e w' ⟨rfl, rfl⟩) | go_in)
  go_ret3
  exact ⟨rfl, rfl⟩
theorem cut_yes (s a b : ByteArray) (w : World) (h : bl s = bl a ++ 46 :: bl b) (ha : ∀ x ∈ bl a, notpt x = true) (hs : s.size ≤ 100000) :
    Calls Tryd.prog 40 #[.string s, .string ⟨#[46]⟩] w fun e w' => e = .returned (.tuple #[.string a, .string b, .bool true]) ∧ ∃ k, w' = w.drewN k := by
  have hc := Lib.hid (fun u => by have := index_p s u; rw [h, index_yes _ ha, bl_len] at this; exact this)
  have hsz : s.size = a.size + 1 + b.size := by rw [← bl_len, h, List.length_append, List.length_cons, bl_len, bl_len]; omega
  have h1 : s.extract 0 a.size = a := bl_inj (by rw [bl_extract, h, List.drop_zero, Nat.sub_zero, ← bl_len, List.take_left])
  have h2 : s.extract (a.size + 1) s.size = b := bl_inj (by
    rw [bl_extract, h, ← bl_len a, ← List.drop_drop, List.drop_left, List.drop_one, List.tail_cons, List.take_of_length_le]
    rw [bl_len, bl_len, hsz]; omega)
  have b1 : (a.size : Int) ≤ (s.size : Int) := by omega
  have b2 : (a.size : Int) + 1 ≤ (s.size : Int) := by omega
  have b3 : a.size ≤ s.size := by omega
  have b4 : a.size + 1 ≤ s.size := by omega
  have t1 : ((a.size : Int)).toNat = a.size := by omega
  have t2 : ((a.size : Int) + 1).toNat = a.size + 1 := by omega
  have w1 : IntKind.i64.wrap ((a.size : Int) + 1) = (a.size : Int) + 1 := by rw [IntKind.wrap_i64]; omega
  clear h ha hsz
  go_enter Tryd.func40, Tryd.ntmps40
  go_wp2_with (first | (go_at_call 51; refine (hc.out _).mono ?_; rintro e w' ⟨rfl, rfl⟩) | go_in)
  go_quiet (fail)
  all_goals go_wp2
  all_goals go_ret3
  all_goals exact ⟨rfl, ⟨_, rfl⟩⟩
end Go.Proofs.YtnkhmhcgcmacgaaDoor.M3w
