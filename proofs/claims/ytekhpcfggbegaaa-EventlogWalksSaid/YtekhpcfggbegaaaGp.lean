/- Walks: a log is opened on an erased device; what it has room for. -/
import Derived.Test.YtekhpcfggbegaaaGo
import Derived.Test.YtekhpcfggbegaaaGl
namespace Go.Proofs.Ytekhpcfggbegaaa.G9
open Go.RowKit Go.Proofs.Ytekhpcfggbegaaa.Mem Go.Proofs.Ytekhpcfggbegaaa.E5p Go.Proofs.Ytekhpcfggbegaaa.E5m Go.Proofs.Ytekhpcfggbegaaa.E5a Go.Proofs.Ytekhpcfggbegaaa.E5d Go.Proofs.Ytekhpcfggbegaaa.V7 Go.Proofs.Ytekhpcfggbegaaa.V9
set_option maxRecDepth 100000
set_option maxHeartbeats 4000000

section
variable {B : Nat} {W w w' : World} {d : Sh} {s s' : Fl} {m m' g n n' : Nat} {rv rv' : Value} {L L' : Lg}
theorem load_none (p : Value) (w : World) : Calls Try.prog 111 #[p, .slice none 0 0] w fun e w' => e = .returned (.tuple #[]) ∧ w' = w := by
  go_enter Try.func111, Try.ntmps111
  go_wp2_with fail
  refine bodyPost_ret (results_none rfl _ _ _) rfl ?_
  exact ⟨rfl, rfl⟩
end
def fresh (first S : Nat) (ow : Bool) (k : Nat) : Lg := ⟨first, S, ow, 0, 1, k, 1, [], false, 0, false⟩
theorem capacity_p (S z : Nat) (h1 : 2 ≤ S) (h2 : S ≤ 16) (h3 : 64 ≤ z) (h4 : z ≤ 1024) (w : World) : Calls Try.prog 43 #[.int .i64 (S : Int), .int .i64 (z : Int)] w fun e w' =>
    e = .returned (.tuple #[.int .i64 (((S - 1) * ((z - 11) / 17) : Nat) : Int), .int .i64 (((z - 11) / 17 : Nat) : Int), .int .i64 0]) ∧ w' = w := by
  have HS := Lib.hid (slots_p z (by omega) (by omega) w)
  have hc : ((((S - 1) * ((z - 11) / 17) : Nat)) : Int) = ((S : Int) - 1) * (((z - 11) / 17 : Nat) : Int) := by rw [Int.natCast_mul, Int.natCast_sub (by omega)]; rfl
  have hb : (S - 1) * ((z - 11) / 17) ≤ 16 * 60 := Nat.mul_le_mul (by omega) (by omega)
  have HM : Hid (IntKind.i64.wrap (((S : Int) - 1) * (((z - 11) / 17 : Nat) : Int)) = ((((S - 1) * ((z - 11) / 17) : Nat)) : Int)) := Lib.hid (by rw [← hc]; exact IntWalk.i64_in _ ⟨by omega, by omega⟩)
  generalize (S - 1) * ((z - 11) / 17) = X at *
  generalize (z - 11) / 17 = k at *
  clear hc hb
  go_enter Try.func43, Try.ntmps43
  go_wp2_with fail
  refine HS.out.mono ?_
  rintro e w1 ⟨rfl, rfl⟩
  go_wp2_with (refine wpList_mul rfl (.tmp 25) (.tmp 26) rfl ((S : Int) - 1) (k : Int) (X : Int) rfl rfl HM.out ?_; refine Hid.out ?_)
  refine Lib.hid ?_
  go_wp2_with fail
  go_ret3
  exact ⟨rfl, rfl⟩
section
variable {B : Nat} {W w w' : World} {d : Sh} {s s' : Fl} {m m' g n n' : Nat} {rv rv' : Value} {L L' : Lg}
/-- What places there are not. -/
theorem openl_no (h : At B W w d s m) (k c : Int) (hk : -1000 ≤ k ∧ k ≤ 1000) (hc : -1000 ≤ c ∧ c ≤ 1000) (ow : Bool) (herr : c < 2 ∨ k < 0 ∨ (s.wear.length : Int) - c < k) :
    Calls Try.prog 79 #[.pointer (some ⟨d.g, 0, none⟩), .int .i64 k, .int .i64 c, .bool ow] w fun e w' => e = .returned (.tuple #[.pointer none, .int .i64 2]) ∧ w' = w := by
  have HS := Lib.hid (sectors_p h.dev)
  have hmost := h.ok.most
  clear h
  generalize s.wear.length = N at *
  rcases Int.lt_or_le c 2 with h1 | h1
  · clear herr HS
    go_enter Try.func79, Try.ntmps79
    go_wp2_with fail
    go_ret2
    exact ⟨rfl, rfl⟩
  · rcases Int.lt_or_le k 0 with h2 | h2
    · clear herr HS
      go_enter Try.func79, Try.ntmps79
      go_wp2_with fail
      go_ret2
      exact ⟨rfl, rfl⟩
    · have h3 : (N : Int) - c < k := by omega
      clear herr
      go_enter Try.func79, Try.ntmps79
      go_wp2_with fail
      refine HS.out.mono ?_
      rintro e w' ⟨rfl, rfl⟩
      go_wp2_with fail
      go_ret2
      exact ⟨rfl, rfl⟩
theorem fresh_ok (hs : s.Ok m) (K C : Nat) (h1 : 2 ≤ C) (h2 : K + C ≤ s.wear.length) (ow : Bool) : (fresh K C ow (slots s)).Ok s 0 :=
  { two := h1, fits := h2, newest := Nat.zero_le _, tail0 := Nat.le_refl 1, tail1 := Nat.le_refl 1, used := Nat.le_succ_of_le (slots_le hs).1, none := fun _ => Nat.le_refl _, nid := ⟨Nat.le_refl 1, by show (1 : Nat) ≤ 65534; decide⟩, many := Nat.le_refl 0, fit := (fun r hr => by cases hr), resv := Nat.zero_le _ }
theorem openl_p (h : At B W w d s m) (hd : s.down = false) (he : ∀ x ∈ s.bytes, x = 255) (K C : Nat) (h1 : 2 ≤ C) (h2 : K + C ≤ s.wear.length) (ow : Bool) :
    Calls Try.prog 79 #[.pointer (some ⟨d.g, 0, none⟩), .int .i64 (K : Int), .int .i64 (C : Int), .bool ow] w fun e w' => ∃ g, e = .returned (.tuple #[.pointer (some ⟨g, 0, none⟩), .int .i64 0]) ∧ LA B W w' d s m g (.slice none 0 0) (fresh K C ow (slots s)) 0 ∧ Below w.heap.size w w' ∧ w.heap.size ≤ g := by
  have hmost := h.ok.most; have hz1 := h.ok.size1; have hz2 := h.ok.size2
  have hle : K * s.size + C * s.size ≤ s.bytes.length := by
    rw [← Nat.add_mul, h.ok.len]
    exact Nat.mul_le_mul_right _ h2
  have hby := h.ok.bytes_le
  have HSE := Lib.hid (sectors_p h.dev)
  have HSZ := Lib.hid (size_p h.dev)
  have hcz : 1 ≤ C * s.size := Nat.mul_pos (by omega) (by omega)
  have hrd : s.read ((K * s.size : Nat) : Int) ((C * s.size : Nat) : Int) = ((s.bytes.drop (K * s.size)).take (C * s.size), 0) := by
    have hfit : s.fits ((K * s.size : Nat) : Int) ((C * s.size : Nat) : Int) = true := by simp [Fl.fits]; omega
    unfold Fl.read
    rw [hd, hfit]
    rfl
  have hRead := h.read ((K * s.size : Nat) : Int) ((C * s.size : Nat) : Int) (by omega) (by omega) (by omega) (by omega)
  rw [hrd, Int.natCast_mul, Int.natCast_mul] at hRead
  have hlenr : ((s.bytes.drop (K * s.size)).take (C * s.size)).length = C * s.size := by rw [List.length_take, List.length_drop]; omega
  have her : ∀ x ∈ (s.bytes.drop (K * s.size)).take (C * s.size), x = 255 := fun x hx => he x (List.mem_of_mem_drop (List.mem_of_mem_take hx))
  have HOK := Lib.hid (fresh_ok h.ok K C h1 h2 ow)
  have M1 : Hid (IntKind.i64.wrap ((K : Int) * (s.size : Int)) = ((K * s.size : Nat) : Int)) := Lib.hid (by rw [Int.natCast_mul]; exact IntWalk.i64_in _ ⟨by rw [← Int.natCast_mul]; omega, by rw [← Int.natCast_mul]; omega⟩)
  have M2 : Hid (IntKind.i64.wrap ((C : Int) * (s.size : Int)) = ((C * s.size : Nat) : Int)) := Lib.hid (by rw [Int.natCast_mul]; exact IntWalk.i64_in _ ⟨by rw [← Int.natCast_mul]; omega, by rw [← Int.natCast_mul]; omega⟩)
  have HSL := Lib.hid (fun u => slots_p s.size (by omega) (by omega) u)
  have hC16 : C ≤ 100 := by omega
  have HVN : Hid (∀ (a : Addr) (n1 c1 : Nat) (l : List UInt8) (u : World), Sl u (some a) n1 c1 l → n1 = C * s.size → (∀ x ∈ l, x = 255) → Calls Try.prog 112 #[.slice (some a) n1 c1, .int .i64 (C : Int)] u fun e w' => e = .returned (.slice none 0 0) ∧ Below u.heap.size u w') := Lib.hid (fun a n1 c1 l u hl hn hx => valid_none a n1 c1 l u hl C s.size h1 hC16 (by omega) hz2 hn hx)
  have HLEN := Lib.hid hlenr
  have HER := Lib.hid her
  have HRD := Lib.hid hRead
  have H := Lib.hid h
  have g1 : ¬ (C : Int) < 2 := by omega
  have g3 : ¬ (s.wear.length : Int) - (C : Int) < (K : Int) := by omega
  clear hrd hRead hlenr her hle h he hd h1 h2 hby
  go_enter Try.func79, Try.ntmps79
  go_wp2_with fail
  refine HSE.out.mono ?_
  rintro e w' ⟨rfl, rfl⟩
  go_wp2_with fail
  refine HSZ.out.mono ?_
  rintro e w' ⟨rfl, rfl⟩
  go_wp2_with (first | (refine wpList_mul rfl (.tmp 32) (.tmp 33) rfl (K : Int) (s.size : Int) ((K * s.size : Nat) : Int) rfl rfl M1.out ?_) | (refine wpList_mul rfl (.tmp 35) (.tmp 36) rfl (C : Int) (s.size : Int) ((C * s.size : Nat) : Int) rfl rfl M2.out ?_; refine Hid.out ?_))
  refine Lib.hid ?_
  go_wp2_with fail
  refine HRD.out.mono ?_
  rintro e w1 ⟨A1, n1, c1, rfl, -, hs1, hb1, hat⟩
  have hn1 := hs1.len
  rw [HLEN.out] at hn1
  obtain ⟨a1, rfl, -, -⟩ := row_at hs1.row (k := 0) (by rw [HLEN.out]; exact hcz)
  have HN1 := Lib.hid hn1
  have HS1 := Lib.hid hs1
  have HAT := Lib.hid hat
  have HB1 := Lib.hid hb1
  clear hn1 hs1 hat hb1 HRD M1 M2 HSE HSZ g1 g3
  go_wp2_with fail
  refine (HSL.out _).mono ?_
  rintro e w2 ⟨rfl, rfl⟩
  have hsl : slots s = (s.size - 11) / 17 := rfl
  rw [← hsl]
  have hal : Below w1.heap.size w1 (w1.alloc (.cells (headOf d (fresh K C ow (slots s)) (.slice none 0 0)) 130)) := (Below.refl _ _).alloc (Nat.le_refl _) _
  have hhd : Hd (w1.alloc (.cells (headOf d (fresh K C ow (slots s)) (.slice none 0 0)) 130)) w1.heap.size (headOf d (fresh K C ow (slots s)) (.slice none 0 0)) := heap_alloc_new w1 _
  have hla : LA B W (w1.alloc (.cells (headOf d (fresh K C ow (slots s)) (.slice none 0 0)) 130)) d s m w1.heap.size (.slice none 0 0) (fresh K C ow (slots s)) 0 := ⟨HAT.out.step hal, hhd, ROwn.nil, HAT.out.base, HOK.out⟩
  have hvn := HVN.out a1 n1 c1 _ _ (HS1.out.step hal) HN1.out HER.out
  have HLD := Lib.hid (fun u => load_none (.pointer (some ⟨w1.heap.size, 0, none⟩)) u)
  have HLA := Lib.hid hla
  have HVV := Lib.hid hvn
  have HAL := Lib.hid hal
  clear hal hhd hla hvn hsl
  go_wp2_with fail
  refine (show Calls Try.prog _ _ _ _ from HVV.out).mono ?_
  rintro e w3 ⟨rfl, hb3⟩
  have HB3 := Lib.hid (show Below _ (w1.alloc (.cells (headOf d (fresh K C ow (slots s)) (.slice none 0 0)) 130)) w3 from hb3)
  clear hb3
  go_wp2_with fail
  refine (HLD.out _).mono ?_
  rintro e w4 ⟨rfl, rfl⟩
  go_wp2_with fail
  go_ret2
  exact ⟨_, rfl, HLA.out.step HB3.out, HB1.out.trans ((HAL.out.trans (HB3.out.mono (by simp))).mono HB1.out.size), HB1.out.size⟩
end
end Go.Proofs.Ytekhpcfggbegaaa.G9
