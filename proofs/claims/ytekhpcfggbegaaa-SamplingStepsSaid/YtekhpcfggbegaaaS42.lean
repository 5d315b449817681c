/- Walks: the program's filters: Reading. -/
import Derived.Test.YtekhpcfggbegaaaS34
import Derived.Test.YtekhpcfggbegaaaS41
namespace Go.Proofs.Ytekhpcfggbegaaa.Jd
open Go.RowKit Go.Proofs.Ytekhpcfggbegaaa.Mem Go.Proofs.Ytekhpcfggbegaaa.F2p Go.Proofs.Ytekhpcfggbegaaa.C4l Go.Proofs.Ytekhpcfggbegaaa.Ta Go.Proofs.Ytekhpcfggbegaaa.Tb Go.Proofs.Ytekhpcfggbegaaa.Ja
set_option maxRecDepth 100000
set_option maxHeartbeats 1000000

/-- Whether there is a reading. -/
def full (s : Sn) (l : List UInt8) (m : Int) : Bool := vf (vs s) s.sm l m && decide ((l.length : Int) = s.sm)
/-- What Reading leaves: the middle of the window, or nothing. -/
def RdO (w : World) (sg : Bool) (l : List UInt8) (b : Bool) (e : Ending) (w' : World) : Prop :=
  ∃ x : UInt8, (b = true → Med sg l x) ∧ (b = false → x = 0) ∧ e = .returned (.tuple #[.int .u8 (x.toNat : Int), .bool b]) ∧ Below w.heap.size w w'
theorem read_p (s : Sn) (A : Option Addr) (n cp : Nat) (FA : Option Addr) (fn fc : Nat) (l : List UInt8) (m : Int) (w : World) (hsl : PSl w A n cp s.c.p) (hnm : s.nm.size ≤ maxLen) (hf : Sl w FA fn fc l) :
    Calls Try.prog 20 #[.agg (cells s (.slice A n cp)), .agg #[.slice FA fn fc, .int .i64 m]] w (RdO w s.c.s l (full s l m)) := by
  obtain ⟨hb0, hx0, hf0⟩ := two_boxes s (.slice A n cp) (.slice FA fn fc) m w
  have HV := Lib.hid (fvalid_p s A n cp FA fn fc l m _ (hsl.step hb0) hnm (hf.step hb0))
  obtain ⟨R, hR⟩ : ∃ R, R = full s l m := ⟨_, rfl⟩
  rw [← hR]
  unfold full at hR
  have HFF := Lib.hid fun (h : vf (vs s) s.sm l m = true) => vf_facts h
  have hlen := hf.len
  rw [← hlen] at hR
  have HLN := Lib.hid hlen
  have HSF := Lib.hid hf
  have hcm : fn ≤ 9223372036854775807 := by have := lite hf; unfold maxLen at this; omega
  clear hsl hf hlen
  generalize vf (vs s) s.sm l m = b at *
  obtain ⟨k, hk⟩ : ∃ k, k = s.sm := ⟨_, rfl⟩
  rw [← hk] at hR
  have HK := Lib.hid hk
  have HR := Lib.hid hR
  clear hR hk
  go_enter Try.func20, Try.ntmps20
  go_wp2_with (refine wpList_load_bx rfl (.tmp 2) rfl _ _ _ rfl hx0 ?_)
  refine HV.out.mono ?_
  rintro e w3 ⟨rfl, hb3⟩
  have hx3 := hx0.below hb3
  have hf3 := hf0.below hb3
  have hb := hb0.trans (hb3.mono hb0.size)
  clear hf0 hx0 hb0 hb3 HV
  cases b
  · obtain rfl : R = false := HR.out
    go_wp2_with fail
    go_ret2
    exact ⟨0, (fun h => by cases h), (fun _ => rfl), rfl, hb⟩
  have s27 := c27 hx3
  rw [← HK.out] at s27
  have f0 := hf3.c0
  by_cases h1 : (fn : Int) = k
  case neg =>
    have d1 : ((fn : Int) != k) = true := by simpa using h1
    obtain rfl : R = false := by rw [HR.out, decide_eq_false h1]; rfl
    go_wp2_with fail
    go_ret2
    exact ⟨0, (fun h => by cases h), (fun _ => rfl), rfl, hb⟩
  have d1 : ((fn : Int) != k) = false := by simpa using h1
  obtain rfl : R = true := by rw [HR.out, decide_eq_true h1]; rfl
  obtain ⟨hsm, -, -, -, -, -⟩ := HFF.out rfl
  rw [← HK.out] at hsm
  have h5 : fn = 1 ∨ fn = 3 ∨ fn = 5 := by omega
  have H5 := Lib.hid h5
  have HCL := Lib.hid (Je.clone_p FA fn fc l w3 (HSF.out.step hb) (by omega))
  clear HFF hsm h5 h1
  go_wp2_with fail
  refine HCL.out.mono ?_
  rintro e w4 ⟨v, rfl, hown, hb4⟩
  obtain ⟨B, n4, c4, rfl, hs4⟩ := Sl.of_own hown
  have hn4 : n4 = fn := by rw [hs4.len, HLN.out]
  have hx4 := hx3.below hb4
  have hlt4 := hx3.lt
  have hbb := hb.trans (hb4.mono hb.size)
  have h12 : n4 ≤ 12 := by have := H5.out; omega
  obtain ⟨g, rfl, hg3, hg4⟩ := own_some hown (by have := H5.out; have := hs4.len; omega)
  have hcc : n4 ≤ c4 := hs4.cap
  have HS := Lib.hid (Jb.sort_p s.c.s w.heap.size w3.heap.size g n4 c4 w4 l (So.Ar.start hs4.len hown) h12 (c8 hx4) (by omega))
  have HN4 := Lib.hid hn4
  clear hn4 hx3 hf3 s27 f0 hs4 hown hx4
  go_wp2_with fail
  refine HS.out.mono ?_
  rintro e w5 ⟨rfl, l', hA, hP, hsrt⟩
  have hb5 := hbb.grown hA.gr hbb.size (fun k hk => by injection hk; have := hb.size; omega)
  have hl4 := hA.len
  have hmed := (med_sorted (s := s.c.s) (m := l') (by have := H5.out; have := HN4.out; omega) (fun i j h1 h2 => hsrt i j (Nat.zero_le _) h1 (by omega))).perm hP
  rw [← hl4] at hmed
  have HM := Lib.hid hmed
  have HL4 := Lib.hid hl4
  rcases (show n4 = 1 ∨ n4 = 3 ∨ n4 = 5 by rw [HN4.out]; exact H5.out) with rfl | rfl | rfl
  · have c := hA.cell (i := 0) (by omega)
    clear hmed hl4 hA
    go_wp2_with fail
    go_ret2
    exact ⟨_, (fun _ => HM.out), (fun h => by cases h), rfl, hb5⟩
  · have c := hA.cell (i := 1) (by omega)
    clear hmed hl4 hA
    go_wp2_with fail
    go_ret2
    exact ⟨_, (fun _ => HM.out), (fun h => by cases h), rfl, hb5⟩
  · have c := hA.cell (i := 2) (by omega)
    clear hmed hl4 hA
    go_wp2_with fail
    go_ret2
    exact ⟨_, (fun _ => HM.out), (fun h => by cases h), rfl, hb5⟩
end Go.Proofs.Ytekhpcfggbegaaa.Jd
