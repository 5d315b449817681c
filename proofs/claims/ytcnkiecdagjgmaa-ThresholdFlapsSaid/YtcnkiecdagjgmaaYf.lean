/- Walks: the program's thresholds: what is reached, severity; the example of layer 12. -/
import Derived.Test.YtcnkiecdagjgmaaYe
namespace Go.Proofs.Ytcnkiecdagjgmaa.Ya
open Go.RowKit Go.Proofs.Ytcnkiecdagjgmaa.Mem Go.Proofs.Ytcnkiecdagjgmaa.F2p Go.Proofs.Ytcnkiecdagjgmaa.C4l Go.Proofs.Ytcnkiecdagjgmaa.Ta Go.Proofs.Ytcnkiecdagjgmaa.Tb
set_option maxRecDepth 100000
set_option maxHeartbeats 1000000

/-- What Reached answers. -/
def ReachedOut (s : Sn) (raw : UInt8) (w0 : World) (e : Ending) (w' : World) : Prop :=
  Below w0.heap.size w0 w' ∧
  if (vs s && !s.d) = false then e = .returned (.tuple #[.int .u8 0, .int .i64 1])
  else e = .returned (.tuple #[.int .u8 (wth s (C4p.num s.c.s raw) 0 0 : Nat), .int .i64 0])
theorem reached_q (s : Sn) (A : Option Addr) (n cp : Nat) (raw : UInt8) (w : World) (hsl : PSl w A n cp s.c.p) (hnm : s.nm.size ≤ maxLen) :
    Calls Try.prog 23 #[.agg (cells s (.slice A n cp)), .int .u8 (raw.toNat : Int)] w fun e w' => ReachedOut s raw w e w' := by
  have hb0 : Below w.heap.size w (w.alloc (.cells (cells s (.slice A n cp)) 32)) := (Below.refl _ _).alloc (Nat.le_refl _) _
  have hx0 : Bx (w.alloc (.cells (cells s (.slice A n cp)) 32)) w.heap.size s (.slice A n cp) := heap_alloc_new w _
  have HV := Lib.hid (isan_q s A n cp _ (hsl.step hb0) hnm)
  unfold ReachedOut
  have HW0 := Lib.hid fun (u : World) => within_q s (.slice A n cp) raw 0 0 u
  generalize (vs s && !s.d) = R at *
  clear hsl hnm
  go_enter Try.func23, Try.ntmps23
  go_wp2_with (refine wpList_load_bx rfl (.tmp 2) rfl _ _ _ rfl hx0 ?_)
  refine HV.out.mono ?_
  rintro e w2 ⟨rfl, hb2⟩
  have hx2 := hx0.below hb2
  have hbb := hb0.trans (hb2.mono hb0.size)
  clear hx0 hb0 hb2 HV
  cases R
  · go_wp2_with fail
    go_ret2
    exact ⟨hbb, rfl⟩
  go_wp2_with (refine wpList_load_bx rfl (.tmp 2) rfl _ _ _ rfl hx2 ?_)
  refine (HW0.out _).mono ?_
  rintro e w3 ⟨rfl, hb3⟩
  have hbb3 := hbb.trans (hb3.mono hbb.size)
  clear hbb hb3 hx2 HW0
  go_wp2_with fail
  go_ret2
  exact ⟨hbb3, rfl⟩
/-- How bad a state is. -/
def sev (x : Nat) : Int := if x &&& 36 ≠ 0 then 3 else if x &&& 18 ≠ 0 then 2 else if x &&& 9 ≠ 0 then 1 else 0
theorem sev_q (x : Nat) (hx : x < 256) (w : World) : Calls Try.prog 26 #[.int .u8 (x : Int)] w fun e w' => e = .returned (.int .i64 (sev x)) ∧ w = w' := by
  have h1 : bits .and .u8 (x : Int) 36 = ((x &&& 36 : Nat) : Int) := and_u8 x 36 hx (by omega)
  have h2 : bits .and .u8 (x : Int) 18 = ((x &&& 18 : Nat) : Int) := and_u8 x 18 hx (by omega)
  have h3 : bits .and .u8 (x : Int) 9 = ((x &&& 9 : Nat) : Int) := and_u8 x 9 hx (by omega)
  unfold sev
  obtain ⟨R, hR⟩ : ∃ R : Int, R = if x &&& 36 ≠ 0 then 3 else if x &&& 18 ≠ 0 then 2 else if x &&& 9 ≠ 0 then 1 else 0 := ⟨_, rfl⟩
  rw [← hR]
  generalize x &&& 36 = a at *
  generalize x &&& 18 = b at *
  generalize x &&& 9 = c at *
  have HR := Lib.hid hR
  clear hR
  go_enter Try.func26, Try.ntmps26
  by_cases ha : a = 0
  · subst ha
    by_cases hb : b = 0
    · subst hb
      by_cases hc : c = 0
      · subst hc
        have : R = 0 := HR.out
        subst this
        go_wp2_with fail
        go_ret
        exact ⟨rfl, rfl⟩
      · have hn : ((c : Int) != 0) = true := by rw [bne_iff_ne]; omega
        have : R = 1 := by rw [HR.out, if_neg (by omega), if_neg (by omega), if_pos hc]
        subst this
        go_wp2_with fail
        go_ret
        exact ⟨rfl, rfl⟩
    · have hn : ((b : Int) != 0) = true := by rw [bne_iff_ne]; omega
      have : R = 2 := by rw [HR.out, if_neg (by omega), if_pos hb]
      subst this
      go_wp2_with fail
      go_ret
      exact ⟨rfl, rfl⟩
  · have hn : ((a : Int) != 0) = true := by rw [bne_iff_ne]; omega
    have : R = 3 := by rw [HR.out, if_pos ha]
    subst this
    go_wp2_with fail
    go_ret
    exact ⟨rfl, rfl⟩
def snX : Sn := { noSn with nm := ⟨#[116]⟩, sm := 1, c := ⟨1, false, 1, 0, 0, 0, []⟩, mx := 24, r3 := 80, r4 := 90, hu := 2 }
theorem out_bx1 {p : Tmp} {a : Act} {w : World} {r : Nat} {s : Sn} {V : Value} {Q : Ending → World → Prop} {fn : Func} (hr : fn.results = #[.cell p 32]) (hp : a.tmps.getD p undef = .pointer (some ⟨r, 0, none⟩)) (hd : a.defers = []) (hb : Bx w r s V) (h : Q (.returned (.agg (cells s V))) w) :
    bodyPost Try.prog fn Q .ret a w := by
  refine bodyPost_ret ?_ hd h
  have hp' : a.tmps[p]?.getD undef = .pointer (some ⟨r, 0, none⟩) := by simpa using hp
  simp [results, hr, hp', asAddr, run_loadVar_row w r _ _ _ _ _ hb Try.underlying32 rfl (by kernel_rfl)]
theorem example_q (w : World) : Calls Try.prog 68 #[] w fun e w' => e = .returned (.agg (cells snX (.slice none 0 0))) ∧ Below w.heap.size w w' := by
  have hb0 : Below w.heap.size w (w.alloc (.cells #[.int .u8 0, .int .u8 0, .int .u8 0, .string ⟨#[]⟩, .int .u8 0, .int .u8 0, .bool false, .int .i64 0, .bool false, .int .i64 0, .int .i64 0, .int .i64 0, .int .i64 0, .slice none 0 0, .int .u8 0, .int .u8 0, .int .u8 0, .int .u8 0, .int .u8 0, .int .u8 0, .int .u8 0, .int .u8 0, .int .u8 0, .int .u16 0, .int .u16 0, .int .u16 0, .bool false, .int .i64 0] 32)) := (Below.refl _ _).alloc (Nat.le_refl _) _
  have hx0 := Bx.zero w
  go_enter Try.func68, Try.ntmps68
  go_wp2_with (refine wpList_store_bx rfl (.tmp 0) (.tmp 4) rfl w.heap.size snX noSn (.slice none 0 0) (.slice none 0 0) rfl rfl rfl hx0 ?_; intro w1 hx1 hg1; refine Hid.out ?_)
  refine Lib.hid ?_
  have hb1 := hb0.grown hg1 hb0.size (fun k hk => by injection hk; omega)
  clear hx0 hb0 hg1
  go_wp2_with fail
  exact out_bx1 (p := 0) Try.results68 rfl rfl hx1 ⟨rfl, hb1⟩
end Go.Proofs.Ytcnkiecdagjgmaa.Ya
