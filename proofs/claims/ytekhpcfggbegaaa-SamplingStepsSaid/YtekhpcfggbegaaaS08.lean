/- Plain mathematics of checksums: the folds that the walks end in. -/
namespace Go.Proofs.Ytekhpcfggbegaaa.Pl

/-- One shift of the CRC-8. -/
def sh8 (c : Nat) : Nat := if c / 128 = 1 then (c * 2 % 256) ^^^ 7 else c * 2 % 256
def it (f : Nat → Nat) : Nat → Nat → Nat
  | 0, c => c
  | n + 1, c => f (it f n c)
def byte8 (c : Nat) (x : UInt8) : Nat := it sh8 8 (c ^^^ x.toNat)
def crc8 (l : List UInt8) : Nat := l.foldl byte8 0
def sh32 (c : Nat) : Nat := if c % 2 = 1 then (c / 2) ^^^ 3988292384 else c / 2
def byte32 (c : Nat) (x : UInt8) : Nat := it sh32 8 (c ^^^ x.toNat)
def raw32 (l : List UInt8) : Nat := l.foldl byte32 4294967295
def crc32 (l : List UInt8) : Nat := 4294967295 - raw32 l
def total (l : List UInt8) : Nat := l.foldl (fun s x => (s + x.toNat) % 256) 0
def sum8 (l : List UInt8) : Nat := (256 - total l) % 256

theorem foldl_take {β : Type} (f : β → UInt8 → β) (b : β) (l : List UInt8) (k : Nat) (h : k < l.length) : (l.take (k + 1)).foldl f b = f ((l.take k).foldl f b) l[k] := by
  rw [List.take_succ_eq_append_getElem h, List.foldl_append]; rfl

theorem sh8_lt (c : Nat) : sh8 c < 256 := by
  unfold sh8
  have h : c * 2 % 256 < 2 ^ 8 := Nat.mod_lt _ (by omega)
  split
  · exact Nat.xor_lt_two_pow h (by omega)
  · exact h
theorem it8_lt (n c : Nat) (h : c < 256) : it sh8 n c < 256 := by
  cases n with
  | zero => exact h
  | succ n => exact sh8_lt _
theorem byte8_lt (c : Nat) (x : UInt8) (h : c < 256) : byte8 c x < 256 := it8_lt _ _ (Nat.xor_lt_two_pow (n := 8) h x.toNat_lt)
theorem fold8_lt (l : List UInt8) (c : Nat) (h : c < 256) : l.foldl byte8 c < 256 := by
  induction l generalizing c with
  | nil => exact h
  | cons x l ih => exact ih _ (byte8_lt c x h)
theorem crc8_lt (l : List UInt8) : crc8 l < 256 := fold8_lt l 0 (by omega)

theorem sh32_lt (c : Nat) (h : c < 4294967296) : sh32 c < 4294967296 := by
  unfold sh32
  have h : c / 2 < 2 ^ 32 := by omega
  split
  · exact Nat.xor_lt_two_pow h (by omega)
  · exact h
theorem it32_lt (n c : Nat) (h : c < 4294967296) : it sh32 n c < 4294967296 := by
  induction n with
  | zero => exact h
  | succ n ih => exact sh32_lt _ ih
theorem byte32_lt (c : Nat) (x : UInt8) (h : c < 4294967296) : byte32 c x < 4294967296 :=
  it32_lt _ _ (Nat.xor_lt_two_pow (n := 32) h (by have := x.toNat_lt; omega))
theorem fold32_lt (l : List UInt8) (c : Nat) (h : c < 4294967296) : l.foldl byte32 c < 4294967296 := by
  induction l generalizing c with
  | nil => exact h
  | cons x l ih => exact ih _ (byte32_lt c x h)
theorem raw32_lt (l : List UInt8) : raw32 l < 4294967296 := fold32_lt l _ (by omega)
theorem fold_lt (l : List UInt8) (c : Nat) (h : c < 256) : l.foldl (fun s x => (s + x.toNat) % 256) c < 256 := by
  induction l generalizing c with
  | nil => exact h
  | cons x l ih => exact ih _ (Nat.mod_lt _ (by omega))
theorem total_lt (l : List UInt8) : total l < 256 := fold_lt l 0 (by omega)
theorem sum8_lt (l : List UInt8) : sum8 l < 256 := Nat.mod_lt _ (by omega)
end Go.Proofs.Ytekhpcfggbegaaa.Pl
