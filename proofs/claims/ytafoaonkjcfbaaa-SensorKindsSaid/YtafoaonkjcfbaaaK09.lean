/- Plain mathematics of sensor records: which ones are valid, their bytes. Lists of points: words, appends. Walks: the reference of conversions: numbers, powers of ten. -/
import Derived.Test.YtafoaonkjcfbaaaK07
import Derived.Test.YtafoaonkjcfbaaaK08
import Derived.StillTailTactics
namespace Go.Proofs.Ytafoaonkjcfbaaa.Ta
open Go.Proofs.Ytafoaonkjcfbaaa.F2p
set_option maxRecDepth 100000

structure Sn where
  (nu ty un : UInt8) (nm : ByteArray) (ei en : UInt8) (d : Bool) (c : C4p.Cv) (mx r0 r1 r2 r3 r4 r5 hl hu : UInt8) (st av dv : Nat) (on : Bool) (sm : Int)
def Sn.raw (s : Sn) : List UInt8 := [s.r0, s.r1, s.r2, s.r3, s.r4, s.r5]
structure Sn.Fit (s : Sn) : Prop where
  st : s.st < 65536
  av : s.av < 65536
  dv : s.dv < 65536
def noSn : Sn := ⟨0, 0, 0, ⟨#[]⟩, 0, 0, false, C4p.noCv, 0, 0, 0, 0, 0, 0, 0, 0, 0, 0, 0, 0, false, 0⟩
/-- A mask has bit i. -/
def has (mx i : Nat) : Bool := decide (mx / 2 ^ i % 2 = 1)
/-- A number y may stand at the index j behind x at the lower index i. -/
def fol (i j : Nat) (x y : Int) : Bool := if j ≤ 2 then decide (y ≤ x) else if 3 ≤ i then decide (x ≤ y) else decide (x < y)
def pair (sg : Bool) (mx : Nat) (raw : List UInt8) (i j : Nat) : Bool := !(has mx i && has mx j && !(fol i j (C4p.num sg (raw.getD i 0)) (C4p.num sg (raw.getD j 0))))
def ordd (sg : Bool) (mx : Nat) (raw : List UInt8) : Bool := (List.range 6).all fun j => (List.range j).all fun i => pair sg mx raw i j
def zer (mx : Nat) (raw : List UInt8) : Bool := (List.range 6).all fun i => has mx i || decide (raw.getD i 0 = 0)
def lims (sg : Bool) (mx : Nat) (raw : List UInt8) : Bool := decide (mx ≤ 63) && (zer mx raw && ordd sg mx raw)
/-- The bits of a that are none of m, 16 bits. -/
def andn (a m : Nat) : Nat := (BitVec.ofNat 16 a &&& ~~~BitVec.ofNat 16 m).toNat
theorem andn_lt (a m : Nat) : andn a m < 65536 := BitVec.isLt _
/-- The bits of a are bits of m. -/
def inm (a m : Nat) : Bool := decide (andn a m = 0)
def chr (x : UInt8) : Bool := decide (32 ≤ x.toNat) && decide (x.toNat ≤ 126)
def okn (l : List UInt8) : Bool := decide (1 ≤ l.length ∧ l.length ≤ 16) && l.all chr
def wid (n : Int) : Bool := decide (n = 1 ∨ n = 3 ∨ n = 5)
def nocv (c : C4p.Cv) : Bool := decide (c.f = 0) && (!c.s && (decide (c.m = 0) && (decide (c.b = 0) && (decide (c.k1 = 0) && (decide (c.k2 = 0) && decide (c.p.length = 0))))))
def nolim (mx r0 r1 r2 r3 r4 r5 : UInt8) : Bool := decide (mx = 0 ∧ r0 = 0 ∧ r1 = 0 ∧ r2 = 0 ∧ r3 = 0 ∧ r4 = 0 ∧ r5 = 0)
def ana (s : Sn) : Bool := C4p.vld s.c && (lims s.c.s s.mx.toNat s.raw && (decide (s.st = 0) && (inm s.av s.mx.toNat && inm s.dv s.mx.toNat)))
def dsc (s : Sn) : Bool := nocv s.c && (nolim s.mx s.r0 s.r1 s.r2 s.r3 s.r4 s.r5 && (decide (s.hl = 0) && (decide (s.hu = 0) && (decide (s.sm = 1) && (decide (s.st ≤ 32767) && (inm s.av s.st && inm s.dv s.st))))))
/-- Which records are valid. -/
def vs (s : Sn) : Bool := okn (bl s.nm) && (wid s.sm && (if s.d = true then dsc s else ana s))

/-! Bytes. -/
def flg (d on : Bool) (sm : Int) : Nat := 4 * sm.toNat + (if d = true then 1 else 0) + (if on = true then 2 else 0)
def head (s : Sn) : List UInt8 := [1, s.nu, s.ty, s.un, s.ei, s.en, UInt8.ofNat (flg s.d s.on s.sm), UInt8.ofNat s.nm.size]
def ext (s : Sn) : List UInt8 := C4p.enc s.c ++ ([s.mx] ++ (s.raw ++ [s.hl, s.hu]))
def mid (s : Sn) : List UInt8 := if s.d = true then lit s.st 2 else ext s
def pay (s : Sn) : List UInt8 := head s ++ bl s.nm ++ mid s ++ lit s.av 2 ++ lit s.dv 2
def sealB (l : List UInt8) : List UInt8 := l ++ [UInt8.ofNat (Pl.sum8 l)]
def encS (s : Sn) : List UInt8 := sealB (pay s)
def by_ (l : List UInt8) (i : Nat) : UInt8 := l.getD i 0
def n2 (l : List UInt8) (i : Nat) : Nat := num ((l.drop i).take 2)
/-- A record's beginning. -/
def beg (x : List UInt8) : Sn :=
  { noSn with nu := by_ x 1, ty := by_ x 2, un := by_ x 3, nm := ⟨((x.drop 8).take (by_ x 7).toNat).toArray⟩, ei := by_ x 4, en := by_ x 5, d := decide ((by_ x 6).toNat % 2 = 1), on := decide ((by_ x 6).toNat / 2 % 2 = 1), sm := (((by_ x 6).toNat / 4 : Nat) : Int) }
def size (b : List UInt8) (n : Nat) : Nat := if b.length < n then 4 else if n < b.length then 6 else 0
def rdD (s : Sn) (b : List UInt8) : Sn × Nat := if size b 6 ≠ 0 then (noSn, size b 6) else ({ s with st := n2 b 0, av := n2 b 2, dv := n2 b 4 }, 0)
def fin (s : Sn) (c : C4p.Cv) (b : List UInt8) : Sn :=
  { s with c := c, mx := by_ b 0, r0 := by_ b 1, r1 := by_ b 2, r2 := by_ b 3, r3 := by_ b 4, r4 := by_ b 5, r5 := by_ b 6, hl := by_ b 7, hu := by_ b 8, av := n2 b 9, dv := n2 b 11 }
def rdA (s : Sn) (b : List UInt8) : Sn × Nat :=
  if (C4p.dec b).2.2 ≠ 0 then (noSn, (C4p.dec b).2.2.toNat)
  else if size (b.drop (C4p.dec b).2.1.toNat) 13 ≠ 0 then (noSn, size (b.drop (C4p.dec b).2.1.toNat) 13)
  else (fin s (C4p.dec b).1 (b.drop (C4p.dec b).2.1.toNat), 0)
def rdS (x : List UInt8) : Sn × Nat :=
  if by_ x 0 ≠ 1 ∨ 32 ≤ (by_ x 6).toNat then (noSn, 6)
  else if x.length < 8 + (by_ x 7).toNat then (noSn, 4)
  else if (by_ x 6).toNat % 2 = 1 then rdD (beg x) (x.drop (8 + (by_ x 7).toNat))
  else rdA (beg x) (x.drop (8 + (by_ x 7).toNat))
/-- What Decode answers: record, error. -/
def decS (l : List UInt8) : Sn × Nat :=
  if l.length < 9 then (noSn, 4)
  else if Pl.sum8 l ≠ 0 then (noSn, 5)
  else if (rdS (l.take (l.length - 1))).2 ≠ 0 then (noSn, (rdS (l.take (l.length - 1))).2)
  else if vs (rdS (l.take (l.length - 1))).1 = true then ((rdS (l.take (l.length - 1))).1, 0)
  else (noSn, 1)
end Go.Proofs.Ytafoaonkjcfbaaa.Ta
namespace Go.Proofs.Ytafoaonkjcfbaaa.C4l
open Go.RowKit Go.Proofs.Ytafoaonkjcfbaaa.Mem Go.Proofs.Ytafoaonkjcfbaaa.C4p
set_option maxRecDepth 100000
set_option maxHeartbeats 1000000

abbrev Pt := UInt8 × Int
theorem add_next (p : Addr) : p.add 1 = ⟨p.block, p.off + 1, none⟩ := rfl
def pvs : List Pt → List Value
  | [] => []
  | x :: l => .int .u8 (x.1.toNat : Int) :: .int .i64 x.2 :: pvs l
theorem pvs_len (l : List Pt) : (pvs l).length = l.length * 2 := by
  induction l with
  | nil => rfl
  | cons x l ih => simp only [pvs, List.length_cons, ih]; omega
theorem pvs_app (a b : List Pt) : pvs (a ++ b) = pvs a ++ pvs b := by
  induction a with
  | nil => rfl
  | cons x a ih => simp only [List.cons_append, pvs, ih]
theorem pvs_one (l : List Pt) : ∀ u ∈ pvs l, u.oneCell' = true := by
  induction l with
  | nil => intro u hu; cases hu
  | cons x l ih =>
    intro u hu
    simp only [pvs, List.mem_cons] at hu
    rcases hu with rfl | rfl | hu
    · rfl
    · rfl
    · exact ih u hu
theorem pvs_get : ∀ (l : List Pt) (k : Nat) (h : k < l.length), (pvs l)[k * 2]? = some (.int .u8 (l[k].1.toNat : Int)) ∧ (pvs l)[k * 2 + 1]? = some (.int .i64 l[k].2)
  | x :: l, 0, _ => ⟨rfl, rfl⟩
  | x :: l, k + 1, h => by
    have := pvs_get l k (by simpa using h)
    rw [show (k + 1) * 2 = k * 2 + 1 + 1 by omega]
    simpa [pvs] using this
abbrev PRow (B : Nat) (w : World) (A : Option Addr) (l : List Pt) : Prop := Rd B w A (pvs l)
theorem prow_at {B : Nat} {w : World} {A : Option Addr} {l : List Pt} (h : PRow B w A l) {k : Nat} (hk : k < l.length) :
    ∃ a, A = some a ∧ a.block < B ∧ w.cell? (a.add (k * 2)) = some (.int .u8 (l[k].1.toNat : Int)) ∧ w.cell? (a.add (k * 2 + 1)) = some (.int .i64 l[k].2) := by
  obtain ⟨g0, g1⟩ := pvs_get l k hk
  obtain ⟨a, e, hb, hc⟩ := h (by rw [pvs_len]; omega)
  have h0 := hc (k * 2) (by rw [pvs_len]; omega)
  have h1 := hc (k * 2 + 1) (by rw [pvs_len]; omega)
  refine ⟨a, e, hb, ?_, ?_⟩
  · rw [h0]; rw [List.getElem?_eq_getElem (by rw [pvs_len]; omega)] at g0; exact g0
  · rw [h1]; rw [List.getElem?_eq_getElem (by rw [pvs_len]; omega)] at g1; exact g1
/-- A slice of fields that is read. -/
structure PSl (w : World) (A : Option Addr) (n c : Nat) (l : List Pt) : Prop where
  len : n = l.length
  row : PRow w.heap.size w A l
  cap : n ≤ c
  max : c ≤ maxLen
  nil : A = none → c = 0
theorem PSl.step {w w' : World} {A : Option Addr} {n c : Nat} {l : List Pt} (h : PSl w A n c l) (hb : Below w.heap.size w w') : PSl w' A n c l := ⟨h.len, (h.row.below hb).more hb.size, h.cap, h.max, h.nil⟩
theorem PSl.none {w : World} : PSl w none 0 0 [] := ⟨rfl, Rd.nil, Nat.le_refl _, by unfold maxLen; omega, fun _ => rfl⟩
/-- A slice of fields of the call's own. -/
def POwn (base : Nat) (w : World) (v : Value) (l : List Pt) : Prop := w.ownsRow base 150 2 v l.length (pvs l)
theorem POwn.nil {base : Nat} {w : World} : POwn base w (.slice .none 0 0) [] := ⟨by simp [pvs], .inl ⟨rfl, by simp⟩⟩
theorem POwn.sl {base : Nat} {w : World} {v : Value} {l : List Pt} (h : POwn base w v l) : ∃ A n c, v = .slice A n c ∧ PSl w A n c l := by
  rcases h.2 with ⟨rfl, h0⟩ | ⟨g, cap, cur, rfl, hg, hh, h1, h2, _⟩
  · obtain rfl : l = [] := List.length_eq_zero_iff.1 h0
    exact ⟨_, _, _, rfl, PSl.none⟩
  · refine ⟨_, _, _, rfl, rfl, fun hl => ?_, h1, h2, fun e => by cases e⟩
    have hlt : g < w.heap.size := by
      rcases Nat.lt_or_ge g w.heap.size with h3 | h3
      · exact h3
      · rw [Array.getElem?_eq_none h3] at hh; cases hh
    exact ⟨_, rfl, hlt, fun k hk => World.ownsRow.cells h (g := g) rfl k _ (List.getElem?_eq_getElem hk)⟩
theorem infoP : (Try.prog.info? 150).map (fun i => (i.zero, i.size, i.bytes)) = some (some (.agg #[.int .u8 0, .int .i64 0]), 2, 16) := by kernel_rfl
theorem run_append_p (w : World) (base : Nat) (ty : TypeId) (v : Value) (l : List Pt) (hown : POwn base w v l) (k : UInt8) (s : Int) (a : Addr) (c : Nat) (h0 : w.cell? a = some (.int .u8 (k.toNat : Int))) (h1 : w.cell? (a.add 1) = some (.int .i64 s))
    (hl : l.length ≤ 1000) (hbase : base ≤ w.heap.size) :
    ∃ v' w', (Builtin.append_ #[52, 52] ty #[v, .slice (some a) 1 c]).run Try.prog w = .ok v' w' ∧ POwn base w' v' (l ++ [(k, s)]) ∧ w.grownBy w' v.ownBlock := by
  obtain ⟨i, hi, hz0, hz1, hz2⟩ := info_parts infoP
  have hn : ∀ (j : Nat) (u : Value), ([.int .u8 (k.toNat : Int), .int .i64 s] : List Value)[j]? = some u → w.cell? (a.add j) = some u := fun j u hu => by
    match j with
    | 0 => simp at hu; subst hu; simpa [Addr.add] using h0
    | 1 => simp at hu; subst hu; exact h1
    | j + 2 => simp at hu
  obtain ⟨v', w', hrun, h2, h3, _, _⟩ := run_append_own_at (P := Try.prog) w base 52 ty 150 i _ 2 16 Try.underlying52 hi hz0 hz1 hz2 rfl (by omega) v l.length (pvs l) hown a 1 c [.int .u8 (k.toNat : Int), .int .i64 s] rfl hn
    (fun u hu => pvs_one [(k, s)] u (by simpa [pvs] using hu)) (by unfold maxLen; omega) (by omega) hbase
  refine ⟨v', w', hrun, ?_, h3⟩
  unfold POwn
  rw [pvs_app, List.length_append]
  exact h2
theorem wpList_append_p {ops : Array Oper} {rest : List Oper} {o : Oper} {a : Act} {Q : Exit → Act → World → Prop} (w : World) (hgd : o.guard = none) (s x : Operand)
    (ho : o.op = .call { callee := .builtin .append, args := #[s, x], argTypes := #[52, 52] })
    (base : Nat) (v : Value) (l : List Pt) (hs : a.eval s = v) (hown : POwn base w v l) (k : UInt8) (t : Int) (p : Addr) (c : Nat) (hx : a.eval x = .slice (some p) 1 c)
    (h0 : w.cell? p = some (.int .u8 (k.toNat : Int))) (h1 : w.cell? (p.add 1) = some (.int .i64 t)) (hl : l.length ≤ 1000) (hbase : base ≤ w.heap.size)
    (h : ∀ v' w', POwn base w' v' (l ++ [(k, t)]) → w.grownBy w' v.ownBlock → wpList Try.prog ops Q rest (a.put o.dst v') w') : wpList Try.prog ops Q (o :: rest) a w := by
  refine wpList_plain hgd fun K hK => ?_
  obtain ⟨v', w', hrun, h2, h3⟩ := run_append_p w base o.type v l hown k t p c h0 h1 hl hbase
  unfold Oper.wp execOp
  simp only [ho, resolve, invoke, builtin, Sem.run_bind, Sem.run_pure, Result.andThen_ok, List.map_toArray, List.map_cons, List.map_nil, hs, hx, hrun]
  exact hK _ _ (h v' w' h2 h3)
end Go.Proofs.Ytafoaonkjcfbaaa.C4l
namespace Go.Proofs.Ytafoaonkjcfbaaa.C4v
open Go.RowKit Go.Proofs.Ytafoaonkjcfbaaa.Mem Go.Proofs.Ytafoaonkjcfbaaa.M3p Go.Proofs.Ytafoaonkjcfbaaa.C4p Go.Proofs.Ytafoaonkjcfbaaa.C4l
set_option maxRecDepth 100000
set_option maxHeartbeats 1000000

theorem number_r (s : Bool) (r : UInt8) (w : World) :
    Calls Try.prog 135 #[.bool s, .int .u8 (r.toNat : Int)] w fun e w' => e = .returned (.int .i64 (num s r)) ∧ w = w' := by
  have hr := r.toNat_lt
  cases s
  · go_enter Try.func135, Try.ntmps135
    go_wp2
    go_ret
    exact ⟨ret_int (by unfold num; rw [if_neg (by simp)]), rfl⟩
  · by_cases h : 128 ≤ r.toNat
    · go_enter Try.func135, Try.ntmps135
      go_wp2
      go_ret
      exact ⟨ret_int (by unfold num; rw [if_pos ⟨rfl, h⟩]), rfl⟩
    · go_enter Try.func135, Try.ntmps135
      go_wp2
      go_ret
      exact ⟨ret_int (by unfold num; rw [if_neg (fun g => h g.2)]), rfl⟩
theorem raw_r (n : Int) (w : World) (h1 : -256 ≤ n) (h2 : n ≤ 1000000) :
    Calls Try.prog 100 #[.int .i64 n] w fun e w' => e = .returned (.int .u8 ((rawOf n).toNat : Int)) ∧ w = w' := by
  have e1 := raw_nat n
  have e2 : ((rawOf n).toNat : Int) = (n + 256) % 256 := by omega
  have e3 : (n + 256).tmod 256 = (n + 256) % 256 := Int.tmod_eq_emod_of_nonneg (by omega)
  have e4 : 0 ≤ (n + 256) % 256 := Int.emod_nonneg _ (by decide)
  have e5 : (n + 256) % 256 < 256 := Int.emod_lt_of_pos _ (by decide)
  rw [e2]
  clear e1 e2
  generalize (n + 256) % 256 = z at *
  go_enter Try.func100, Try.ntmps100
  go_wp2
  go_ret
  exact ⟨rfl, rfl⟩
theorem least_r (s : Bool) (w : World) :
    Calls Try.prog 99 #[.bool s] w fun e w' => e = .returned (.int .i64 (least s)) ∧ w = w' := by
  cases s
  · go_enter Try.func99, Try.ntmps99
    go_wp2
    go_ret
    exact ⟨rfl, rfl⟩
  · go_enter Try.func99, Try.ntmps99
    go_wp2
    go_ret
    exact ⟨rfl, rfl⟩
theorem ten_nat (n : Nat) : ten (n : Int) = ((10 ^ n : Nat) : Int) := by unfold ten; rw [Int.toNat_natCast]; push_cast; rfl
end Go.Proofs.Ytafoaonkjcfbaaa.C4v
