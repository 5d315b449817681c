/- Lists of points: words, appends. Walks: the reference of conversions: numbers, powers of ten. -/
import Derived.Test.YtekhpcfggbegaaaS07
import Derived.StillTailTactics
namespace Go.Proofs.Ytekhpcfggbegaaa.C4l
open Go.RowKit Go.Proofs.Ytekhpcfggbegaaa.Mem Go.Proofs.Ytekhpcfggbegaaa.C4p
set_option maxRecDepth 100000
set_option maxHeartbeats 1000000

abbrev Pt := UInt8 × Int
theorem add_next (p : Addr) : p.add 1 = ⟨p.block, p.off + 1, none⟩ := rfl
def pvs : List Pt → List Value
  | [] => []
  | x :: l => .int .u8 (x.1.toNat : Int) :: .int .i64 x.2 :: pvs l
theorem pvs_len (l : List Pt) : (pvs l).length = l.length * 2 := by
  induction l with
  | nil => rfl
  | cons x l ih => simp only [pvs, List.length_cons, ih]; omega
theorem pvs_app (a b : List Pt) : pvs (a ++ b) = pvs a ++ pvs b := by
  induction a with
  | nil => rfl
  | cons x a ih => simp only [List.cons_append, pvs, ih]
theorem pvs_one (l : List Pt) : ∀ u ∈ pvs l, u.oneCell' = true := by
  induction l with
  | nil => intro u hu; cases hu
  | cons x l ih =>
    intro u hu
    simp only [pvs, List.mem_cons] at hu
    rcases hu with rfl | rfl | hu
    · rfl
    · rfl
    · exact ih u hu
theorem pvs_get : ∀ (l : List Pt) (k : Nat) (h : k < l.length), (pvs l)[k * 2]? = some (.int .u8 (l[k].1.toNat : Int)) ∧ (pvs l)[k * 2 + 1]? = some (.int .i64 l[k].2)
  | x :: l, 0, _ => ⟨rfl, rfl⟩
  | x :: l, k + 1, h => by
    have := pvs_get l k (by simpa using h)
    rw [show (k + 1) * 2 = k * 2 + 1 + 1 by omega]
    simpa [pvs] using this
abbrev PRow (B : Nat) (w : World) (A : Option Addr) (l : List Pt) : Prop := Rd B w A (pvs l)
theorem prow_at {B : Nat} {w : World} {A : Option Addr} {l : List Pt} (h : PRow B w A l) {k : Nat} (hk : k < l.length) :
    ∃ a, A = some a ∧ a.block < B ∧ w.cell? (a.add (k * 2)) = some (.int .u8 (l[k].1.toNat : Int)) ∧ w.cell? (a.add (k * 2 + 1)) = some (.int .i64 l[k].2) := by
  obtain ⟨g0, g1⟩ := pvs_get l k hk
  obtain ⟨a, e, hb, hc⟩ := h (by rw [pvs_len]; omega)
  have h0 := hc (k * 2) (by rw [pvs_len]; omega)
  have h1 := hc (k * 2 + 1) (by rw [pvs_len]; omega)
  refine ⟨a, e, hb, ?_, ?_⟩
  · rw [h0]; rw [List.getElem?_eq_getElem (by rw [pvs_len]; omega)] at g0; exact g0
  · rw [h1]; rw [List.getElem?_eq_getElem (by rw [pvs_len]; omega)] at g1; exact g1
/-- A slice of fields that is read. -/
structure PSl (w : World) (A : Option Addr) (n c : Nat) (l : List Pt) : Prop where
  len : n = l.length
  row : PRow w.heap.size w A l
  cap : n ≤ c
  max : c ≤ maxLen
  nil : A = none → c = 0
theorem PSl.step {w w' : World} {A : Option Addr} {n c : Nat} {l : List Pt} (h : PSl w A n c l) (hb : Below w.heap.size w w') : PSl w' A n c l := ⟨h.len, (h.row.below hb).more hb.size, h.cap, h.max, h.nil⟩
theorem PSl.none {w : World} : PSl w none 0 0 [] := ⟨rfl, Rd.nil, Nat.le_refl _, by unfold maxLen; omega, fun _ => rfl⟩
/-- A slice of fields of the call's own. -/
def POwn (base : Nat) (w : World) (v : Value) (l : List Pt) : Prop := w.ownsRow base 139 2 v l.length (pvs l)
theorem POwn.nil {base : Nat} {w : World} : POwn base w (.slice .none 0 0) [] := ⟨by simp [pvs], .inl ⟨rfl, by simp⟩⟩
theorem POwn.sl {base : Nat} {w : World} {v : Value} {l : List Pt} (h : POwn base w v l) : ∃ A n c, v = .slice A n c ∧ PSl w A n c l := by
  rcases h.2 with ⟨rfl, h0⟩ | ⟨g, cap, cur, rfl, hg, hh, h1, h2, _⟩
  · obtain rfl : l = [] := List.length_eq_zero_iff.1 h0
    exact ⟨_, _, _, rfl, PSl.none⟩
  · refine ⟨_, _, _, rfl, rfl, fun hl => ?_, h1, h2, fun e => by cases e⟩
    have hlt : g < w.heap.size := by
      rcases Nat.lt_or_ge g w.heap.size with h3 | h3
      · exact h3
      · rw [Array.getElem?_eq_none h3] at hh; cases hh
    exact ⟨_, rfl, hlt, fun k hk => World.ownsRow.cells h (g := g) rfl k _ (List.getElem?_eq_getElem hk)⟩
theorem infoP : (Try.prog.info? 139).map (fun i => (i.zero, i.size, i.bytes)) = some (some (.agg #[.int .u8 0, .int .i64 0]), 2, 16) := by kernel_rfl
theorem run_append_p (w : World) (base : Nat) (ty : TypeId) (v : Value) (l : List Pt) (hown : POwn base w v l) (k : UInt8) (s : Int) (a : Addr) (c : Nat) (h0 : w.cell? a = some (.int .u8 (k.toNat : Int))) (h1 : w.cell? (a.add 1) = some (.int .i64 s))
    (hl : l.length ≤ 1000) (hbase : base ≤ w.heap.size) :
    ∃ v' w', (Builtin.append_ #[24, 24] ty #[v, .slice (some a) 1 c]).run Try.prog w = .ok v' w' ∧ POwn base w' v' (l ++ [(k, s)]) ∧ w.grownBy w' v.ownBlock := by
  obtain ⟨i, hi, hz0, hz1, hz2⟩ := info_parts infoP
  have hn : ∀ (j : Nat) (u : Value), ([.int .u8 (k.toNat : Int), .int .i64 s] : List Value)[j]? = some u → w.cell? (a.add j) = some u := fun j u hu => by
    match j with
    | 0 => simp at hu; subst hu; simpa [Addr.add] using h0
    | 1 => simp at hu; subst hu; exact h1
    | j + 2 => simp at hu
  obtain ⟨v', w', hrun, h2, h3, _, _⟩ := run_append_own_at (P := Try.prog) w base 24 ty 139 i _ 2 16 Try.underlying24 hi hz0 hz1 hz2 rfl (by omega) v l.length (pvs l) hown a 1 c [.int .u8 (k.toNat : Int), .int .i64 s] rfl hn
    (fun u hu => pvs_one [(k, s)] u (by simpa [pvs] using hu)) (by unfold maxLen; omega) (by omega) hbase
  refine ⟨v', w', hrun, ?_, h3⟩
  unfold POwn
  rw [pvs_app, List.length_append]
  exact h2
theorem wpList_append_p {ops : Array Oper} {rest : List Oper} {o : Oper} {a : Act} {Q : Exit → Act → World → Prop} (w : World) (hgd : o.guard = none) (s x : Operand)
    (ho : o.op = .call { callee := .builtin .append, args := #[s, x], argTypes := #[24, 24] })
    (base : Nat) (v : Value) (l : List Pt) (hs : a.eval s = v) (hown : POwn base w v l) (k : UInt8) (t : Int) (p : Addr) (c : Nat) (hx : a.eval x = .slice (some p) 1 c)
    (h0 : w.cell? p = some (.int .u8 (k.toNat : Int))) (h1 : w.cell? (p.add 1) = some (.int .i64 t)) (hl : l.length ≤ 1000) (hbase : base ≤ w.heap.size)
    (h : ∀ v' w', POwn base w' v' (l ++ [(k, t)]) → w.grownBy w' v.ownBlock → wpList Try.prog ops Q rest (a.put o.dst v') w') : wpList Try.prog ops Q (o :: rest) a w := by
  refine wpList_plain hgd fun K hK => ?_
  obtain ⟨v', w', hrun, h2, h3⟩ := run_append_p w base o.type v l hown k t p c h0 h1 hl hbase
  unfold Oper.wp execOp
  simp only [ho, resolve, invoke, builtin, Sem.run_bind, Sem.run_pure, Result.andThen_ok, List.map_toArray, List.map_cons, List.map_nil, hs, hx, hrun]
  exact hK _ _ (h v' w' h2 h3)
end Go.Proofs.Ytekhpcfggbegaaa.C4l
namespace Go.Proofs.Ytekhpcfggbegaaa.C4v
open Go.RowKit Go.Proofs.Ytekhpcfggbegaaa.Mem Go.Proofs.Ytekhpcfggbegaaa.M3p Go.Proofs.Ytekhpcfggbegaaa.C4p Go.Proofs.Ytekhpcfggbegaaa.C4l
set_option maxRecDepth 100000
set_option maxHeartbeats 1000000

theorem number_r (s : Bool) (r : UInt8) (w : World) :
    Calls Try.prog 27 #[.bool s, .int .u8 (r.toNat : Int)] w fun e w' => e = .returned (.int .i64 (num s r)) ∧ w = w' := by
  have hr := r.toNat_lt
  cases s
  · go_enter Try.func27, Try.ntmps27
    go_wp2
    go_ret
    exact ⟨ret_int (by unfold num; rw [if_neg (by simp)]), rfl⟩
  · by_cases h : 128 ≤ r.toNat
    · go_enter Try.func27, Try.ntmps27
      go_wp2
      go_ret
      exact ⟨ret_int (by unfold num; rw [if_pos ⟨rfl, h⟩]), rfl⟩
    · go_enter Try.func27, Try.ntmps27
      go_wp2
      go_ret
      exact ⟨ret_int (by unfold num; rw [if_neg (fun g => h g.2)]), rfl⟩
theorem raw_r (n : Int) (w : World) (h1 : -256 ≤ n) (h2 : n ≤ 1000000) :
    Calls Try.prog 86 #[.int .i64 n] w fun e w' => e = .returned (.int .u8 ((rawOf n).toNat : Int)) ∧ w = w' := by
  have e1 := raw_nat n
  have e2 : ((rawOf n).toNat : Int) = (n + 256) % 256 := by omega
  have e3 : (n + 256).tmod 256 = (n + 256) % 256 := Int.tmod_eq_emod_of_nonneg (by omega)
  have e4 : 0 ≤ (n + 256) % 256 := Int.emod_nonneg _ (by decide)
  have e5 : (n + 256) % 256 < 256 := Int.emod_lt_of_pos _ (by decide)
  rw [e2]
  clear e1 e2
  generalize (n + 256) % 256 = z at *
  go_enter Try.func86, Try.ntmps86
  go_wp2
  go_ret
  exact ⟨rfl, rfl⟩
theorem least_r (s : Bool) (w : World) :
    Calls Try.prog 85 #[.bool s] w fun e w' => e = .returned (.int .i64 (least s)) ∧ w = w' := by
  cases s
  · go_enter Try.func85, Try.ntmps85
    go_wp2
    go_ret
    exact ⟨rfl, rfl⟩
  · go_enter Try.func85, Try.ntmps85
    go_wp2
    go_ret
    exact ⟨rfl, rfl⟩
theorem ten_nat (n : Nat) : ten (n : Int) = ((10 ^ n : Nat) : Int) := by unfold ten; rw [Int.toNat_natCast]; push_cast; rfl
end Go.Proofs.Ytekhpcfggbegaaa.C4v
