/- Lists of fields: the program's DecodeList. -/
import Derived.Test.YtkhdldemhaifpaaFl
import Derived.Test.YtkhdldemhaifpaaFg
namespace Go.Proofs.Ytkhdldemhaifpaa.Fl
open Go.RowKit Go.Proofs.Ytkhdldemhaifpaa.Mem Go.Proofs.Ytkhdldemhaifpaa.F2p Go.Proofs.Ytkhdldemhaifpaa.Fa
set_option maxRecDepth 100000
set_option maxHeartbeats 1000000

/-- What DecodeList answers: error, bytes read, fields. -/
def dl (b : List UInt8) : Nat → Nat → List Fi → Int × Nat × List Fi
  | 0, at_, acc => if (dec (b.drop at_)).c = 0 then (if (dec (b.drop at_)).z then (0, at_ + (dec (b.drop at_)).n, acc) else (3, 0, [])) else ((dec (b.drop at_)).c, 0, [])
  | f + 1, at_, acc => if (dec (b.drop at_)).c = 0 then (if (dec (b.drop at_)).z then (0, at_ + (dec (b.drop at_)).n, acc) else dl b f (at_ + (dec (b.drop at_)).n) (acc ++ [((dec (b.drop at_)).k, ⟨(dec (b.drop at_)).v.toArray⟩)])) else ((dec (b.drop at_)).c, 0, [])
theorem dl_err {b : List UInt8} {f at_ : Nat} {acc : List Fi} (h : (dec (b.drop at_)).c ≠ 0) : dl b f at_ acc = ((dec (b.drop at_)).c, 0, []) := by
  cases f <;> (unfold dl; rw [if_neg h])
theorem dl_end {b : List UInt8} {f at_ : Nat} {acc : List Fi} (h : (dec (b.drop at_)).c = 0) (hz : (dec (b.drop at_)).z = true) : dl b f at_ acc = (0, at_ + (dec (b.drop at_)).n, acc) := by
  cases f <;> (unfold dl; rw [if_pos h, if_pos hz])
theorem dl_many {b : List UInt8} {at_ : Nat} {acc : List Fi} (h : (dec (b.drop at_)).c = 0) (hz : (dec (b.drop at_)).z = false) : dl b 0 at_ acc = (3, 0, []) := by
  unfold dl; rw [if_pos h, if_neg (by rw [hz]; simp)]
theorem dl_next {b : List UInt8} {f at_ : Nat} {acc : List Fi} (h : (dec (b.drop at_)).c = 0) (hz : (dec (b.drop at_)).z = false) : dl b (f + 1) at_ acc = dl b f (at_ + (dec (b.drop at_)).n) (acc ++ [((dec (b.drop at_)).k, ⟨(dec (b.drop at_)).v.toArray⟩)]) := by
  rw [dl, if_pos h, if_neg (by rw [hz]; simp)]
def lenOf : Value → Nat
  | .slice _ n _ => n
  | _ => 0
theorem below_grown' {base n s : Nat} {e : TypeId} {v : Value} {xs : List Value} {a w w' : World} (h : Below base a w) (ho : w.ownsRow base e s v n xs) (hg : w.grownBy w' v.ownBlock) (hB : base ≤ w.heap.size) : Below base a w' :=
  h.grown hg hB fun k hk => (ho.lt k hk).1
theorem new_pair (w : World) (g : Nat) (hg : g = w.heap.size) (u v : Value) (t : TypeId) : (w.alloc (.cells #[u, v] t)).cell? ⟨g, 0, none⟩ = some u ∧ (w.alloc (.cells #[u, v] t)).cell? ((⟨g, 0, none⟩ : Addr).add 1) = some v := by
  subst hg
  obtain ⟨h0, h1, -⟩ := pair_cells (heap_alloc_new w (.cells #[u, v] t))
  exact ⟨h0, h1⟩
theorem dec_le (l : List UInt8) : (dec l).n ≤ l.length := by
  rcases hz : (dec l).z with _ | _
  · by_cases h : (dec l).c = 0
    · exact (dec_yes h hz).2.1
    · rw [(dec_no h).1]; omega
  · obtain ⟨h1, _, _, _, h2, _⟩ := dec_z hz
    omega
set_option maxHeartbeats 3000000 in
theorem dlist_p (A : Option Addr) (n c : Nat) (l : List UInt8) (w : World) (h : Sl w A n c l) (hn : n ≤ 100000) :
    Calls Try.prog 31 #[.slice A n c] w fun e w' => ∃ A' n' c', e = .returned (.tuple #[.slice A' n' c', .int .i64 ((dl l 16 0 []).2.1 : Nat), .int .i64 (dl l 16 0 []).1]) ∧ FSl w' A' n' c' (dl l 16 0 []).2.2 ∧ Below w.heap.size w w' := by
  obtain ⟨R, hR⟩ : ∃ R, R = dl l 16 0 [] := ⟨_, rfl⟩
  rw [← hR]
  have HR := Lib.hid hR
  have HS := Lib.hid h
  have hcap := h.cap
  have hmax := h.max
  unfold maxLen at hmax
  have HL := Lib.hid h.len
  clear hR h
  go_enter Try.func31, Try.ntmps31
  go_wp2_with fail
  go_loopw [2, 3] (fun v i wr => ∃ (at_ : Nat) (acc : List Fi), at_ ≤ n ∧ acc.length ≤ 16 ∧ i = .int .i64 at_ ∧ lenOf v = acc.length ∧ FOwn w.heap.size wr v acc ∧ R = dl l (16 - acc.length) at_ acc ∧ Below w.heap.size w wr) (fun v _ _ => 17 - lenOf v)
  case atStart => exact ⟨0, [], Nat.zero_le _, by simp, rfl, rfl, FOwn.nil, HR.out, Below.refl _ _⟩
  case round =>
    obtain ⟨at_, acc, hat, hacc, rfl, hlo, hown, hRR, hbel⟩ := hrel
    have HRR := Lib.hid hRR
    have HLO := Lib.hid hlo
    clear hRR hlo
    have hz := hbel.size
    obtain ⟨A2, n2, c2, rfl, fs2⟩ := hown.sl
    have hn2 : n2 = acc.length := HLO.out
    have HN2 := Lib.hid hn2
    have hsplit : at_ = c ∨ ¬ (c = at_) := by omega
    rcases hsplit with hca | hca
    · obtain rfl := hca
      skip
      have slA : Sl wr (if at_ = at_ then A else A.map (·.add at_)) (n - at_) (at_ - at_) (l.drop at_) := by
        have h := HS.out.step hbel
        have hl := h.len
        have r1 := row_cut (n := at_) (cap := at_) h.row (by omega) (by omega)
        refine ⟨by rw [List.length_drop]; omega, r1, by omega, by unfold maxLen; omega, fun hh => ?_⟩
        split at hh
        · have := h.nil hh; omega
        · cases A with
          | none => have := h.nil rfl; omega
          | some a => cases hh
      have hcall := fun (A' : Option Addr) (hA : A' = if at_ = at_ then A else A.map (·.add at_)) (c' : Nat) (hc' : c' = at_ - at_) (m' : Nat) (hm' : m' = n - at_) => (show Calls Try.prog 22 #[.slice A' m' c'] wr fun e w' => e = out (dec (l.drop at_)).k (dec (l.drop at_)).v (dec (l.drop at_)).n (dec (l.drop at_)).z (dec (l.drop at_)).c ∧ Below wr.heap.size wr w' from by
        subst hA hc' hm'
        exact dec_p _ (n - at_) (at_ - at_) (l.drop at_) wr slA (by omega))
      have d1 := dl_err (b := l) (f := 16 - acc.length) (at_ := at_) (acc := acc)
      have d2 := dl_end (b := l) (f := 16 - acc.length) (at_ := at_) (acc := acc)
      have d3 := dl_many (b := l) (at_ := at_) (acc := acc)
      have d4 := dl_next (b := l) (f := 15 - acc.length) (at_ := at_) (acc := acc)
      have hle := dec_le (l.drop at_)
      rw [List.length_drop, ← HL.out] at hle
      generalize dec (l.drop at_) = D at *
      obtain ⟨k, v, m, z, x⟩ := D
      simp only at hcall d1 d2 d3 d4 hle
      have HC := Lib.hid hcall
      have D1 := Lib.hid d1
      have D2 := Lib.hid d2
      have D3 := Lib.hid d3
      have D4 := Lib.hid d4
      clear hcall slA d1 d2 d3 d4 hn2
      by_cases hx : x = 0
      · subst hx
        cases z
        · by_cases h16 : acc.length = 16
          · have hRx : R = (3, 0, []) := by have := HRR.out; rw [h16] at this; rw [this]; exact D3.out rfl rfl
            have HRx := Lib.hid hRx
            have t16 : ((n2 : Int) == 16) = true := by rw [beq_iff_eq]; have := HN2.out; omega
            clear hRx h16
            go_wp2_with fail
            all_goals
              refine (HC.out _ (by simp) _ (by omega) _ (by omega)).mono ?_
              rintro e w2 ⟨rfl, hb2⟩
              unfold out
              go_wp2_with fail
              go_ret3
              refine ⟨none, 0, 0, ?_, ?_, (hbel.trans (hb2.mono hz)).alloc (Nat.le_trans hz hb2.size) _⟩
              · rw [HRx.out]; rfl
              · rw [HRx.out]; exact FSl.none
          · have hRx : R = dl l (15 - acc.length) (at_ + m) (acc ++ [(k, ⟨v.toArray⟩)]) := by
              have := HRR.out
              rw [show 16 - acc.length = (15 - acc.length) + 1 by omega] at this
              rw [this]; exact D4.out rfl rfl
            have HRx := Lib.hid hRx
            have t16 : ((n2 : Int) == 16) = false := by rw [beq_eq_false_iff_ne]; have := HN2.out; omega
            have ha15 : acc.length ≤ 15 := by omega
            clear hRx h16
            go_wp2_with fail
            all_goals
              refine (HC.out _ (by simp) _ (by omega) _ (by omega)).mono ?_
              rintro e w2 ⟨rfl, hb2⟩
              unfold out
              have hbw2 : Below w.heap.size w w2 := hbel.trans (hb2.mono hz)
              have hown2 : FOwn w.heap.size w2 (.slice A2 n2 c2) acc := World.ownsRow.kept hown (⟨hb2.os, hb2.tape, hb2.output, hb2.size, fun i hi _ => hb2.block i hi⟩ : wr.grownBy w2 none) (by cases Value.ownBlock (.slice A2 n2 c2) <;> simp)
              have hst2 : (w2.alloc (.cells #[.int .i64 k, .string ⟨v.toArray⟩] 23)).heap[w2.heap.size]? = some (.cells #[.int .i64 k, .string ⟨v.toArray⟩] 23 (0, 0)) := heap_alloc_new w2 _
              have hb3 : Below w.heap.size w (w2.alloc (.cells #[.int .i64 k, .string ⟨v.toArray⟩] 23)) := hbw2.alloc hbw2.size _
              have hown3 : FOwn w.heap.size (w2.alloc (.cells #[.int .i64 k, .string ⟨v.toArray⟩] 23)) (.slice A2 n2 c2) acc := World.ownsRow.alloc hown2 _
              go_wp2_with (at_builtin; go_loud (refine wpList_append_f _ rfl _ _ rfl w.heap.size _ acc rfl (World.ownsRow.alloc hown3 _) k ⟨v.toArray⟩ _ 1 rfl (new_pair _ _ (by simp) _ _ _).1 (new_pair _ _ (by simp) _ _ _).2 (by omega) (by have := hbw2.size; simp; omega) ?_); intro v1 w5 hown5 hg5)
              have hbw5 := below_grown' (hb3.alloc (by have := hbw2.size; simp; omega) _) (World.ownsRow.alloc hown3 _) hg5 (by have := hbw2.size; simp; omega)
              have hlen5 : lenOf v1 = acc.length + 1 := by
                obtain ⟨A5, n5, c5, rfl, fs5⟩ := hown5.sl
                have := fs5.len
                rw [List.length_append] at this
                exact this
              refine ⟨⟨at_ + m, acc ++ [(k, ⟨v.toArray⟩)], by omega, by simp; omega, vi (by omega), by rw [hlen5, List.length_append]; rfl, hown5, ?_, hbw5⟩, ?_⟩
              · rw [HRx.out, List.length_append, show 16 - (acc.length + [(k, (⟨v.toArray⟩ : ByteArray))].length) = 15 - acc.length by simp <;> omega]
              · rw [hlen5, show lenOf (.slice A2 n2 _) = acc.length from HN2.out]; omega
        · have hRx : R = (0, at_ + m, acc) := by rw [HRR.out]; exact D2.out rfl rfl
          have HRx := Lib.hid hRx
          clear hRx
          go_wp2_with fail
          all_goals
            refine (HC.out _ (by simp) _ (by omega) _ (by omega)).mono ?_
            rintro e w2 ⟨rfl, hb2⟩
            unfold out
            have fs3 := (fs2.step hb2).step ((Below.refl _ _).alloc (Nat.le_refl _) (.cells #[.int .i64 k, .string ⟨v.toArray⟩] 23))
            go_wp2_with fail
            go_ret3
            refine ⟨A2, n2, c2, ?_, ?_, (hbel.trans (hb2.mono hz)).alloc (Nat.le_trans hz hb2.size) _⟩
            · rw [HRx.out]; rfl
            · rw [HRx.out]; exact fs3
      · have hxx : (x != 0) = true := by simpa using hx
        have hRx : R = (x, 0, []) := by rw [HRR.out]; exact D1.out hx
        have HRx := Lib.hid hRx
        clear hRx hx
        go_wp2_with fail
        all_goals
          refine (HC.out _ (by simp) _ (by omega) _ (by omega)).mono ?_
          rintro e w2 ⟨rfl, hb2⟩
          unfold out
          go_wp2_with fail
          go_ret3
          refine ⟨none, 0, 0, ?_, ?_, (hbel.trans (hb2.mono hz)).alloc (Nat.le_trans hz hb2.size) _⟩
          · rw [HRx.out]; rfl
          · rw [HRx.out]; exact FSl.none
    · skip
      have slA : Sl wr (if c = at_ then A else A.map (·.add at_)) (n - at_) (c - at_) (l.drop at_) := by
        have h := HS.out.step hbel
        have hl := h.len
        have r1 := row_cut (n := at_) (cap := c) h.row (by omega) (by omega)
        refine ⟨by rw [List.length_drop]; omega, r1, by omega, by unfold maxLen; omega, fun hh => ?_⟩
        split at hh
        · have := h.nil hh; omega
        · cases A with
          | none => have := h.nil rfl; omega
          | some a => cases hh
      have hcall := fun (A' : Option Addr) (hA : A' = if c = at_ then A else A.map (·.add at_)) (c' : Nat) (hc' : c' = c - at_) (m' : Nat) (hm' : m' = n - at_) => (show Calls Try.prog 22 #[.slice A' m' c'] wr fun e w' => e = out (dec (l.drop at_)).k (dec (l.drop at_)).v (dec (l.drop at_)).n (dec (l.drop at_)).z (dec (l.drop at_)).c ∧ Below wr.heap.size wr w' from by
        subst hA hc' hm'
        exact dec_p _ (n - at_) (c - at_) (l.drop at_) wr slA (by omega))
      have d1 := dl_err (b := l) (f := 16 - acc.length) (at_ := at_) (acc := acc)
      have d2 := dl_end (b := l) (f := 16 - acc.length) (at_ := at_) (acc := acc)
      have d3 := dl_many (b := l) (at_ := at_) (acc := acc)
      have d4 := dl_next (b := l) (f := 15 - acc.length) (at_ := at_) (acc := acc)
      have hle := dec_le (l.drop at_)
      rw [List.length_drop, ← HL.out] at hle
      generalize dec (l.drop at_) = D at *
      obtain ⟨k, v, m, z, x⟩ := D
      simp only at hcall d1 d2 d3 d4 hle
      have HC := Lib.hid hcall
      have D1 := Lib.hid d1
      have D2 := Lib.hid d2
      have D3 := Lib.hid d3
      have D4 := Lib.hid d4
      clear hcall slA d1 d2 d3 d4 hn2
      by_cases hx : x = 0
      · subst hx
        cases z
        · by_cases h16 : acc.length = 16
          · have hRx : R = (3, 0, []) := by have := HRR.out; rw [h16] at this; rw [this]; exact D3.out rfl rfl
            have HRx := Lib.hid hRx
            have t16 : ((n2 : Int) == 16) = true := by rw [beq_iff_eq]; have := HN2.out; omega
            clear hRx h16
            go_wp2_with fail
            all_goals
              refine (HC.out _ (by simp_all) _ (by omega) _ (by omega)).mono ?_
              rintro e w2 ⟨rfl, hb2⟩
              unfold out
              go_wp2_with fail
              go_ret3
              refine ⟨none, 0, 0, ?_, ?_, (hbel.trans (hb2.mono hz)).alloc (Nat.le_trans hz hb2.size) _⟩
              · rw [HRx.out]; rfl
              · rw [HRx.out]; exact FSl.none
          · have hRx : R = dl l (15 - acc.length) (at_ + m) (acc ++ [(k, ⟨v.toArray⟩)]) := by
              have := HRR.out
              rw [show 16 - acc.length = (15 - acc.length) + 1 by omega] at this
              rw [this]; exact D4.out rfl rfl
            have HRx := Lib.hid hRx
            have t16 : ((n2 : Int) == 16) = false := by rw [beq_eq_false_iff_ne]; have := HN2.out; omega
            have ha15 : acc.length ≤ 15 := by omega
            clear hRx h16
            go_wp2_with fail
            all_goals
              refine (HC.out _ (by simp_all) _ (by omega) _ (by omega)).mono ?_
              rintro e w2 ⟨rfl, hb2⟩
              unfold out
              have hbw2 : Below w.heap.size w w2 := hbel.trans (hb2.mono hz)
              have hown2 : FOwn w.heap.size w2 (.slice A2 n2 c2) acc := World.ownsRow.kept hown (⟨hb2.os, hb2.tape, hb2.output, hb2.size, fun i hi _ => hb2.block i hi⟩ : wr.grownBy w2 none) (by cases Value.ownBlock (.slice A2 n2 c2) <;> simp)
              have hst2 : (w2.alloc (.cells #[.int .i64 k, .string ⟨v.toArray⟩] 23)).heap[w2.heap.size]? = some (.cells #[.int .i64 k, .string ⟨v.toArray⟩] 23 (0, 0)) := heap_alloc_new w2 _
              have hb3 : Below w.heap.size w (w2.alloc (.cells #[.int .i64 k, .string ⟨v.toArray⟩] 23)) := hbw2.alloc hbw2.size _
              have hown3 : FOwn w.heap.size (w2.alloc (.cells #[.int .i64 k, .string ⟨v.toArray⟩] 23)) (.slice A2 n2 c2) acc := World.ownsRow.alloc hown2 _
              go_wp2_with (at_builtin; go_loud (refine wpList_append_f _ rfl _ _ rfl w.heap.size _ acc rfl (World.ownsRow.alloc hown3 _) k ⟨v.toArray⟩ _ 1 rfl (new_pair _ _ (by simp) _ _ _).1 (new_pair _ _ (by simp) _ _ _).2 (by omega) (by have := hbw2.size; simp; omega) ?_); intro v1 w5 hown5 hg5)
              have hbw5 := below_grown' (hb3.alloc (by have := hbw2.size; simp; omega) _) (World.ownsRow.alloc hown3 _) hg5 (by have := hbw2.size; simp; omega)
              have hlen5 : lenOf v1 = acc.length + 1 := by
                obtain ⟨A5, n5, c5, rfl, fs5⟩ := hown5.sl
                have := fs5.len
                rw [List.length_append] at this
                exact this
              refine ⟨⟨at_ + m, acc ++ [(k, ⟨v.toArray⟩)], by omega, by simp; omega, vi (by omega), by rw [hlen5, List.length_append]; rfl, hown5, ?_, hbw5⟩, ?_⟩
              · rw [HRx.out, List.length_append, show 16 - (acc.length + [(k, (⟨v.toArray⟩ : ByteArray))].length) = 15 - acc.length by simp <;> omega]
              · rw [hlen5, show lenOf (.slice A2 n2 _) = acc.length from HN2.out]; omega
        · have hRx : R = (0, at_ + m, acc) := by rw [HRR.out]; exact D2.out rfl rfl
          have HRx := Lib.hid hRx
          clear hRx
          go_wp2_with fail
          all_goals
            refine (HC.out _ (by simp_all) _ (by omega) _ (by omega)).mono ?_
            rintro e w2 ⟨rfl, hb2⟩
            unfold out
            have fs3 := (fs2.step hb2).step ((Below.refl _ _).alloc (Nat.le_refl _) (.cells #[.int .i64 k, .string ⟨v.toArray⟩] 23))
            go_wp2_with fail
            go_ret3
            refine ⟨A2, n2, c2, ?_, ?_, (hbel.trans (hb2.mono hz)).alloc (Nat.le_trans hz hb2.size) _⟩
            · rw [HRx.out]; rfl
            · rw [HRx.out]; exact fs3
      · have hxx : (x != 0) = true := by simpa using hx
        have hRx : R = (x, 0, []) := by rw [HRR.out]; exact D1.out hx
        have HRx := Lib.hid hRx
        clear hRx hx
        go_wp2_with fail
        all_goals
          refine (HC.out _ (by simp_all) _ (by omega) _ (by omega)).mono ?_
          rintro e w2 ⟨rfl, hb2⟩
          unfold out
          go_wp2_with fail
          go_ret3
          refine ⟨none, 0, 0, ?_, ?_, (hbel.trans (hb2.mono hz)).alloc (Nat.le_trans hz hb2.size) _⟩
          · rw [HRx.out]; rfl
          · rw [HRx.out]; exact FSl.none
end Go.Proofs.Ytkhdldemhaifpaa.Fl
