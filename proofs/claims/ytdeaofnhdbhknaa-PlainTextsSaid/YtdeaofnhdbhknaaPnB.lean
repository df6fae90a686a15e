/- Rows of lines with their levels: append of one, read by their cells; WALK of rowSize and its two tests. No statement is proved here. Own work of the verifier. -/
import Derived.Test.YtdeaofnhdbhknaaPnA
import Derived.Test.YtdeaofnhdbhknaaPlnM
import Derived.IntWalk
namespace Go.Proofs.Ytdeaofnhdbhknaa
open Go.RowKit
set_option linter.unusedVariables false
set_option linter.unusedSimpArgs false
set_option maxRecDepth 100000
def lnVals (l : List LnL) : List Value := l.flatMap fun f => [Value.int .i64 (f.1 : Int), Value.string (str f.2)]
theorem lnVals_length (l : List LnL) : (lnVals l).length = l.length * 2 := by
  induction l with
  | nil => rfl
  | cons f r ih => unfold lnVals at *; rw [List.flatMap_cons, List.length_append, ih]; simp; omega
theorem lnVals_append (a b : List LnL) : lnVals (a ++ b) = lnVals a ++ lnVals b := by unfold lnVals; rw [List.flatMap_append]
theorem lnVals_at {l : List LnL} {j : Nat} {f : LnL} (h : l[j]? = some f) : (lnVals l)[j * 2]? = some (.int .i64 (f.1 : Int)) ∧ (lnVals l)[j * 2 + 1]? = some (.string (str f.2)) := by
  induction l generalizing j with
  | nil => simp at h
  | cons g r ih =>
    cases j with
    | zero => simp at h; subst h; exact ⟨rfl, rfl⟩
    | succ j =>
      have := ih (j := j) (by simpa using h)
      have e : lnVals (g :: r) = Value.int .i64 (g.1 : Int) :: Value.string (str g.2) :: lnVals r := rfl
      rw [e, show (j + 1) * 2 = j * 2 + 1 + 1 by omega]
      simpa using this
theorem info_ln : (Try.prog.info? 42).map (fun i => (i.zero, i.size, i.bytes)) = some (some (.agg #[.int .i64 0, .string ByteArray.empty]), 2, 24) := by kernel_rfl
/-- a row of lines that the call owns -/
def LnRow (B : Nat) (v : Value) (l : List LnL) (w : World) : Prop := w.ownsRow B 42 2 v l.length (lnVals l)
theorem two_ln (w : World) (x y : Value) (t : TypeId) : (w.alloc (.cells #[x, y] t)).cell? ((⟨w.heap.size, 0, none⟩ : Addr).add 0) = some x ∧ (w.alloc (.cells #[x, y] t)).cell? ((⟨w.heap.size, 0, none⟩ : Addr).add 1) = some y := by
  have e0 : (⟨w.heap.size, 0, none⟩ : Addr).add 0 = ⟨w.heap.size, 0, none⟩ := by rw [Addr.add_lit]
  have e1 : (⟨w.heap.size, 0, none⟩ : Addr).add 1 = ⟨w.heap.size, 1, none⟩ := by rw [Addr.add_lit]
  rw [e0, e1, World.cell?_alloc_at _ _ _ _ rfl, World.cell?_alloc_at _ _ _ _ rfl]
  exact ⟨rfl, rfl⟩
/-- append(l, x): the one line lies at ad -/
theorem wpList_lns {ops : Array Oper} {rest : List Oper} {o : Oper} {a : Act} {Q : Exit → Act → World → Prop} {w : World} (hgd : o.guard = none) (s x : Operand)
    (ho : o.op = .call { callee := .builtin .append, args := #[s, x], argTypes := #[40, 40] })
    (B : Nat) (v : Value) (l : List LnL) (hs : a.eval s = v) (f : LnL) (hb : LnRow B v l w) (hB : B ≤ w.heap.size) (ad : Addr)
    (hx : a.eval x = .slice (some ad) 1 1) (h0 : w.cell? (ad.add 0) = some (.int .i64 (f.1 : Int))) (h1 : w.cell? (ad.add 1) = some (.string (str f.2))) (hlen : l.length + 1 ≤ 4398046511104)
    (h : ∀ v' w', LnRow B v' (l ++ [f]) w' → w.grownBy w' v.ownBlock → (v'.ownBlock = v.ownBlock ∨ v'.ownBlock = some w.heap.size) → wpList Try.prog ops Q rest (a.put o.dst v') w') : wpList Try.prog ops Q (o :: rest) a w := by
  obtain ⟨i0, hi, hz0, hz1, hz2⟩ := info_parts info_ln
  refine wpList_append_own2 _ hgd s x 40 ho B 42 i0 (.agg #[.int .i64 0, .string ByteArray.empty]) 2 24 Try.underlying40 hi hz0 hz1 hz2 rfl (by decide) v l.length (lnVals l) hs hb ad 1 1 [.int .i64 (f.1 : Int), .string (str f.2)] hx rfl ?_ ?_ (by unfold maxLen; omega) (by omega) hB ?_
  · intro j u hj
    match j, hj with
    | 0, hj => simp at hj; subst hj; exact h0
    | 1, hj => simp at hj; subst hj; exact h1
    | (j + 2), hj => simp at hj
  · intro u hu; simp at hu; rcases hu with rfl | rfl <;> rfl
  · intro v' w' ho' hg hor
    refine h v' w' ?_ hg hor
    unfold LnRow
    rw [lnVals_append, List.length_append]
    exact ho'
/-! ### read -/
def LnAt (w : World) (a : Addr) (l : List LnL) : Prop := ∀ j (p : LnL), l[j]? = some p → w.cell? (a.add (j * 2)) = some (.int .i64 (p.1 : Int)) ∧ w.cell? (a.add (j * 2 + 1)) = some (.string (str p.2))
def LnIn (w : World) (v : Value) (l : List LnL) : Prop := (v = .slice none 0 0 ∧ l = []) ∨ ∃ a cap, v = .slice (some a) l.length cap ∧ l.length ≤ cap ∧ cap ≤ maxLen ∧ LnAt w a l
theorem LnAt.kept {w w' : World} {a : Addr} {l : List LnL} (h : LnAt w a l) (hb : Below w.heap.size w w') : LnAt w' a l := fun j p hj => by
  obtain ⟨c1, c2⟩ := h j p hj
  exact ⟨(hb.cell (World.block_lt_of_cell? _ _ c1)).trans c1, (hb.cell (World.block_lt_of_cell? _ _ c2)).trans c2⟩
theorem LnIn.kept {w w' : World} {v : Value} {l : List LnL} (h : LnIn w v l) (hb : Below w.heap.size w w') : LnIn w' v l := by
  rcases h with h | ⟨a, cap, h1, h2, h3, h4⟩
  · exact .inl h
  · exact .inr ⟨a, cap, h1, h2, h3, h4.kept hb⟩
theorem LnIn.form {w : World} {v : Value} {l : List LnL} (h : LnIn w v l) : ∃ a cap, v = .slice a l.length cap := by
  rcases h with ⟨rfl, rfl⟩ | ⟨a, cap, rfl, _⟩
  · exact ⟨_, _, rfl⟩
  · exact ⟨_, _, rfl⟩
theorem LnIn.some {w : World} {A : Option Addr} {n c : Nat} {l : List LnL} (h : LnIn w (.slice A n c) l) (hl : l ≠ []) : ∃ a, A = .some a ∧ n = l.length ∧ l.length ≤ c ∧ c ≤ maxLen ∧ LnAt w a l := by
  rcases h with ⟨_, h⟩ | ⟨a, cap, h1, h2, h3, h4⟩
  · exact absurd h hl
  · injection h1 with e1 e2 e3
    subst e3
    exact ⟨a, e1, e2, h2, h3, h4⟩
theorem LnAt.at {w : World} {a : Addr} {l : List LnL} (h : LnAt w a l) {j : Nat} {p : LnL} (hj : l[j]? = .some p) : w.cell? (a.add (j * 2)) = .some (.int .i64 (p.1 : Int)) ∧ w.cell? { block := (a.add (j * 2)).block, off := (a.add (j * 2)).off + 1 } = .some (.string (str p.2)) := by
  have e3 : ({ block := (a.add (j * 2)).block, off := (a.add (j * 2)).off + 1 } : Addr) = a.add (j * 2 + 1) := by rw [← Addr.add_add]; rfl
  rw [e3]; exact h j p hj
theorem LnAt.drop {w : World} {a : Addr} {l : List LnL} (h : LnAt w a l) (k : Nat) : LnAt w (a.add (k * 2)) (l.drop k) := fun j p hj => by
  rw [List.getElem?_drop] at hj
  have := h (k + j) p hj
  rw [Addr.add_add, Addr.add_add, show k * 2 + j * 2 = (k + j) * 2 by omega, show k * 2 + (j * 2 + 1) = (k + j) * 2 + 1 by omega]
  exact this
theorem LnAt.take {w : World} {a : Addr} {l : List LnL} (h : LnAt w a l) (k : Nat) : LnAt w a (l.take k) := fun j p hj => by
  rw [List.getElem?_take] at hj
  split at hj
  · exact h j p hj
  · cases hj
theorem LnRow.in {B : Nat} {v : Value} {l : List LnL} {w : World} (h : LnRow B v l w) : LnIn w v l := by
  rcases h.2 with ⟨rfl, h0⟩ | ⟨g, cap, cur, rfl, hg, hh, hc, hm, _⟩
  · exact .inl ⟨rfl, List.eq_nil_of_length_eq_zero h0⟩
  · refine .inr ⟨⟨g, 0, none⟩, cap, rfl, hc, hm, fun j p hj => ?_⟩
    obtain ⟨a1, a2⟩ := lnVals_at hj
    have h1 : w.ownsRow B 42 2 (.slice (.some ⟨g, 0, none⟩) l.length cap) l.length (lnVals l) := h
    exact ⟨h1.cells (g := g) rfl _ _ a1, h1.cells (g := g) rfl _ _ a2⟩
def lnV (p : LnL) : Value := .agg #[.int .i64 (p.1 : Int), .string (str p.2)]
/-- what a test of a line does -/
def TestOK (b : Nat) (lv : Nat) (K : Nat) (f : LnL → Bool) : Prop := ∀ (p : LnL) (w : World), p.1 ≤ 20 → w.cell? ⟨b, 0, none⟩ = .some (.int .i64 (lv : Int)) →
  Calls Try.prog K #[lnV p, .pointer (.some ⟨b, 0, none⟩)] w fun e w' => e = .returned (.bool (f p)) ∧ Below w.heap.size w w'
theorem here_any (b lv : Nat) : TestOK b lv 35 (fun p => p.1 == lv) := by
  intro p w hp hc
  have hc2 : ∀ ob, (w.alloc ob).cell? ⟨b, 0, none⟩ = .some (.int .i64 (lv : Int)) := fun ob => ((below_one w ob).cell (World.block_lt_of_cell? _ _ hc)).trans hc
  have hr : ((p.1 : Int) == (lv : Int)) = (p.1 == lv) := by
    cases h : (p.1 == lv) with
    | true => rw [beq_iff_eq] at h ⊢; rw [h]
    | false => rw [beq_eq_false_iff_ne] at h ⊢; omega
  unfold lnV
  go_enter Try.func35, Try.ntmps35
  go_wp2_with fail
  go_ret
  exact ⟨rfl, below_one w _⟩
theorem deeper_any (b lv : Nat) : TestOK b lv 36 (fun p => decide (lv < p.1)) := by
  intro p w hp hc
  have hc2 : ∀ ob, (w.alloc ob).cell? ⟨b, 0, none⟩ = .some (.int .i64 (lv : Int)) := fun ob => ((below_one w ob).cell (World.block_lt_of_cell? _ _ hc)).trans hc
  have hr : decide ((lv : Int) < (p.1 : Int)) = decide (lv < p.1) := by
    by_cases h : lv < p.1
    · rw [decide_eq_true h, decide_eq_true (by omega)]
    · rw [decide_eq_false h, decide_eq_false (by omega)]
  unfold lnV
  go_enter Try.func36, Try.ntmps36
  go_wp2_with fail
  go_ret
  exact ⟨by rw [← hr]; rfl, below_one w _⟩
set_option maxHeartbeats 1000000 in
/-- how many lines at a row's begin are as the test asks -/
theorem rowSize_any (K b lv : Nat) (f : LnL → Bool) (hK : ∀ args w, (callFunc K args).run Try.prog w = .ok (.enter K args) w) (hT : TestOK b lv K f) (v : Value) (l : List LnL) (w : World) (hl : LnIn w v l) (hlen : l.length ≤ 1000000) (hlv : ∀ p ∈ l, p.1 ≤ 20) (hc : w.cell? ⟨b, 0, none⟩ = .some (.int .i64 (lv : Int))) :
    Calls Try.prog 37 #[v, .func (.func K) #[] #[.pointer (.some ⟨b, 0, none⟩)]] w fun e w' => e = .returned (.int .i64 ((l.takeWhile f).length : Int)) ∧ Below w.heap.size w w' := by
  obtain ⟨A, c, rfl⟩ := hl.form
  have H := hide hl
  have HT := hide hT
  have HLV := hide hlv
  have HC := hide hc
  clear hl hT hlv hc
  go_enter Try.func37, Try.ntmps37
  go_wp2_with fail
  go_loopw [9] (fun i wr => ∃ k : Nat, k ≤ l.length ∧ i = .int .i64 k ∧ Hid (Below w.heap.size w wr) ∧ Hid ((l.takeWhile f).length = k + ((l.drop k).takeWhile f).length)) (fun i _ => l.length - (intOf i).toNat)
  case atStart => exact ⟨0, Nat.zero_le _, rfl, hide (Below.refl _ _), hide (by simp)⟩
  case round =>
    obtain ⟨k, hk, rfl, HB, HD⟩ := hrel
    by_cases hlt : k < l.length
    · obtain ⟨p, hp⟩ : ∃ p, l[k]? = .some p := ⟨_, List.getElem?_eq_getElem hlt⟩
      have hmem : p ∈ l := List.mem_of_getElem? hp
      obtain ⟨a, rfl, hn, hcap, hmax, hat⟩ := (H.out.kept HB.out).some (fun e => by rw [e] at hlt; simp at hlt)
      obtain ⟨c0, c1⟩ := hat.at hp
      have hd : l.drop k = p :: l.drop (k + 1) := by
        rw [List.drop_eq_getElem_cons hlt]; congr 1; rw [List.getElem?_eq_getElem hlt] at hp; exact Option.some.inj hp
      have hb1 := below_one wr (Obj.cells #[.int .i64 (p.1 : Int), .string (str p.2)] 42)
      have HB1 := hide (bl_two HB.out hb1)
      have hcb : (wr.alloc (Obj.cells #[.int .i64 (p.1 : Int), .string (str p.2)] 42)).cell? ⟨b, 0, none⟩ = .some (.int .i64 (lv : Int)) := (HB1.out.cell (World.block_lt_of_cell? _ _ HC.out)).trans HC.out
      have HCL := hide (HT.out p _ (HLV.out p hmem) hcb)
      have HN : Hid ((l.takeWhile f).length = if f p = true then k + 1 + ((l.drop (k + 1)).takeWhile f).length else k) := hide (by
        rw [HD.out, hd, List.takeWhile_cons]
        split
        · rw [List.length_cons]; omega
        · simp)
      cases hf : f p with
      | true =>
        rw [hf] at HN HCL
        unfold lnV at HCL
        clear hmem hat hd hb1 hcb hcap hmax hp hf
        go_wp2_with fail
        refine HCL.out.mono ?_
        rintro e w2 ⟨rfl, hb2⟩
        have HB2 := hide (bl_two HB1.out hb2)
        go_wp2_with fail
        go_roundw
        case rel => exact ⟨k + 1, by omega, by go_num, HB2, hide (by rw [HN.out]; simp)⟩
        case measure => simp [intOf]; omega
      | false =>
        rw [hf] at HN HCL
        unfold lnV at HCL
        clear hmem hat hd hb1 hcb hcap hmax hp hf
        go_wp2_with fail
        refine HCL.out.mono ?_
        rintro e w2 ⟨rfl, hb2⟩
        have HB2 := hide (bl_two HB1.out hb2)
        go_wp2_with fail
        go_ret
        exact ⟨by rw [HN.out]; simp, HB2.out⟩
    · obtain rfl : k = l.length := by omega
      have HN : Hid ((l.takeWhile f).length = l.length) := hide (by rw [HD.out, List.drop_length]; simp)
      go_wp2_with fail
      go_ret
      exact ⟨by rw [HN.out]; rfl, HB.out⟩
end Go.Proofs.Ytdeaofnhdbhknaa
