/- A []raw that the call owns, each with a []string of its own: one more, one more line of the last one, kept. No statement is proved here. -/
import Derived.Test.YtcndklegoadjcaaDoorFBuf
import Derived.Test.YtcndklegoadjcaaDoorLinesE
import Derived.Test.YtcndklegoadjcaaDoorStrs
namespace Go.Proofs.YtcndklegoadjcaaDoor
open Go.RowKit
set_option linter.unusedVariables false
set_option linter.unusedSimpArgs false

/-- a block that is no row of e is no row's own -/
theorem ownsRow_ne {w : World} {B : Nat} {e : TypeId} {sz n : Nat} {v : Value} {xs : List Value} (h : w.ownsRow B e sz v n xs) {r : Nat} (hr : ∀ cur, w.heap[r]? ≠ some (.cells cur e (0, 0))) : v.ownBlock ≠ some r := by
  rcases h.2 with ⟨rfl, _⟩ | ⟨g, cap, cur, rfl, _, hh, _⟩
  · simp [Value.ownBlock]
  · intro e'
    obtain rfl : g = r := by simpa [Value.ownBlock] using e'
    exact hr cur hh
theorem ownsRow_two {w : World} {B B' : Nat} {e e' : TypeId} (he : e ≠ e') {sz sz' n n' : Nat} {v v' : Value} {xs xs' : List Value} (h : w.ownsRow B e sz v n xs) (h' : w.ownsRow B' e' sz' v' n' xs') : v.ownBlock = none ∨ v.ownBlock ≠ v'.ownBlock := by
  rcases h'.2 with ⟨rfl, _⟩ | ⟨g, cap, cur, rfl, _, hh, _⟩
  · cases hv : v.ownBlock <;> simp [Value.ownBlock]
  · refine .inr (ownsRow_ne h fun cur' e1 => ?_)
    rw [hh] at e1
    injection e1 with e1
    injection e1 with _ e2
    exact he e2.symm
theorem ownsRow_block {w : World} {B : Nat} {e : TypeId} {sz n : Nat} {v : Value} {xs : List Value} (h : w.ownsRow B e sz v n xs) {g : Nat} (hg : v.ownBlock = some g) : w.ownsRow g e sz v n xs := by
  refine ⟨h.1, ?_⟩
  rcases h.2 with h2 | ⟨g', cap, cur, rfl, h3, h4⟩
  · exact .inl h2
  · obtain rfl : g' = g := by simpa [Value.ownBlock] using hg
    exact .inr ⟨g', cap, cur, rfl, Nat.le_refl _, h4⟩
theorem ownsRow_base {w : World} {B B' : Nat} {e : TypeId} {sz n : Nat} {v : Value} {xs : List Value} (h : w.ownsRow B e sz v n xs) (hB : B' ≤ B) : w.ownsRow B' e sz v n xs := by
  refine ⟨h.1, ?_⟩
  rcases h.2 with h2 | ⟨g', cap, cur, rfl, h3, h4⟩
  · exact .inl h2
  · exact .inr ⟨g', cap, cur, rfl, Nat.le_trans hB h3, h4⟩

theorem one_made (W : World) (B : Nat) (x : Value) (t : TypeId) (hB : B ≤ W.heap.size) : (W.alloc (.cells #[x] t)).ownsRow B t 1 (.slice (some ⟨W.heap.size, 0, none⟩) 1 1) 1 [x] :=
  ⟨rfl, .inr ⟨W.heap.size, 1, #[x], rfl, hB, heap_alloc_new W _, Nat.le_refl _, by decide, rfl, rfl⟩⟩
theorem info_raw : (Tryd.prog.info? 50).map (fun i => (i.zero, i.size, i.bytes)) = some (some (.agg #[.string ByteArray.empty, .slice none 0 0]), 2, 40) := by kernel_rfl
abbrev RawV := RawL × Value
def rawVals (ls : List RawV) : List Value := ls.flatMap fun p => [Value.string (str p.1.1), p.2]
theorem rawVals_length (ls : List RawV) : (rawVals ls).length = ls.length * 2 := by
  induction ls with
  | nil => rfl
  | cons f r ih => unfold rawVals at *; rw [List.flatMap_cons, List.length_append, ih]; simp; omega
theorem rawVals_append (a b : List RawV) : rawVals (a ++ b) = rawVals a ++ rawVals b := by unfold rawVals; rw [List.flatMap_append]
theorem rawVals_at {ls : List RawV} {j : Nat} {p : RawV} (h : ls[j]? = some p) : (rawVals ls)[j * 2]? = some (.string (str p.1.1)) ∧ (rawVals ls)[j * 2 + 1]? = some p.2 := by
  induction ls generalizing j with
  | nil => simp at h
  | cons g r ih =>
    cases j with
    | zero => simp at h; subst h; exact ⟨rfl, rfl⟩
    | succ j =>
      have := ih (j := j) (by simpa using h)
      have e : rawVals (g :: r) = Value.string (str g.1.1) :: g.2 :: rawVals r := rfl
      rw [e, show (j + 1) * 2 = j * 2 + 1 + 1 by omega]
      simpa using this
def lineVals (L : List (List UInt8)) : List Value := strVals (L.map str)
theorem lineVals_length (L : List (List UInt8)) : (lineVals L).length = L.length := by unfold lineVals; rw [strVals_length, List.length_map]
theorem lineVals_snoc (L : List (List UInt8)) (x : List UInt8) : lineVals (L ++ [x]) = lineVals L ++ [.string (str x)] := by simp [lineVals, strVals]
/-- in w the []raw value v owns the fields' names and their lines; each []string is a row of its own, made behind the ones ahead of it -/
structure RRow (B : Nat) (v : Value) (ls : List RawV) (w : World) : Prop where
  row : w.ownsRow B 50 2 v ls.length (rawVals ls)
  each : ∀ (j : Nat) (p : RawV), ls[j]? = some p → w.ownsRow B 9 1 p.2 p.1.2.length (lineVals p.1.2) ∧ p.2.ownBlock ≠ none
  order : ∀ (i j : Nat) (p q : RawV), i < j → ls[i]? = some p → ls[j]? = some q → ∀ a b, p.2.ownBlock = some a → q.2.ownBlock = some b → a < b
theorem RRow.nil (B : Nat) (w : World) : RRow B (.slice none 0 0) [] w := ⟨World.ownsRow_nil w B _ 2, fun j p h => by simp at h, fun i j p q _ h => by simp at h⟩
/-- kept where the block that is turned is neither a []raw's nor a []string's -/
theorem RRow.turned {B : Nat} {v : Value} {ls : List RawV} {w w' : World} {row : Option Nat} (h : RRow B v ls w) (hg : w.grownBy w' row)
    (hr : ∀ r, row = some r → ∀ cur, w.heap[r]? ≠ some (.cells cur 50 (0, 0)) ∧ w.heap[r]? ≠ some (.cells cur 9 (0, 0))) : RRow B v ls w' := by
  refine ⟨h.row.kept hg ?_, fun j p hj => ⟨(h.each j p hj).1.kept hg ?_, (h.each j p hj).2⟩, h.order⟩
  · cases row with
    | none => cases hv : v.ownBlock <;> simp
    | some r => exact .inr (ownsRow_ne h.row fun cur => (hr r rfl cur).1)
  · cases row with
    | none => cases hv : p.2.ownBlock <;> simp
    | some r => exact .inr (ownsRow_ne (h.each j p hj).1 fun cur => (hr r rfl cur).2)
theorem RRow.kept {B : Nat} {v : Value} {ls : List RawV} {w w' : World} (h : RRow B v ls w) (hb : Below w.heap.size w w') : RRow B v ls w' :=
  h.turned (row := none) ⟨hb.os, hb.tape, hb.output, hb.size, fun k hk _ => hb.block k hk⟩ (fun r e => by cases e)
theorem RRow.alloc {B : Nat} {v : Value} {ls : List RawV} {w : World} (h : RRow B v ls w) (o : Obj) : RRow B v ls (w.alloc o) := h.turned (World.grownBy_alloc w o none) (fun r e => by cases e)
theorem RRow.box {B b : Nat} {v : Value} {ls : List RawV} {w : World} {t : TypeId} {x : Value} (h : RRow B v ls w) (hb : Box w b t x) (h1 : t ≠ 50) (h2 : t ≠ 9) (u : Value) : RRow B v ls (w.setCell ⟨b, 0, none⟩ u) := by
  refine h.turned (row := some b) ⟨rfl, rfl, rfl, by simp [World.setCell], fun k _ hk => Below.heap_setCell _ _ _ k (fun e => hk (by rw [e]))⟩ ?_
  intro r hr cur
  injection hr with hr
  subst hr
  unfold Box at hb
  rw [hb]
  refine ⟨fun e => ?_, fun e => ?_⟩
  · injection e with e; injection e with _ e; exact h1 e
  · injection e with e; injection e with _ e; exact h2 e
theorem RRow.lt {B : Nat} {v : Value} {ls : List RawV} {w : World} (h : RRow B v ls w) (j : Nat) (p : RawV) (hj : ls[j]? = some p) (a : Nat) (ha : p.2.ownBlock = some a) : a < w.heap.size := ((h.each j p hj).1.lt a ha).2
/-- one more field: its lines' row has been made behind the others -/
theorem RRow.push {B : Nat} {v v' u : Value} {ls : List RawV} {w w' : World} {n x : List UInt8} {b : Nat} (h : RRow B v ls w) (hi : w.ownsRow B 9 1 u 1 [.string (str x)]) (hub : u.ownBlock = some b)
    (hlt : ∀ (j : Nat) (p : RawV), ls[j]? = some p → ∀ a, p.2.ownBlock = some a → a < b) (ho : w'.ownsRow B 50 2 v' (ls.length + 1) (rawVals ls ++ [.string (str n), u])) (hg : w.grownBy w' v.ownBlock) :
    RRow B v' (ls ++ [((n, [x]), u)]) w' := by
  have hne : ∀ {k : Nat} {y : Value} {xs : List Value}, w.ownsRow B 9 1 y k xs → w'.ownsRow B 9 1 y k xs := fun hy => hy.kept hg (ownsRow_two (by decide) hy h.row)
  have hlast : ∀ (j : Nat) (p : RawV), (ls ++ [((n, [x]), u)])[j]? = some p → ls[j]? = some p ∨ (j = ls.length ∧ p = ((n, [x]), u)) := by
    intro j p hj
    by_cases hjl : j < ls.length
    · rw [List.getElem?_append_left hjl] at hj; exact .inl hj
    · rw [List.getElem?_append_right (by omega)] at hj
      obtain ⟨hj1, hj2⟩ := List.getElem?_eq_some_iff.1 hj
      simp at hj1
      refine .inr ⟨by omega, ?_⟩
      subst hj2; simp
  refine ⟨?_, fun j p hj => ?_, fun i j p q hij hp hq a c ha hc => ?_⟩
  · rw [rawVals_append, List.length_append]; exact ho
  · rcases hlast j p hj with hj | ⟨_, rfl⟩
    · exact ⟨hne (h.each j p hj).1, (h.each j p hj).2⟩
    · exact ⟨hne hi, by rw [hub]; simp⟩
  · rcases hlast j q hq with hq | ⟨rfl, rfl⟩
    · rcases hlast i p hp with hp | ⟨hi', _⟩
      · exact h.order i j p q hij hp hq a c ha hc
      · have := (List.getElem?_eq_some_iff.1 hq).1; omega
    · rcases hlast i p hp with hp | ⟨hi', _⟩
      · have e : some b = some c := hub.symm.trans hc
        injection e with e
        subst e
        exact hlt i p hp a ha
      · omega
theorem rawVals_set (r : List RawV) (p : RawV) (u : Value) (L : List (List UInt8)) : (rawVals (r ++ [p])).set (r.length * 2 + 1) u = rawVals (r ++ [((p.1.1, L), u)]) := by
  rw [rawVals_append, rawVals_append, List.set_append_right _ _ (by rw [rawVals_length]; omega), rawVals_length, show r.length * 2 + 1 - r.length * 2 = 1 by omega]
  rfl
/-- one more line of the last field: its row appended to, and put back -/
theorem RRow.more {B g cap k a : Nat} {u u' : Value} {r : List RawV} {w w' : World} {f : RawL} {x : List UInt8} (h : RRow B (.slice (some ⟨g, 0, none⟩) k cap) (r ++ [(f, u)]) w) (hk : k = r.length + 1)
    (hua : u.ownBlock = some a) (ho : w'.ownsRow a 9 1 u' (f.2.length + 1) (lineVals f.2 ++ [.string (str x)])) (hg : w.grownBy w' u.ownBlock) :
    RRow B (.slice (some ⟨g, 0, none⟩) k cap) (r ++ [((f.1, f.2 ++ [x]), u')]) (w'.setCell ⟨g, r.length * 2 + 1, none⟩ u') := by
  have hu : (r ++ [(f, u)])[r.length]? = some (f, u) := by simp
  have hB : B ≤ a := ((h.each _ _ hu).1.lt a hua).1
  have hlen : (r ++ [(f, u)]).length = k := by simp [hk]
  have hrow : w'.ownsRow B 50 2 (.slice (some ⟨g, 0, none⟩) k cap) k (rawVals (r ++ [(f, u)])) := by
    have := h.row.kept hg (ownsRow_two (by decide) h.row (h.each _ _ hu).1)
    rwa [hlen] at this
  have hset := ownsRow_set hrow (r.length * 2 + 1) u'
  rw [rawVals_set r (f, u) u' (f.2 ++ [x])] at hset
  have hgb : w'.grownBy (w'.setCell ⟨g, r.length * 2 + 1, none⟩ u') (some g) := ⟨rfl, rfl, rfl, by simp [World.setCell], fun k _ hk => Below.heap_setCell _ _ _ k (fun e => hk (by rw [e]))⟩
  have hother : ∀ {n : Nat} {y : Value} {xs : List Value} {B' : Nat}, w'.ownsRow B' 9 1 y n xs → (w'.setCell ⟨g, r.length * 2 + 1, none⟩ u').ownsRow B' 9 1 y n xs := fun hy => hy.kept hgb (ownsRow_two (by decide) hy hrow)
  have hpre : ∀ (j : Nat) (p : RawV), r[j]? = some p → (r ++ [(f, u)])[j]? = some p := fun j p hj => by
    rw [List.getElem?_append_left (List.getElem?_eq_some_iff.1 hj).1]; exact hj
  have hlast : ∀ (j : Nat) (p : RawV), (r ++ [((f.1, f.2 ++ [x]), u')])[j]? = some p → r[j]? = some p ∨ (j = r.length ∧ p = ((f.1, f.2 ++ [x]), u')) := by
    intro j p hj
    by_cases hjl : j < r.length
    · rw [List.getElem?_append_left hjl] at hj; exact .inl hj
    · rw [List.getElem?_append_right (by omega)] at hj
      obtain ⟨hj1, hj2⟩ := List.getElem?_eq_some_iff.1 hj
      simp at hj1
      refine .inr ⟨by omega, ?_⟩
      subst hj2; simp
  have hu'b : u'.ownBlock ≠ none := by
    rcases ho.2 with ⟨_, h0⟩ | ⟨g', c', cur, rfl, _⟩
    · omega
    · simp [Value.ownBlock]
  refine ⟨?_, fun j p hj => ?_, fun i j p q hij hp hq a' c ha hc => ?_⟩
  · have hl2 : (r ++ [((f.1, f.2 ++ [x]), u')]).length = k := by simp [hk]
    rw [hl2]; exact hset
  · rcases hlast j p hj with hj | ⟨_, rfl⟩
    · obtain ⟨e1, e2⟩ := h.each j p (hpre j p hj)
      refine ⟨hother (e1.kept hg ?_), e2⟩
      obtain ⟨b, hb⟩ := Option.ne_none_iff_exists'.1 e2
      have := h.order j r.length p (f, u) (List.getElem?_eq_some_iff.1 hj).1 (hpre j p hj) hu b a hb hua
      refine .inr ?_
      rw [hb, hua]
      intro e; injection e with e; omega
    · refine ⟨?_, hu'b⟩
      have := hother (ownsRow_base ho hB)
      show World.ownsRow _ B _ 1 u' (f.2 ++ [x]).length (lineVals (f.2 ++ [x]))
      rw [lineVals_snoc, List.length_append]; exact this
  · rcases hlast j q hq with hq | ⟨rfl, rfl⟩
    · rcases hlast i p hp with hp | ⟨hi', _⟩
      · exact h.order i j p q hij (hpre i p hp) (hpre j q hq) a' c ha hc
      · have := (List.getElem?_eq_some_iff.1 hq).1; omega
    · rcases hlast i p hp with hp | ⟨hi', _⟩
      · have h1 := h.order i r.length p (f, u) hij (hpre i p hp) hu a' a ha hua
        have h2 := (ho.lt c hc).1
        omega
      · omega
end Go.Proofs.YtcndklegoadjcaaDoor
