/- Maps with texts as keys, and texts or bools as elements, said by what they hold at each text. No statement is proved here. -/
import Derived.Test.YtcmmbceacjechaaGreatDoorBaseM
import Derived.Maps.Own
import Derived.Maps.OwnSet
import Derived.Maps.Views
import Derived.Maps.StringElems
namespace Go.Proofs.YtcmmbceacjechaaGreatDoor
open Go.RowKit Go.Maps Go.WideShapes Go.WideMaps
open Go.ChangeMaps (setBlock heap_setBlock_other)
set_option linter.unusedVariables false
set_option linter.unusedSimpArgs false
set_option maxRecDepth 100000
theorem keyedT : Keyed Tryz.prog 9 := string_keyed Tryz.underlying9
theorem zeroT (w : World) : (zeroValue 9).run Tryz.prog w = .ok (.string ⟨#[]⟩) w := by kernel_rfl
theorem zeroB (w : World) : (zeroValue 4).run Tryz.prog w = .ok (.bool false) w := by kernel_rfl
def putF {α : Type} (f : List UInt8 → Option α) (k : List UInt8) (v : α) : List UInt8 → Option α := fun y => if y = k then some v else f y
/-- block b is a map of at most n entries, that holds the texts f -/
def TMap (w : World) (b n : Nat) (f : List UInt8 → Option (List UInt8)) : Prop :=
  ∃ D : DataW Unit, w.ownsMap Tryz.prog 9 (plainElem Tryz.prog 9) b n D ∧ IsMap D ∧
    ∀ s : List UInt8, Maps.has D (.string s) = (f s).isSome ∧ D.atKey (.string s) (.lit (.string [])) = .lit (.string ((f s).getD []))
/-- block b is a map of at most n entries, that holds the bools f -/
def BMap (w : World) (b n : Nat) (f : List UInt8 → Option Bool) : Prop :=
  ∃ D : DataW Unit, w.ownsMap Tryz.prog 9 (plainElem Tryz.prog 4) b n D ∧ IsMap D ∧
    ∀ s : List UInt8, Maps.has D (.string s) = (f s).isSome ∧ D.atKey (.string s) (.lit (.bool false)) = .lit (.bool ((f s).getD false))
theorem TMap.made (w : World) : TMap (w.alloc (.map #[] 0)) w.heap.size 0 (fun _ => none) := ⟨_, World.ownsMap_made w Tryz.prog _ _, isMap_empty, fun s => ⟨rfl, rfl⟩⟩
theorem BMap.made (w : World) : BMap (w.alloc (.map #[] 0)) w.heap.size 0 (fun _ => none) := ⟨_, World.ownsMap_made w Tryz.prog _ _, isMap_empty, fun s => ⟨rfl, rfl⟩⟩
theorem TMap.same {w w' : World} {b n : Nat} {f : List UInt8 → Option (List UInt8)} (h : TMap w b n f) (e : w'.heap[b]? = w.heap[b]?) : TMap w' b n f := by
  obtain ⟨D, ⟨es, clock, hb, r⟩, h2⟩ := h
  exact ⟨D, ⟨es, clock, e.trans hb, r⟩, h2⟩
theorem BMap.same {w w' : World} {b n : Nat} {f : List UInt8 → Option Bool} (h : BMap w b n f) (e : w'.heap[b]? = w.heap[b]?) : BMap w' b n f := by
  obtain ⟨D, ⟨es, clock, hb, r⟩, h2⟩ := h
  exact ⟨D, ⟨es, clock, e.trans hb, r⟩, h2⟩
theorem TMap.lt {w : World} {b n : Nat} {f : List UInt8 → Option (List UInt8)} (h : TMap w b n f) : b < w.heap.size := by obtain ⟨D, h1, _⟩ := h; exact h1.lt
theorem BMap.lt {w : World} {b n : Nat} {f : List UInt8 → Option Bool} (h : BMap w b n f) : b < w.heap.size := by obtain ⟨D, h1, _⟩ := h; exact h1.lt
theorem TMap.kept {w w' : World} {b n : Nat} {f : List UInt8 → Option (List UInt8)} (h : TMap w b n f) (hb : Below w.heap.size w w') : TMap w' b n f := h.same (hb.block b h.lt)
theorem BMap.kept {w w' : World} {b n : Nat} {f : List UInt8 → Option Bool} (h : BMap w b n f) (hb : Below w.heap.size w w') : BMap w' b n f := h.same (hb.block b h.lt)
theorem TMap.is {w : World} {b n : Nat} {f : List UInt8 → Option (List UInt8)} (h : TMap w b n f) : ∃ es clock, w.heap[b]? = some (.map es clock) := by
  obtain ⟨D, ⟨es, clock, hb, r⟩, h2⟩ := h; exact ⟨es, clock, hb⟩
theorem BMap.is {w : World} {b n : Nat} {f : List UInt8 → Option Bool} (h : BMap w b n f) : ∃ es clock, w.heap[b]? = some (.map es clock) := by
  obtain ⟨D, ⟨es, clock, hb, r⟩, h2⟩ := h; exact ⟨es, clock, hb⟩
theorem TMap.look_ok {w : World} {b n : Nat} {f : List UInt8 → Option (List UInt8)} (h : TMap w b n f) (s : ByteArray) (hs : s.size ≤ maxLen) :
    (Instr.lookup 58 (.map (some b)) (.string s) true).run Tryz.prog w = .ok (.tuple #[.string (str ((f s.data.toList).getD [])), .bool (f s.data.toList).isSome]) w := by
  obtain ⟨D, h1, h2, h3⟩ := h
  obtain ⟨v, ps, hr, hv⟩ := h1.look_ok keyedT Tryz.underlying58 (zeroT w) (plainElem_string Tryz.underlying9 (s := ⟨#[]⟩) (by decide)) (keyOf_string_mk Tryz.underlying9 hs)
  obtain ⟨x, rfl, hx, _⟩ := plainElem_string_inv Tryz.underlying9 hv
  obtain ⟨g1, g2⟩ := h3 s.data.toList
  have e := congrArg Prod.fst hx
  rw [show (DataW.lit (.string (⟨#[]⟩ : ByteArray).data.toList) : DataW Unit) = .lit (.string []) from rfl, g2] at e
  injection e with e
  injection e with e
  rw [hr, g1, e, str_of]
theorem BMap.look {w : World} {b n : Nat} {f : List UInt8 → Option Bool} (h : BMap w b n f) (s : ByteArray) (hs : s.size ≤ maxLen) :
    (Instr.lookup 65 (.map (some b)) (.string s) false).run Tryz.prog w = .ok (.bool ((f s.data.toList).getD false)) w := by
  obtain ⟨D, ⟨es, clock, hb, F, _, rfl⟩, h2, h3⟩ := h
  obtain ⟨g1, g2⟩ := h3 s.data.toList
  rcases Maps.fit_look false keyedT Tryz.underlying65 (zeroB w) hb F (keyOf_string_mk Tryz.underlying9 hs) with ⟨hrun, _, hat⟩ | ⟨e0, y, _, _, hrun, hRv, hat, _⟩
  · rw [hat] at g2
    injection g2 with g2
    injection g2 with g2
    rw [hrun, ← g2]; rfl
  · obtain ⟨x, hx, hy⟩ : ∃ x, e0.val = .bool x ∧ y.1 = .lit (.bool x) := by
      cases hv : e0.val <;> rw [hv] at hRv <;> simp [plainElem, Tryz.underlying4] at hRv
      exact ⟨_, rfl, by rw [← hRv]⟩
    rw [hat, hy] at g2
    injection g2 with g2
    injection g2 with g2
    rw [hrun, hx, ← g2]; rfl
theorem TMap.look {w : World} {b n : Nat} {f : List UInt8 → Option (List UInt8)} (h : TMap w b n f) (s : ByteArray) (hs : s.size ≤ maxLen) :
    (Instr.lookup 58 (.map (some b)) (.string s) false).run Tryz.prog w = .ok (.string (str ((f s.data.toList).getD []))) w := by
  obtain ⟨D, ⟨es, clock, hb, F, _, rfl⟩, h2, h3⟩ := h
  obtain ⟨g1, g2⟩ := h3 s.data.toList
  rcases Maps.fit_look false keyedT Tryz.underlying58 (zeroT w) hb F (keyOf_string_mk Tryz.underlying9 hs) with ⟨hrun, _, hat⟩ | ⟨e0, y, _, _, hrun, hRv, hat, _⟩
  · rw [hat] at g2
    injection g2 with g2
    injection g2 with g2
    rw [hrun, ← g2]; rfl
  · obtain ⟨x, hx, hy0, _⟩ := plainElem_string_inv Tryz.underlying9 hRv
    have hy := congrArg Prod.fst hy0
    rw [hat, hy] at g2
    injection g2 with g2
    injection g2 with g2
    rw [hrun, hx, ← g2, str_of]; rfl
/-- a block was turned, a map; all others stand -/
def Turned (b : Nat) (w w' : World) : Prop := w.heap.size = w'.heap.size ∧ (∀ k, k ≠ b → w'.heap[k]? = w.heap[k]?) ∧ ∀ B, B ≤ b → Below B w w'
theorem turned_of {b : Nat} {w w' : World} (h : w.mapTurned w' b) : Turned b w w' := by
  have hg := h.grown
  obtain ⟨es, clock, es', clock', hb, rfl⟩ := h
  exact ⟨by simp [setBlock], fun k hk => heap_setBlock_other hb _ (fun e => hk e), fun B hB => ⟨rfl, rfl, rfl, by simp [setBlock], fun k hk => heap_setBlock_other hb _ (fun e => by omega)⟩⟩
theorem TMap.put {w : World} {b n : Nat} {f : List UInt8 → Option (List UInt8)} (h : TMap w b n f) (hn : n < maxLen) (s v : ByteArray) (hs : s.size ≤ maxLen) (hv : v.size ≤ maxLen) :
    ∃ w', (Instr.mapUpdate 58 (.map (some b)) (.string s) (.string v)).run Tryz.prog w = .ok () w' ∧ TMap w' b (n + 1) (putF f s.data.toList v.data.toList) ∧ Turned b w w' := by
  obtain ⟨D, h1, h2, h3⟩ := h
  obtain ⟨w', hrun, r1, r2⟩ := h1.store keyedT Tryz.underlying58 hn (keyOf_string_mk Tryz.underlying9 hs) (plainElem_string Tryz.underlying9 hv)
  refine ⟨w', hrun, ⟨_, r1, h2.put _ _, fun y => ?_⟩, turned_of r2⟩
  unfold putF
  by_cases e : y = s.data.toList
  · subst e
    exact ⟨(has_put_same h2 (show WideAt.IsKeyLit (.string s.data.toList) from trivial) _).trans (by simp), (atKey_put_same h2 (show WideAt.IsKeyLit (.string s.data.toList) from trivial) _ _).trans (by simp)⟩
  · have hne : (Lit.string y) ≠ (Lit.string s.data.toList) := fun h => e (by injection h)
    obtain ⟨g1, g2⟩ := h3 y
    exact ⟨(has_put_other hne _).trans (by simp [g1, e]), (atKey_put_other hne _ _).trans (by simp [g2, e])⟩
theorem BMap.put {w : World} {b n : Nat} {f : List UInt8 → Option Bool} (h : BMap w b n f) (hn : n < maxLen) (s : ByteArray) (v : Bool) (hs : s.size ≤ maxLen) :
    ∃ w', (Instr.mapUpdate 65 (.map (some b)) (.string s) (.bool v)).run Tryz.prog w = .ok () w' ∧ BMap w' b (n + 1) (putF f s.data.toList v) ∧ Turned b w w' := by
  obtain ⟨D, h1, h2, h3⟩ := h
  obtain ⟨w', hrun, r1, r2⟩ := h1.store keyedT Tryz.underlying65 hn (keyOf_string_mk Tryz.underlying9 hs) (plainElem_bool Tryz.underlying4 v)
  refine ⟨w', hrun, ⟨_, r1, h2.put _ _, fun y => ?_⟩, turned_of r2⟩
  unfold putF
  by_cases e : y = s.data.toList
  · subst e
    exact ⟨(has_put_same h2 (show WideAt.IsKeyLit (.string s.data.toList) from trivial) _).trans (by simp), (atKey_put_same h2 (show WideAt.IsKeyLit (.string s.data.toList) from trivial) _ _).trans (by simp)⟩
  · have hne : (Lit.string y) ≠ (Lit.string s.data.toList) := fun h => e (by injection h)
    obtain ⟨g1, g2⟩ := h3 y
    exact ⟨(has_put_other hne _).trans (by simp [g1, e]), (atKey_put_other hne _ _).trans (by simp [g2, e])⟩
end Go.Proofs.YtcmmbceacjechaaGreatDoor
