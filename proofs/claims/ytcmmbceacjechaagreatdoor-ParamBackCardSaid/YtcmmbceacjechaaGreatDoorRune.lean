/- utf8.AppendRune onto a row that the call owns, beside a text's iterator; strings.Trim of white. No statement is proved here. -/
import Derived.Test.YtcmmbceacjechaaGreatDoorBaseM
import Derived.Test.YtcmmbceacjechaaGreatDoorShelf
import Derived.Lib.OthersKept
import Derived.Shelf.Strings.SlTrimAscii
namespace Go.Proofs.YtcmmbceacjechaaGreatDoor
open Go.RowKit
set_option linter.unusedVariables false
set_option linter.unusedSimpArgs false

/-- what is no row of cells stays as it was -/
def IterKept (w w' : World) : Prop := ∀ (b : Nat) (s : ByteArray) (p : Nat), w.heap[b]? = some (Obj.stringIter s p) → w'.heap[b]? = some (Obj.stringIter s p)
theorem buf_not_iter {B : Nat} {v : Value} {l : List UInt8} {W0 w : World} (h : Buf B v l W0 w) {b : Nat} {s : ByteArray} {p : Nat} (hb : w.heap[b]? = some (Obj.stringIter s p)) : v.ownBlock ≠ some b := by
  rcases h.1.2 with ⟨rfl, _⟩ | ⟨g, cap, cur, rfl, _, hh, _⟩
  · simp [Value.ownBlock]
  · intro he
    have e : g = b := by simpa [Value.ownBlock] using he
    subst e
    rw [hh] at hb; cases hb
theorem iter_own {B : Nat} {v : Value} {l : List UInt8} {W0 w w' : World} (h : Buf B v l W0 w) (hg : w.grownBy w' v.ownBlock) : IterKept w w' := fun b s p hb =>
  (hg.block b (Array.getElem?_eq_some_iff.1 hb).1 (fun e => buf_not_iter h hb e.symm)).trans hb

theorem appendRune_any (B : Nat) (v : Value) (l : List UInt8) (W0 w : World) (hb : Buf B v l W0 w) (r : Int) (h0 : 0 ≤ r) (h1 : r ≤ 1114111) (hl : l.length ≤ 70368744177664) :
    Calls Tryz.prog 68 #[v, .int .i32 r] w fun e w' => ∃ v', e = .returned v' ∧ Buf B v' (l ++ runeL r) W0 w' ∧ IterKept w w' := by
  refine (Tryz.utf8_AppendRune_plain B v l.length (cellsOf l) r (by omega) (by omega) w hb.1 (by omega) hb.2.2).mono ?_
  rintro e w' ⟨v', rfl, ho, o, hg⟩
  have hb' := hb.alloc o
  refine ⟨v', rfl, hb'.grown (l' := l ++ runeL r) ?_ hg, fun b s p hx => iter_own hb' hg b s p ?_⟩
  · have e : Lib.runeCells r = cellsOf (runeL r) := (Lib.byteCells_encodeRune r).symm
    have e2 : (Lib.runeCells r).length = (runeL r).length := by rw [e, cellsOf_length]
    rw [e2, e] at ho
    rw [List.length_append, cellsOf, List.map_append]
    exact ho
  · exact (Below.heap_alloc w o b (Array.getElem?_eq_some_iff.1 hx).1).trans hx

theorem Buf.iterAt {B : Nat} {v : Value} {l : List UInt8} {W0 w : World} (h : Buf B v l W0 w) {k : Nat} {s : ByteArray} {p : Nat} (hk : w.heap[k]? = some (Obj.stringIter s p)) (hB : B ≤ k) (p' : Nat) : Buf B v l W0 (w.iterAt k s p') := by
  have hne := buf_not_iter h hk
  refine ⟨⟨h.1.1, ?_⟩, Lib.below_iterAt h.2.1 hB s p', by rw [Lib.iterAt_size]; exact h.2.2⟩
  rcases h.1.2 with ⟨rfl, h0⟩ | ⟨g, cap, cur, rfl, h1, h2, h3⟩
  · exact .inl ⟨rfl, h0⟩
  · refine .inr ⟨g, cap, cur, rfl, h1, ?_, h3⟩
    rw [Lib.iterAt_other _ _ _ _ _ (fun e => hne (by simp [Value.ownBlock, e]))]
    exact h2

theorem trim_any (s : ByteArray) (w : World) (hs : s.size ≤ maxLen) :
    Calls Tryz.prog 96 #[.string s, .string ⟨#[32, 9, 10, 12, 13]⟩] w fun e w' => e = .returned (.string (str (Lib.trimS s.data.toList whiteSet))) ∧ Below w.heap.size w w' :=
  Any.strings_Trim_laid Tryz.lays160 (by kernel_rfl) s ⟨#[32, 9, 10, 12, 13]⟩ w (by unfold maxLen at hs; omega) (by decide) (ascii_of_all (by decide))
end Go.Proofs.YtcmmbceacjechaaGreatDoor
