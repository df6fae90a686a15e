/- What layer 18's laws with a case share. No statement is proved here. Own work of the verifier. -/
import Derived.Test.YtklbdobofclofaaGreatDoorRulesL0
import Derived.BigRegion
import Derived.Deep.DeepCutAuto
import Derived.Deep.Cut
namespace Go.Proofs.YtklbdobofclofaaGreatDoor
open Go.RowKit
set_option linter.unusedVariables false
set_option linter.unusedSimpArgs false
set_option maxRecDepth 100000
/-- behind the first assignments of a law with a case -/
def CaseSt (w : World) (r s q : Bool) (A : Option Addr) (F : List FileL) (cap : Nat) (e n v : ByteArray) (s3 s4 s5 s6 : Value) (wx : World) : Prop :=
  ∃ bp ba, s3 = .pointer (some ⟨bp, 0, none⟩) ∧ s4 = .slice A F.length cap ∧ s5 = .string e ∧ s6 = .pointer (some ⟨ba, 0, none⟩) ∧ PBox wx bp r s q ∧ ABox wx ba n v ∧ Below w.heap.size w wx
theorem caseSt1 {w w0 : World} {r s q : Bool} {A : Option Addr} {F : List FileL} {cap : Nat} {e n v : ByteArray} (hb : Below w.heap.size w w0) :
    CaseSt w r s q A F cap e n v (.pointer (some ⟨w0.heap.size, 0, none⟩)) (.slice A F.length cap) (.string e) (.pointer (some ⟨w0.heap.size + 1, 0, none⟩)) ((w0.alloc (.cells #[.bool r, .bool s, .bool q] 26)).alloc (.cells #[.string n, .string v] 29)).drew := by
  have h1 := ABox.new (w0.alloc (.cells #[.bool r, .bool s, .bool q] 26)) n v 29
  rw [World.size_alloc] at h1
  exact ⟨_, _, rfl, rfl, rfl, rfl, (PBox.new w0 r s q _).kept (alloc_below _ _).drew, h1, ((hb.alloc hb.size _).alloc (by rw [World.size_alloc]; exact Nat.le_succ_of_le hb.size) _).drew⟩
theorem caseSt2 {w w0 : World} {r s q : Bool} {A : Option Addr} {F : List FileL} {cap : Nat} {e n v : ByteArray} (hb : Below w.heap.size w w0) :
    CaseSt w r s q A F cap e n v (.pointer (some ⟨w0.heap.size + 1, 0, none⟩)) (.slice A F.length cap) (.string e) (.pointer (some ⟨w0.heap.size, 0, none⟩)) ((w0.alloc (.cells #[.string n, .string v] 29)).alloc (.cells #[.bool r, .bool s, .bool q] 26)).drew := by
  have h1 := PBox.new (w0.alloc (.cells #[.string n, .string v] 29)) r s q 26
  rw [World.size_alloc] at h1
  exact ⟨_, _, rfl, rfl, rfl, rfl, h1, (ABox.new w0 n v _).kept (alloc_below _ _).drew, ((hb.alloc hb.size _).alloc (by rw [World.size_alloc]; exact Nat.le_succ_of_le hb.size) _).drew⟩
theorem val_len {rem sty : Bool} {F : List FileL} {e n v x : List UInt8} (hF : F.length ≤ 40) (hv : v.length ≤ 1000) (h : valL rem sty F e n v = some x) : x.length ≤ 10000 := by
  have hc := clean_length v
  have hd := clean_len v
  unfold valL at h
  split at h
  · unfold valN at h
    split at h
    · rw [(keepO_some h).2]; omega
    · split at h
      · rcases srcL_some (by omega) h with ⟨i, h1, h2, rfl⟩ | ⟨_, _, rfl⟩
        · unfold attN numL attL
          split <;> simp
        · omega
      · split at h
        · rw [(keepO_some h).2]; omega
        · repeat' (split at h)
          all_goals first
            | (rw [(keepO_some h).2]; omega)
            | (injection h with h; rw [← h]; omega)
  · cases h
/-- what the law's loop looks for -/
def hit2 (F : List FileL) (x : List UInt8) (j : Nat) : Bool := match F[j]? with
  | some f => (x == attN j) && begB f.kind imageL
  | none => false
theorem hit2_at {F : List FileL} {x : List UInt8} {j : Nat} (h : j < F.length) : hit2 F x j = ((x == attN j) && begB F[j].kind imageL) := by
  unfold hit2
  rw [List.getElem?_eq_getElem h]
theorem img_beg {F : List FileL} {j : Nat} (h : imgAt F j = true) : ∃ hj : j < F.length, begB F[j].kind imageL = true := by
  have hj := imgAt_lt h
  refine ⟨hj, ?_⟩
  rw [imgAt_at hj, imgB_take, Bool.and_eq_true, decide_eq_true_eq, beq_iff_eq] at h
  refine begB_ok (u := imageL) h.1 ?_
  rw [show imageL.length = 6 from rfl, h.2]
  decide
theorem src_hit {rem sty : Bool} {F : List FileL} {e v x : List UInt8} (hF : F.length ≤ 100) (h : valL rem sty F e n_src v = some x) : ((List.range F.length).any (hit2 F x) = true ∨ (rem = true ∧ begB x b_https = true)) ∧ e = [105, 109, 103] := by
  obtain ⟨h1, h2⟩ := val_src hF h
  refine ⟨?_, h2⟩
  rw [Bool.or_eq_true] at h1
  rcases h1 with h1 | h1
  · obtain ⟨j, hj, h3⟩ := List.any_eq_true.1 h1
    rw [Bool.and_eq_true] at h3
    obtain ⟨hj2, h4⟩ := img_beg h3.2
    exact .inl (List.any_eq_true.2 ⟨j, hj, by rw [hit2_at hj2, h3.1, h4]; rfl⟩)
  · rw [Bool.and_eq_true] at h1
    exact .inr h1
end Go.Proofs.YtklbdobofclofaaGreatDoor
