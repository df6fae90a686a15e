/- A []api.Field that came in, or was made, read by its cells; lines.Get. No statement is proved here. -/
import Derived.Test.YtcndklegoadjcaaDoorLinesW
import Derived.Test.YtcndklegoadjcaaDoorLow
namespace Go.Proofs.YtcndklegoadjcaaDoor
open Go.RowKit
set_option linter.unusedVariables false
set_option linter.unusedSimpArgs false
set_option maxRecDepth 100000
/-- in w the []api.Field value v reads as the fields l: two cells an element -/
def FieldsIn (w : World) (v : Value) (l : List (List UInt8 × List UInt8)) : Prop :=
  (v = .slice none 0 0 ∧ l = []) ∨ ∃ a cap, v = .slice (some a) l.length cap ∧ l.length ≤ cap ∧ cap ≤ maxLen ∧
    ∀ j (h : j < l.length), w.cell? (a.add (j * 2)) = some (.string (str (l[j]'h).1)) ∧ w.cell? (a.add (j * 2 + 1)) = some (.string (str (l[j]'h).2))
theorem FieldsIn.kept {w w' : World} {v : Value} {l : List (List UInt8 × List UInt8)} (h : FieldsIn w v l) (hb : Below w.heap.size w w') : FieldsIn w' v l := by
  rcases h with h | ⟨a, cap, h1, h2, h3, h4⟩
  · exact .inl h
  · refine .inr ⟨a, cap, h1, h2, h3, fun j hj => ?_⟩
    obtain ⟨c1, c2⟩ := h4 j hj
    exact ⟨(hb.cell (World.block_lt_of_cell? _ _ c1)).trans c1, (hb.cell (World.block_lt_of_cell? _ _ c2)).trans c2⟩
theorem FieldsIn.form {w : World} {v : Value} {l : List (List UInt8 × List UInt8)} (h : FieldsIn w v l) : ∃ a cap, v = .slice a l.length cap := by
  rcases h with ⟨rfl, rfl⟩ | ⟨a, cap, rfl, _⟩
  · exact ⟨_, _, rfl⟩
  · exact ⟨_, _, rfl⟩
theorem FieldsIn.cells {w : World} {A : Option Addr} {n cap : Nat} {l : List (List UInt8 × List UInt8)} (h : FieldsIn w (.slice A n cap) l) (k : Nat) (f : List UInt8 × List UInt8) (hk : l[k]? = some f) :
    ∃ a, A = some a ∧ w.cell? (a.add (k * 2)) = some (.string (str f.1)) ∧ w.cell? (a.add (k * 2 + 1)) = some (.string (str f.2)) := by
  obtain ⟨hlt, rfl⟩ := List.getElem?_eq_some_iff.1 hk
  rcases h with ⟨_, rfl⟩ | ⟨a, cap', h1, _, _, h4⟩
  · cases hlt
  · injection h1 with h1 _ _
    exact ⟨a, h1, h4 k hlt⟩
/-- what Get answers -/
def getV (o : Option (List UInt8)) : Value := match o with | some x => .tuple #[.string (str x), .bool true] | none => .tuple #[.string ⟨#[]⟩, .bool false]
def getFrom (l : List (List UInt8 × List UInt8)) (n : List UInt8) (k : Nat) : Option (List UInt8) := getL (l.drop k) n
theorem getFrom_yes {l : List (List UInt8 × List UInt8)} {N : List UInt8} {k : Nat} {f} (h : l[k]? = some f) (he : lowL f.1 = lowL N) : getFrom l N k = some f.2 := by
  obtain ⟨hlt, rfl⟩ := List.getElem?_eq_some_iff.1 h
  unfold getFrom getL; rw [List.drop_eq_getElem_cons hlt, List.find?_cons_of_pos (by simp [he])]; rfl
theorem getFrom_no {l : List (List UInt8 × List UInt8)} {N : List UInt8} {k : Nat} {f} (h : l[k]? = some f) (he : lowL f.1 ≠ lowL N) : getFrom l N k = getFrom l N (k + 1) := by
  obtain ⟨hlt, rfl⟩ := List.getElem?_eq_some_iff.1 h
  unfold getFrom getL; rw [List.drop_eq_getElem_cons hlt, List.find?_cons_of_neg (by simp [he])]
theorem getFrom_end {l : List (List UInt8 × List UInt8)} {N : List UInt8} {k : Nat} (h : l.length ≤ k) : getFrom l N k = none := by
  unfold getFrom; rw [List.drop_eq_nil_of_le h]; rfl
set_option maxHeartbeats 1000000 in
theorem get_any (v : Value) (l : List (List UInt8 × List UInt8)) (s : ByteArray) (w : World) (hl : FieldsIn w v l) (hs : s.size ≤ 70368744177664)
    (hz : ∀ f ∈ l, f.1.length ≤ 70368744177664 ∧ f.2.length ≤ 70368744177664) (hn : l.length ≤ 70368744177664) :
    Calls Tryd.prog 13 #[v, .string s] w fun e w' => e = .returned (getV (getL l s.data.toList)) ∧ Below w.heap.size w w' := by
  obtain ⟨A, cap, rfl⟩ := hl.form
  have HL := hide hl
  have HZ := hide hz
  obtain ⟨S, hS⟩ : ∃ S, S = str (lowL s.data.toList) := ⟨_, rfl⟩
  have HS := hide hS
  clear hl hz hS
  go_enter Tryd.func13, Tryd.ntmps13
  go_wp2_with fail
  refine (lower_any s _ hs).mono ?_
  rintro e w1 ⟨rfl, hb1⟩
  rw [← HS.out]
  have HB1 := hide hb1
  clear hb1
  go_wp2_with fail
  go_loopw [12] (fun i wr => ∃ k : Nat, k ≤ l.length ∧ i = .int .i64 k ∧ Hid (Below w.heap.size w wr) ∧ Hid (getFrom l s.data.toList k = getL l s.data.toList)) (fun i _ => l.length - (intOf i).toNat)
  case atStart => exact ⟨0, Nat.zero_le _, rfl, HB1, hide rfl⟩
  case round =>
    obtain ⟨k, hk, rfl, HB, HG⟩ := hrel
    by_cases hlt : k < l.length
    · obtain ⟨f, hf⟩ : ∃ f, l[k]? = some f := ⟨_, List.getElem?_eq_getElem hlt⟩
      obtain ⟨a, ha, hc1, hc2⟩ := (HL.out.kept HB.out).cells k f hf
      subst ha
      have e3 : ({ block := (a.add (k * 2)).block, off := (a.add (k * 2)).off + 1 } : Addr) = a.add (k * 2 + 1) := by rw [← Addr.add_add]; rfl
      have hc3 : wr.cell? { block := (a.add (k * 2)).block, off := (a.add (k * 2)).off + 1 } = some (.string (str f.2)) := by rw [e3]; exact hc2
      clear e3
      have hz1 := (HZ.out f (List.mem_of_getElem? hf)).1
      have HF := hide hf
      clear hf
      go_wp2_with fail
      refine (lower_any (str f.1) _ (by rw [str_size]; exact hz1)).mono ?_
      rintro e w2 ⟨rfl, hb2⟩
      rw [str_toList]
      have hcb : w2.cell? { block := wr.heap.size, off := 1 } = some (.string (str f.2)) := (hb2.cell (by show wr.heap.size < (wr.heap.push _).size; rw [Array.size_push]; omega)).trans (by rw [World.cell?_alloc_at _ _ _ _ rfl]; rfl)
      have HB2 : Hid (Below w.heap.size w w2) := hide ((HB.out.alloc HB.out.size _).trans (hb2.mono (by have := HB.out.size; show _ ≤ (wr.heap.push _).size; rw [Array.size_push]; omega)))
      clear hb2 hc1 hc2 hc3
      by_cases heq : lowL f.1 = lowL s.data.toList
      · have t0 : ((str (lowL f.1)).toList == S.toList) = true := by rw [HS.out, heq]; exact beq_self_eq_true _
        have HR : Hid (getL l s.data.toList = some f.2) := hide (by rw [← HG.out]; exact getFrom_yes HF.out heq)
        clear heq
        go_wp2_with fail
        go_ret2
        exact ⟨by rw [HR.out]; rfl, HB2.out⟩
      · have t0 : ((str (lowL f.1)).toList == S.toList) = false := by
          rw [HS.out, bytes_list, bytes_list, str_toList, str_toList]; exact beq_eq_false_iff_ne.2 heq
        have HN : Hid (getFrom l s.data.toList (k + 1) = getL l s.data.toList) := hide (by rw [← getFrom_no HF.out heq]; exact HG.out)
        clear heq
        go_wp2_with fail
        go_roundw
        case rel => exact ⟨k + 1, by omega, by go_num, HB2, HN⟩
        case measure => simp [intOf]; omega
    · have HR : Hid (getL l s.data.toList = none) := hide (by rw [← HG.out]; exact getFrom_end (by omega))
      go_wp2_with fail
      go_ret2
      exact ⟨by rw [HR.out]; rfl, HB.out⟩
end Go.Proofs.YtcndklegoadjcaaDoor
