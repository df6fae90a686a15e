/- Rows of api.Param that came in; WALK of param.Get. No statement is proved here. -/
import Derived.Test.YtienjpelmbldpaaGreatDoorParK
namespace Go.Proofs.YtienjpelmbldpaaGreatDoor
open Go.RowKit
set_option linter.unusedVariables false
set_option linter.unusedSimpArgs false
set_option maxRecDepth 100000
/-- in w the []api.Param v reads as l -/
def ParsIn (w : World) (v : Value) (l : List ParL) : Prop :=
  (v = .slice none 0 0 ∧ l = []) ∨ ∃ a cap, v = .slice (some a) l.length cap ∧ l.length ≤ cap ∧ cap ≤ maxLen ∧
    ∀ j (h : j < l.length), w.cell? (a.add (j * 2)) = some (.string (str (l[j]'h).1)) ∧ w.cell? (a.add (j * 2 + 1)) = some (.string (str (l[j]'h).2))
theorem ParsIn.kept {w w' : World} {v : Value} {l : List ParL} (h : ParsIn w v l) (hb : Below w.heap.size w w') : ParsIn w' v l := by
  rcases h with h | ⟨a, cap, h1, h2, h3, h4⟩
  · exact .inl h
  · refine .inr ⟨a, cap, h1, h2, h3, fun j hj => ?_⟩
    obtain ⟨c1, c2⟩ := h4 j hj
    exact ⟨(hb.cell (World.block_lt_of_cell? _ _ c1)).trans c1, (hb.cell (World.block_lt_of_cell? _ _ c2)).trans c2⟩
theorem ParsIn.form {w : World} {v : Value} {l : List ParL} (h : ParsIn w v l) : ∃ a cap, v = .slice a l.length cap := by
  rcases h with ⟨rfl, rfl⟩ | ⟨a, cap, rfl, _⟩
  · exact ⟨_, _, rfl⟩
  · exact ⟨_, _, rfl⟩
theorem ParsIn.cells {w : World} {A : Option Addr} {n cap : Nat} {l : List ParL} (h : ParsIn w (.slice A n cap) l) (k : Nat) (f : ParL) (hk : l[k]? = some f) :
    ∃ a, A = some a ∧ w.cell? (a.add (k * 2)) = some (.string (str f.1)) ∧ w.cell? (a.add (k * 2 + 1)) = some (.string (str f.2)) := by
  obtain ⟨hlt, rfl⟩ := List.getElem?_eq_some_iff.1 hk
  rcases h with ⟨_, rfl⟩ | ⟨a, cap', h1, _, _, h4⟩
  · cases hlt
  · injection h1 with h1 _ _
    exact ⟨a, h1, h4 k hlt⟩
theorem ParsIn.at {w : World} {A : Option Addr} {n cap : Nat} {l : List ParL} (h : ParsIn w (.slice A n cap) l) (k : Nat) (f : ParL) (hk : l[k]? = some f) :
    ∃ a, A = some a ∧ w.cell? (a.add (k * 2)) = some (.string (str f.1)) ∧ w.cell? { block := (a.add (k * 2)).block, off := (a.add (k * 2)).off + 1 } = some (.string (str f.2)) := by
  obtain ⟨a, ha, h1, h2⟩ := h.cells k f hk
  refine ⟨a, ha, h1, ?_⟩
  have e3 : ({ block := (a.add (k * 2)).block, off := (a.add (k * 2)).off + 1 } : Addr) = a.add (k * 2 + 1) := by rw [← Addr.add_add]; rfl
  rw [e3]; exact h2
theorem PBuf.in {B : Nat} {v : Value} {l : List ParL} {W0 w : World} (h : PBuf B v l W0 w) : ParsIn w v l := by
  have h1 := h.1
  rcases h.1.2 with ⟨rfl, h0⟩ | ⟨g, cap, cur, rfl, hg, hh, hc, hm, _⟩
  · exact .inl ⟨rfl, List.eq_nil_of_length_eq_zero h0⟩
  · refine .inr ⟨⟨g, 0, none⟩, cap, rfl, hc, hm, fun j hj => ?_⟩
    obtain ⟨a1, a2⟩ := parVals_at (l := l) (j := j) (List.getElem?_eq_getElem hj)
    exact ⟨h1.cells (g := g) rfl _ _ a1, h1.cells (g := g) rfl _ _ a2⟩
/-- the first one of a name -/
def getP (l : List ParL) (nm : List UInt8) : Option (List UInt8) := (l.find? fun p => p.1 == nm).map (·.2)
set_option maxHeartbeats 4000000 in
theorem get07_any (v : Value) (l : List ParL) (name : ByteArray) (w : World) (h : ParsIn w v l) (hl : l.length ≤ 1000000) :
    Calls Tryz.prog 12 #[v, .string name] w fun e w' => e = .returned (optV (getP l name.data.toList)) ∧ Below w.heap.size w w' := by
  obtain ⟨A, cap, rfl⟩ := h.form
  have H := hide h
  clear h
  go_enter Tryz.func12, Tryz.ntmps12
  go_wp2_with fail
  go_loopw [10] (fun iv wr => ∃ k : Nat, k ≤ l.length ∧ iv = .int .i64 k ∧ Hid (Below w.heap.size w wr) ∧ Hid (getP (l.drop k) name.data.toList = getP l name.data.toList)) (fun iv _ => l.length - (intOf iv).toNat)
  case atStart => exact ⟨0, Nat.zero_le _, rfl, hide (Below.refl _ _), hide rfl⟩
  case round =>
    obtain ⟨k, hk, rfl, HB, HG⟩ := hrel
    have hk6 : k ≤ 1000000 := by omega
    by_cases hlt : k < l.length
    · obtain ⟨a, rfl, c0, c1⟩ := (H.out.kept HB.out).at k _ (List.getElem?_eq_getElem hlt)
      have hdr : l.drop k = l[k] :: l.drop (k + 1) := List.drop_eq_getElem_cons hlt
      have HG2 := HG.out
      rw [hdr] at HG2
      obtain ⟨p, hp⟩ : ∃ p, p = l[k]'hlt := ⟨_, rfl⟩
      rw [← hp] at c0 c1 HG2
      obtain ⟨P1, hP1⟩ : ∃ P1, P1 = str p.1 := ⟨_, rfl⟩
      obtain ⟨P2, hP2⟩ : ∃ P2, P2 = str p.2 := ⟨_, rfl⟩
      rw [← hP1] at c0
      rw [← hP2] at c1
      have HLT := hide hlt
      have HBA : Hid (∀ o, Below w.heap.size w (wr.alloc o)) := hide (fun o => HB.out.alloc HB.out.size o)
      cases he : (p.1 == name.data.toList) with
      | true =>
        have t1 : (P1.toList == name.toList) = true := by rw [hP1, str_list, bytes_list]; exact he
        have HV : Hid (optV (getP l name.data.toList) = .tuple #[.string P2, .bool true]) := hide (by
          rw [← HG2]; unfold getP; rw [List.find?_cons_of_pos (by exact he), hP2]; rfl)
        clear he hdr HG2 hp hP1 hP2
        go_wp2_with fail
        go_ret2
        exact ⟨by rw [HV.out] <;> rfl, HBA.out _⟩
      | false =>
        have t1 : (P1.toList == name.toList) = false := by rw [hP1, str_list, bytes_list]; exact he
        have HGN : Hid (getP (l.drop (k + 1)) name.data.toList = getP l name.data.toList) := hide (by
          rw [← HG2]; unfold getP; rw [List.find?_cons_of_neg (by rw [he]; decide)])
        clear he hdr HG2 hp hP1 hP2
        go_wp2_with fail
        go_roundw
        case rel => exact ⟨k + 1, HLT.out, by go_num, hide (HBA.out _), HGN⟩
        case measure => simp [intOf]; have := HLT.out; omega
    · have HV : Hid (optV (getP l name.data.toList) = .tuple #[.string ⟨#[]⟩, .bool false]) := hide (by
        rw [← HG.out, List.drop_eq_nil_of_le (by omega)]; rfl)
      go_wp2_with fail
      go_ret2
      exact ⟨by rw [HV.out] <;> rfl, HB.out⟩
end Go.Proofs.YtienjpelmbldpaaGreatDoor
