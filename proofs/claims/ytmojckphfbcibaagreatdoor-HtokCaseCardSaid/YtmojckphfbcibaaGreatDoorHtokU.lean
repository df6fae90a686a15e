/- Names in large letters; rows of api.Token that the call owns, whose attributes were given. No statement is proved here. Own work of the verifier. -/
import Derived.Test.YtmojckphfbcibaaGreatDoorBaseM
import Derived.Test.YtmojckphfbcibaaGreatDoorHtokO
import Derived.Test.YtmojckphfbcibaaGreatDoorHtokY
namespace Go.Proofs.YtmojckphfbcibaaGreatDoor
open Go.RowKit
set_option linter.unusedVariables false
set_option linter.unusedSimpArgs false
set_option maxRecDepth 100000
/-- A to Z in the place of a to z -/
def upC (c : UInt8) : UInt8 := if 97 ≤ c ∧ c ≤ 122 then c - 32 else c
def upB (l : List UInt8) : List UInt8 := l.map upC
theorem upC_case (c : UInt8) : (97 ≤ c.toNat ∧ c.toNat ≤ 122 ∧ (upC c).toNat = c.toNat - 32) ∨ ((c.toNat < 97 ∨ (97 ≤ c.toNat ∧ 122 < c.toNat)) ∧ upC c = c) :=
  u8_all (p := fun c => (97 ≤ c.toNat ∧ c.toNat ≤ 122 ∧ (upC c).toNat = c.toNat - 32) ∨ ((c.toNat < 97 ∨ (97 ≤ c.toNat ∧ 122 < c.toNat)) ∧ upC c = c)) (by decide +kernel) c
theorem upB_length (l : List UInt8) : (upB l).length = l.length := by simp [upB]
/-- the first k of l large, the others as they are -/
def upAt (l : List UInt8) (k : Nat) : List UInt8 := upB (l.take k) ++ l.drop k
theorem upAt_length (l : List UInt8) (k : Nat) : (upAt l k).length = l.length := by simp [upAt, upB]; omega
theorem upAt_zero (l : List UInt8) : upAt l 0 = l := by simp [upAt, upB]
theorem upAt_end (l : List UInt8) (k : Nat) (h : l.length ≤ k) : upAt l k = upB l := by
  rw [upAt, List.take_of_length_le h, List.drop_eq_nil_of_le h, List.append_nil]
theorem upAt_get (l : List UInt8) (k : Nat) (h : k < l.length) (h' : k < (upAt l k).length) : (upAt l k)[k] = l[k] := by
  simp [upAt, upB, Nat.min_eq_left (Nat.le_of_lt h)]
theorem upAt_set (l : List UInt8) (k : Nat) (h : k < l.length) : (upAt l k).set k (upC l[k]) = upAt l (k + 1) := by
  have e : (upB (l.take k)).length = k := by simp [upB]; omega
  rw [upAt, List.set_append_right _ _ (by omega), e, Nat.sub_self, List.drop_eq_getElem_cons h, List.set_cons_zero, upAt]
  rw [List.take_succ_eq_append_getElem h, upB, upB, List.map_append, List.append_assoc]
  rfl
theorem upAt_same (l : List UInt8) (k : Nat) (h : k < l.length) (e : upC l[k] = l[k]) : upAt l k = upAt l (k + 1) := by
  rw [← upAt_set l k h, e]
  have := upAt_get l k h (by rw [upAt_length]; exact h)
  conv => rhs; rw [← this]
  exact (List.set_getElem_self _).symm
theorem up_small (c : UInt8) (h : (smallB c || digitB c) = true) : (letterB (upC c) || digitB (upC c)) = true ∧ lowC (upC c) = c :=
  u8_all (p := fun c => (smallB c || digitB c) = true → ((letterB (upC c) || digitB (upC c)) = true ∧ lowC (upC c) = c)) (by decide +kernel) c h
theorem up_letter (c : UInt8) (h : smallB c = true) : letterB (upC c) = true :=
  u8_all (p := fun c => smallB c = true → letterB (upC c) = true) (by decide +kernel) c h
theorem plain_up {l : List UInt8} (h : plainB l = true) : nameOK (upB l) ∧ lowL (upB l) = l := by
  cases l with
  | nil => cases h
  | cons c r =>
    unfold plainB at h
    rw [Bool.and_eq_true, List.all_eq_true] at h
    have ha : ∀ x ∈ c :: r, (smallB x || digitB x) = true := fun x hx => by
      rcases List.mem_cons.1 hx with rfl | hx
      · rw [h.1]; rfl
      · exact h.2 x hx
    refine ⟨⟨upC c, upB r, rfl, up_letter c h.1, fun x hx => ?_⟩, ?_⟩
    · obtain ⟨z, hz, rfl⟩ := List.mem_map.1 (show x ∈ (c :: r).map upC from hx)
      exact (up_small z (ha z hz)).1
    · unfold lowL upB
      rw [List.map_map]
      exact (List.map_congr_left fun z hz => (up_small z (ha z hz)).2).trans (List.map_id _)
def upG (p : TokG) : TokG := (p.1, { p.2 with name := upB p.2.name })
theorem clean_up {p : TokG} {was : Int} (h : cleanB p was = true) : ReadT (toL (upG p)) (toL p) := by
  obtain ⟨⟨_, _, _, hr⟩, _, _⟩ := clean_read h
  refine ⟨rfl, rfl, rfl, ?_⟩
  have hpl : (toL p).kind ≠ 1 → plainB p.2.name = true := fun hk => by
    have k1 : p.1 ≠ 1 := fun e => hk (by show kindN p.1 = 1; rw [e]; rfl)
    unfold cleanB at h
    rw [if_neg k1] at h
    by_cases k3 : p.1 = 3
    · rw [if_pos k3, Bool.and_eq_true] at h; exact h.1
    · rw [if_neg k3] at h
      by_cases k2 : p.1 = 2
      · rw [if_pos k2] at h
        simp only [Bool.and_eq_true] at h
        exact h.2.1
      · rw [if_neg k2] at h; cases h
  rcases hr with h1 | ⟨h1, _, _, h4, h5⟩ | ⟨h1, _, _, h4, h5, h6, h7, h8⟩
  · exact .inl h1
  · obtain ⟨a, b⟩ := plain_up (hpl (by rw [h1]; decide))
    exact .inr (.inl ⟨h1, a, b, h4, h5⟩)
  · obtain ⟨a, b⟩ := plain_up (hpl (by rw [h1]; decide))
    exact .inr (.inr ⟨h1, a, b, h4, h5, h6, h7, h8⟩)
theorem cleans_up : ∀ (l : List TokG) (was : Int), cleansB was l = true → TokR ((l.map upG).map toL) (l.map toL)
  | [], _, _ => .nil
  | p :: r, was, h => by
    unfold cleansB at h
    rw [Bool.and_eq_true] at h
    exact .cons (clean_up h.1) (cleans_up r p.1 h.2)
theorem scan_large {l : List TokG} (h : cleansB 0 l = true) : scanL decE [] [] (writeG (l.map upG)) = l.map toL := by
  obtain ⟨_, h2, _, _⟩ := cleans_read l 0 h
  rw [writeG_L, scan_write escOK _ _ (cleans_up l 0 h) h2 [] [] (.inl rfl)]
  rfl
theorem fit_up {p : TokG} (h : fitT p.2 = true) : fitT (upG p).2 = true := by
  unfold fitT at h ⊢
  rw [show (upG p).2.name.length = p.2.name.length from upB_length _]
  exact h
abbrev TokU := TokG × Value
def tokUVals (ls : List TokU) : List Value := ls.flatMap fun p => [.int .i64 p.1.1, .string (str p.1.2.name), p.2, .string (str p.1.2.text)]
theorem tokUVals_append (a b : List TokU) : tokUVals (a ++ b) = tokUVals a ++ tokUVals b := by unfold tokUVals; rw [List.flatMap_append]
theorem tokUVals_at {l : List TokU} {j : Nat} {p : TokU} (h : l[j]? = some p) : (tokUVals l)[j * 4]? = some (.int .i64 p.1.1) ∧ (tokUVals l)[j * 4 + 1]? = some (.string (str p.1.2.name)) ∧ (tokUVals l)[j * 4 + 2]? = some p.2 ∧ (tokUVals l)[j * 4 + 3]? = some (.string (str p.1.2.text)) := by
  induction l generalizing j with
  | nil => simp at h
  | cons g r ih =>
    cases j with
    | zero => simp at h; subst h; exact ⟨rfl, rfl, rfl, rfl⟩
    | succ j =>
      have := ih (j := j) (by simpa using h)
      have e : tokUVals (g :: r) = .int .i64 g.1.1 :: .string (str g.1.2.name) :: g.2 :: .string (str g.1.2.text) :: tokUVals r := rfl
      rw [e, show (j + 1) * 4 = j * 4 + 1 + 1 + 1 + 1 by omega]
      simpa using this
/-- in w the []api.Token v owns tokens whose attributes lie in W0 -/
structure URow (W0 : World) (v : Value) (ls : List TokU) (w : World) : Prop where
  row : w.ownsRow W0.heap.size 32 4 v ls.length (tokUVals ls)
  each : ∀ p ∈ ls, AttrsIn W0 p.2 p.1.2.attrs
  below : Below W0.heap.size W0 w
theorem URow.nil (w : World) : URow w (.slice none 0 0) [] w := ⟨World.ownsRow_nil w _ _ 4, fun p h => (by cases h), Below.refl _ _⟩
theorem URow.kept {W0 w w' : World} {v : Value} {ls : List TokU} (h : URow W0 v ls w) (hb : Below w.heap.size w w') : URow W0 v ls w' :=
  ⟨h.row.kept (row := none) ⟨hb.os, hb.tape, hb.output, hb.size, fun k hk _ => hb.block k hk⟩ (by cases hv : v.ownBlock <;> simp), h.each, h.below.trans (hb.mono h.below.size)⟩
theorem URow.set {W0 w : World} {v : Value} {ls : List TokU} {b : Nat} (h : URow W0 v ls w) (hB : W0.heap.size ≤ b) (hne : v.ownBlock ≠ some b) (j : Nat) (x : Value) : URow W0 v ls (w.setCell ⟨b, j, none⟩ x) :=
  ⟨h.row.kept (row := some b) ⟨rfl, rfl, rfl, by simp [World.setCell], fun k _ hk => Below.heap_setCell _ _ _ k (fun e => hk (by rw [e]))⟩ (.inr hne), h.each, h.below.setCell (p := ⟨b, j, none⟩) hB _⟩
theorem URow.own_ne {W0 w : World} {v : Value} {ls : List TokU} (h : URow W0 v ls w) : v.ownBlock ≠ some w.heap.size := fun e => absurd (h.row.lt _ e).2 (Nat.lt_irrefl _)
theorem URow.slice_len {W0 w : World} {v : Value} {ls : List TokU} (h : URow W0 v ls w) : ∃ A c, v = .slice A ls.length c := by
  rcases h.row.2 with ⟨rfl, h0⟩ | ⟨g, cap, cur, rfl, _⟩
  · rw [h0]; exact ⟨_, _, rfl⟩
  · exact ⟨_, _, rfl⟩
theorem URow.in {W0 w : World} {v : Value} {ls : List TokU} (h : URow W0 v ls w) : ToksIn w v (ls.map Prod.fst) := by
  rcases h.row.2 with ⟨rfl, h0⟩ | ⟨g, cap, cur, rfl, hg, hh, h1, h2, h3, h4⟩
  · exact .inl ⟨rfl, by rw [List.eq_nil_of_length_eq_zero h0]; rfl⟩
  · refine .inr ⟨⟨g, 0, none⟩, cap, by simp, by simpa using h1, h2, fun j f hj => ?_⟩
    rw [List.getElem?_map] at hj
    obtain ⟨p, hp, rfl⟩ := Option.map_eq_some_iff.1 hj
    obtain ⟨c1, c2, c3, c4⟩ := tokUVals_at hp
    have hc : ∀ (i : Nat) (x : Value), (tokUVals ls)[i]? = some x → w.cell? ((⟨g, 0, none⟩ : Addr).add i) = some x := fun i x hx => h.row.cells (g := g) rfl _ _ hx
    exact ⟨hc _ _ c1, hc _ _ c2, hc _ _ c4, p.2, hc _ _ c3, (h.each p (List.mem_of_getElem? hp)).kept h.below⟩
/-- append(l, t): the one token's cells lie at ad -/
theorem wpList_utoks {ops : Array Oper} {rest : List Oper} {o : Oper} {a : Act} {Q : Exit → Act → World → Prop} {w : World} (hgd : o.guard = none) (s x : Operand)
    (ho : o.op = .call { callee := .builtin .append, args := #[s, x], argTypes := #[24, 24] })
    (W0 : World) (v : Value) (ls : List TokU) (hs : a.eval s = v) (p : TokG) (A : Option Addr) (n c : Nat) (hb : URow W0 v ls w) (hu : AttrsIn W0 (.slice A n c) p.2.attrs) (ad : Addr)
    (hx : a.eval x = .slice (some ad) 1 1) (h0 : w.cell? (ad.add 0) = some (.int .i64 p.1)) (h1 : w.cell? (ad.add 1) = some (.string (str p.2.name))) (h2 : w.cell? (ad.add 2) = some (.slice A n c)) (h3 : w.cell? (ad.add 3) = some (.string (str p.2.text)))
    (hlen : ls.length + 1 ≤ 2199023255552)
    (h : ∀ v' w', URow W0 v' (ls ++ [(p, .slice A n c)]) w' → wpList Tryz.prog ops Q rest (a.put o.dst v') w') : wpList Tryz.prog ops Q (o :: rest) a w := by
  obtain ⟨i0, hi, hz0, hz1, hz2⟩ := info_parts info_tok
  refine wpList_append_own _ hgd s x 24 ho W0.heap.size 32 i0 (.agg #[.int .i64 0, .string ByteArray.empty, .slice none 0 0, .string ByteArray.empty]) 4 64 Tryz.underlying24 hi hz0 hz1 hz2 rfl (by decide) v ls.length (tokUVals ls) hs hb.row ad 1 1 (tokUVals [(p, .slice A n c)]) hx rfl ?_ ?_ (by unfold maxLen; omega) (by omega) hb.below.size ?_
  · intro j u hj
    match j, hj with
    | 0, hj => simp [tokUVals] at hj; subst hj; exact h0
    | 1, hj => simp [tokUVals] at hj; subst hj; exact h1
    | 2, hj => simp [tokUVals] at hj; subst hj; exact h2
    | 3, hj => simp [tokUVals] at hj; subst hj; exact h3
    | (j + 4), hj => simp [tokUVals] at hj
  · intro u hu
    simp [tokUVals] at hu
    rcases hu with rfl | rfl | rfl | rfl <;> rfl
  · intro v' w' ho' hg _
    refine h v' w' ⟨by rw [tokUVals_append, List.length_append]; exact ho', fun z hz => ?_, hb.below.grown hg hb.below.size (fun k hk => (hb.row.lt k hk).1)⟩
    rcases List.mem_append.1 hz with hz | hz
    · exact hb.each z hz
    · obtain rfl := List.mem_singleton.1 hz
      exact hu
end Go.Proofs.YtmojckphfbcibaaGreatDoor
