/- What the reference's One looks for, place by place, and that it is the encoded word's. No statement is proved here. -/
import Derived.Test.YtienjpelmbldpaaGreatDoorRef05
import Derived.Test.YtienjpelmbldpaaGreatDoorBaseM
namespace Go.Proofs.YtienjpelmbldpaaGreatDoor
set_option linter.unusedVariables false
set_option linter.unusedSimpArgs false

theorem until_some {l : List UInt8} {n : Nat} (h : untilN l = some n) : ∃ a r, l = a ++ 63 :: r ∧ a.length = n ∧ (63 : UInt8) ∉ a ∧ noWs a = true := by
  induction l generalizing n with
  | nil => cases h
  | cons c r ih =>
    rw [untilN] at h
    by_cases hc : wsB c = true
    · rw [if_pos hc] at h; cases h
    · rw [if_neg hc] at h
      by_cases h63 : c = 63
      · rw [if_pos h63] at h
        have : 0 = n := Option.some.inj h
        exact ⟨[], r, by rw [h63]; rfl, this, by simp, rfl⟩
      · rw [if_neg h63] at h
        cases hu : untilN r with
        | none => rw [hu] at h; cases h
        | some m =>
          rw [hu] at h
          have hm : m + 1 = n := Option.some.inj h
          obtain ⟨a, r', e1, e2, e3, e4⟩ := ih hu
          refine ⟨c :: a, r', by rw [e1]; rfl, by simp [e2, hm], ?_, ?_⟩
          · intro hmem
            rcases List.mem_cons.1 hmem with e | e
            · exact h63 e.symm
            · exact e3 e
          · show (!wsB c && noWs a) = true
            rw [e4]
            simpa using hc
theorem until_none {l : List UInt8} (h : untilN l = none) : ((63 : UInt8) ∉ l) ∨ noWs (beforeC 63 l) = false := by
  induction l with
  | nil => exact .inl (by simp)
  | cons c r ih =>
    rw [untilN] at h
    by_cases hc : wsB c = true
    · by_cases h63 : c = 63
      · subst h63; exact absurd hc (by decide)
      · have hne : (c != 63) = true := by rw [bne_iff_ne]; exact h63
        refine .inr ?_
        unfold beforeC
        rw [List.takeWhile_cons, hne]
        show (!wsB c && _) = false
        rw [hc]; rfl
    · rw [if_neg hc] at h
      by_cases h63 : c = 63
      · rw [if_pos h63] at h; cases h
      · rw [if_neg h63] at h
        have hu : untilN r = none := by
          cases hu : untilN r with
          | none => rfl
          | some m => rw [hu] at h; cases h
        have hne : (c != 63) = true := by rw [bne_iff_ne]; exact h63
        rcases ih hu with e | e
        · exact .inl (by simp [e]; exact fun x => h63 x.symm)
        · refine .inr ?_
          unfold beforeC at e ⊢
          rw [List.takeWhile_cons, hne]
          show (!wsB c && noWs (List.takeWhile (fun x => x != 63) r)) = false
          rw [e, Bool.and_false]
theorem labelK_ws {a : List UInt8} (h : noWs a = false) : labelK a = 0 := by
  unfold labelK; rw [if_neg (fun x => by rw [h] at x; exact absurd x.2 (by decide))]
theorem bytesO_ws {x t : List UInt8} (h : noWs t = false) : bytesO x t = none := by
  unfold bytesO; rw [if_neg (by rw [h]; decide)]
theorem bytesO_wsx {x t : List UInt8} (h : noWs x = false) : bytesO x t = none := by
  have h1 : x ≠ [66] := fun e => by rw [e] at h; exact absurd h (by decide)
  have h2 : x ≠ [98] := fun e => by rw [e] at h; exact absurd h (by decide)
  have h3 : x ≠ [81] := fun e => by rw [e] at h; exact absurd h (by decide)
  have h4 : x ≠ [113] := fun e => by rw [e] at h; exact absurd h (by decide)
  unfold bytesO
  split
  · rw [if_neg (fun y => y.elim h1 h2), if_neg (fun y => y.elim h3 h4)]
  · rfl
theorem one_cut1 {l : List UInt8} (h : (63 : UInt8) ∉ l.drop 2 ∨ noWs (beforeC 63 (l.drop 2)) = false) : oneL l = none := by
  unfold oneL
  rcases h with h | h
  · obtain ⟨h1, h2⟩ := cut_none 63 _ h
    rw [h2, if_neg (fun x => absurd x.2.1 (by decide))]
  · rw [if_neg (fun x => x.2.2 (labelK_ws h))]
theorem one_head {l : List UInt8} (h : l.take 2 ≠ [61, 63]) : oneL l = none := by
  unfold oneL; rw [if_neg (fun x => h x.1)]
theorem one_until {l : List UInt8} (h : untilI l 2 = -1) : oneL l = none := by
  unfold untilI at h
  cases hu : untilN (l.drop 2) with
  | none => exact one_cut1 (until_none hu)
  | some n => rw [hu] at h; have h : ((2 + n : Nat) : Int) = -1 := h; omega
/-- the alphabet's end is at P -/
theorem one_alpha {l : List UInt8} {P : Nat} (h : untilI l 2 = P) (h2 : l.take 2 = [61, 63]) :
    2 ≤ P ∧ P < l.length ∧ ∃ a r1, l = [61, 63] ++ (a ++ 63 :: r1) ∧ a.length + 2 = P ∧ (63 : UInt8) ∉ a ∧ noWs a = true := by
  unfold untilI at h
  cases hu : untilN (l.drop 2) with
  | none => rw [hu] at h; have h : (-1 : Int) = P := h; omega
  | some n =>
    rw [hu] at h
    have h : ((2 + n : Nat) : Int) = P := h
    obtain ⟨a, r, e1, e2, e3, e4⟩ := until_some hu
    have hl : l = [61, 63] ++ (a ++ 63 :: r) := by rw [← e1, ← h2, List.take_append_drop]
    refine ⟨by omega, ?_, a, r, hl, by omega, e3, e4⟩
    rw [hl]; simp; omega
theorem one_bad_alpha {l : List UInt8} {P : Nat} (h : untilI l 2 = P) (h2 : l.take 2 = [61, 63]) (hP : P < 3 ∨ 42 < P) : oneL l = none := by
  obtain ⟨_, _, a, r1, hl, ha, h63, hw⟩ := one_alpha h h2
  have hb : beforeC 63 (l.drop 2) = a := by rw [hl]; exact (cut_here 63 a r1 h63).1
  have hk : labelK a = 0 := by
    rcases hP with hP | hP
    · have : a = [] := List.eq_nil_of_length_eq_zero (by omega)
      rw [this]; exact labelK_nil
    · unfold labelK; rw [if_neg (fun x => by have := x.1; omega)]
  unfold oneL
  rw [hb, if_neg (fun x => x.2.2 hk)]
theorem one_rest {l : List UInt8} {P : Nat} (h : untilI l 2 = P) (h2 : l.take 2 = [61, 63]) (hP : 3 ≤ P ∧ P ≤ 42) :
    (kindL (beforeC 42 ((l.drop 2).take (P - 2))) = 0 ∧ oneL l = none) ∨ (kindL (beforeC 42 ((l.drop 2).take (P - 2))) ≠ 0 ∧
      ((untilI l (P + 1) ≠ (P : Int) + 2 ∧ oneL l = none) ∨ (untilI l (P + 1) = (P : Int) + 2 ∧ P + 2 < l.length ∧
        ((untilI l (P + 3) = -1 ∧ oneL l = none) ∨ ∃ Q : Nat, untilI l (P + 3) = Q ∧ P + 3 ≤ Q ∧ Q < l.length ∧
          ((l.length ≤ Q + 1 ∧ oneL l = none) ∨ (Q + 1 < l.length ∧ ((l.getD (Q + 1) 0 ≠ 61 ∧ oneL l = none) ∨ (l.getD (Q + 1) 0 = 61 ∧ noWs ((l.drop (P + 3)).take (Q - (P + 3))) = true ∧
            oneL l = (bytesO [l.getD (P + 1) 0] ((l.drop (P + 3)).take (Q - (P + 3)))).map fun b => (decodeL (kindL (beforeC 42 ((l.drop 2).take (P - 2)))) b, Q + 2))))))))) := by
  obtain ⟨_, hPl, a, r1, hl, ha, h63, hw⟩ := one_alpha h h2
  have hd2 : l.drop 2 = a ++ 63 :: r1 := by rw [hl]; rfl
  have hta : (l.drop 2).take (P - 2) = a := by rw [hd2, show P - 2 = a.length by omega, List.take_left]
  have hb1 : beforeC 63 (l.drop 2) = a := by rw [hd2]; exact (cut_here 63 a r1 h63).1
  have hc1 : afterC 63 (l.drop 2) = r1 := by rw [hd2]; exact (cut_here 63 a r1 h63).2
  have hlk : labelK a = kindL (beforeC 42 a) := by unfold labelK; rw [if_pos ⟨by omega, hw⟩]
  have hd3 : l.drop (P + 1) = r1 := by
    rw [show P + 1 = 2 + (a.length + 1) by omega, ← List.drop_drop, hd2, ← List.drop_drop, List.drop_left]; rfl
  have hlen : l.length = P + 1 + r1.length := by rw [hl]; simp; omega
  rw [hta]
  by_cases hk : kindL (beforeC 42 a) = 0
  · exact .inl ⟨hk, by unfold oneL; rw [hb1, if_neg (fun x => x.2.2 (by rw [hlk]; exact hk))]⟩
  refine .inr ⟨hk, ?_⟩
  -- the letter
  have hone : oneL l = if (afterC 63 (afterC 63 r1)).take 1 = [61] then (bytesO (beforeC 63 r1) (beforeC 63 (afterC 63 r1))).map fun b => (decodeL (kindL (beforeC 42 a)) b, l.length - ((afterC 63 (afterC 63 r1)).length - 1)) else none := by
    unfold oneL
    rw [hb1, hc1, hlk]
    by_cases hx : (afterC 63 (afterC 63 r1)).take 1 = [61]
    · rw [if_pos hx, if_pos ⟨h2, hx, hk⟩]
    · rw [if_neg hx, if_neg (fun y => hx y.2.1)]
  have hnob : ∀ {x t : List UInt8}, (∀ c, x ≠ [c]) → bytesO x t = none := fun {x t} hx => by
    unfold bytesO
    split
    · rw [if_neg (fun y => y.elim (hx 66) (hx 98)), if_neg (fun y => y.elim (hx 81) (hx 113))]
    · rfl
  by_cases hu : untilI l (P + 1) = (P : Int) + 2
  · refine .inr ⟨hu, ?_⟩
    unfold untilI at hu
    rw [hd3] at hu
    cases hun : untilN r1 with
    | none => rw [hun] at hu; have hu : (-1 : Int) = (P : Int) + 2 := hu; omega
    | some m =>
      rw [hun] at hu
      have hu : ((P + 1 + m : Nat) : Int) = (P : Int) + 2 := hu
      obtain ⟨x, r2, e1, e2, e3, e4⟩ := until_some hun
      have hb2 : beforeC 63 r1 = x := by rw [e1]; exact (cut_here 63 x r2 e3).1
      have hc2 : afterC 63 r1 = r2 := by rw [e1]; exact (cut_here 63 x r2 e3).2
      obtain ⟨c, hx⟩ : ∃ c, x = [c] := by
        match x, e2 with
        | [c], _ => exact ⟨c, rfl⟩
        | [], e2 => simp at e2; omega
        | _ :: _ :: _, e2 => simp at e2; omega
      subst hx
      have hd4 : l.drop (P + 3) = r2 := by rw [show P + 3 = (P + 1) + 2 by omega, ← List.drop_drop, hd3, e1]; rfl
      have hlen2 : l.length = P + 3 + r2.length := by rw [hlen, e1]; simp; omega
      have hgc : l.getD (P + 1) 0 = c := by
        have : (l.drop (P + 1)).getD 0 0 = c := by rw [hd3, e1]; rfl
        simpa [List.getD_eq_getElem?_getD, List.getElem?_drop] using this
      rw [hb2, hc2] at hone
      refine ⟨by omega, ?_⟩
      cases hun2 : untilN r2 with
      | none =>
        refine .inl ⟨by unfold untilI; rw [hd4, hun2]; rfl, ?_⟩
        rw [hone]
        rcases until_none hun2 with e | e
        · rw [(cut_none 63 r2 e).2, if_neg (by decide)]
        · rw [bytesO_ws e]; split <;> rfl
      | some C =>
        obtain ⟨t, r3, f1, f2, f3, f4⟩ := until_some hun2
        have hb3 : beforeC 63 r2 = t := by rw [f1]; exact (cut_here 63 t r3 f3).1
        have hc3 : afterC 63 r2 = r3 := by rw [f1]; exact (cut_here 63 t r3 f3).2
        have hlen3 : l.length = P + 3 + C + 1 + r3.length := by rw [hlen2, f1]; simp; omega
        have htt : (l.drop (P + 3)).take (P + 3 + C - (P + 3)) = t := by rw [hd4, f1, show P + 3 + C - (P + 3) = t.length by omega, List.take_left]
        have hd5 : l.drop (P + 3 + C + 1) = r3 := by
          rw [show P + 3 + C + 1 = (P + 3) + (t.length + 1) by omega, ← List.drop_drop, hd4, f1, ← List.drop_drop, List.drop_left]; rfl
        rw [hb3, hc3] at hone
        refine .inr ⟨P + 3 + C, by unfold untilI; rw [hd4, hun2]; rfl, by omega, by omega, ?_⟩
        match r3, hd5, hlen3, hone with
        | [], hd5, hlen3, hone =>
          refine .inl ⟨by simp at hlen3; omega, ?_⟩
          rw [hone, if_neg (by decide)]
        | z :: r4, hd5, hlen3, hone =>
          have hgz : l.getD (P + 3 + C + 1) 0 = z := by
            have : (l.drop (P + 3 + C + 1)).getD 0 0 = z := by rw [hd5]; rfl
            simpa [List.getD_eq_getElem?_getD, List.getElem?_drop] using this
          refine .inr ⟨by simp at hlen3; omega, ?_⟩
          rw [hgz, hgc, htt]
          by_cases hz : z = 61
          · refine .inr ⟨hz, f4, ?_⟩
            rw [hone, if_pos (by rw [hz]; rfl)]
            have : l.length - ((z :: r4).length - 1) = P + 3 + C + 2 := by simp at hlen3 ⊢; omega
            rw [this]
          · exact .inl ⟨hz, by rw [hone, if_neg (fun e => hz (by simpa using e))]⟩
  · refine .inl ⟨hu, ?_⟩
    rw [hone]
    unfold untilI at hu
    rw [hd3] at hu
    have key : bytesO (beforeC 63 r1) (beforeC 63 (afterC 63 r1)) = none ∨ (afterC 63 (afterC 63 r1)).take 1 ≠ [61] := by
      cases hun : untilN r1 with
      | none =>
        rcases until_none hun with e | e
        · exact .inr (by rw [(cut_none 63 r1 e).2]; decide)
        · exact .inl (bytesO_wsx e)
      | some m =>
        rw [hun] at hu
        have hu : ¬ ((P + 1 + m : Nat) : Int) = (P : Int) + 2 := hu
        obtain ⟨x, r2, e1, e2, e3, e4⟩ := until_some hun
        have hb2 : beforeC 63 r1 = x := by rw [e1]; exact (cut_here 63 x r2 e3).1
        exact .inl (hnob fun c hc => by
          rw [hb2] at hc
          rw [hc] at e2
          simp at e2; omega)
    rcases key with e | e
    · rw [e]; split <;> rfl
    · rw [if_neg e]
end Go.Proofs.YtienjpelmbldpaaGreatDoor
