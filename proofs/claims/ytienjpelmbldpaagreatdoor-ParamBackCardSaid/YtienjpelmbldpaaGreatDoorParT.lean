/- PURE: what param writes is read. No statement is proved here. -/
import Derived.Test.YtienjpelmbldpaaGreatDoorParR
import Derived.Test.YtienjpelmbldpaaGreatDoorParN
namespace Go.Proofs.YtienjpelmbldpaaGreatDoor
open Go.RowKit
set_option linter.unusedVariables false
set_option linter.unusedSimpArgs false
set_option maxRecDepth 100000
/-! ### signs -/
def wsP (c : UInt8) : Bool := ([32, 9, 10, 13] : List UInt8).contains c
theorem nmB_facts {c : UInt8} (h : nmB c = true) : c ≠ 59 ∧ c ≠ 34 ∧ c ≠ 61 ∧ c ≠ 42 ∧ lowC c = c ∧ wsP c = false :=
  u8_all (p := fun c => nmB c = true → c ≠ 59 ∧ c ≠ 34 ∧ c ≠ 61 ∧ c ≠ 42 ∧ lowC c = c ∧ wsP c = false) (by decide +kernel) c h
def tokP (c : UInt8) : Bool := c != 59 && c != 34 && c != 39 && !wsP c
theorem sign_tokP (c : UInt8) : (pSign c).all tokP = true := u8_all (p := fun c => (pSign c).all tokP = true) (by decide +kernel) c
theorem penc_tokP (l : List UInt8) : ∀ c ∈ penc l, tokP c = true := by
  intro c hc
  obtain ⟨x, _, hx⟩ := List.mem_flatMap.1 hc
  exact List.all_eq_true.1 (sign_tokP x) c hx
theorem tokP_facts {c : UInt8} (h : tokP c = true) : c ≠ 59 ∧ c ≠ 34 ∧ c ≠ 39 ∧ wsP c = false :=
  u8_all (p := fun c => tokP c = true → c ≠ 59 ∧ c ≠ 34 ∧ c ≠ 39 ∧ wsP c = false) (by decide +kernel) c h
/-! ### trimmed -/
def rtP (l : List UInt8) : List UInt8 := (l.reverse.dropWhile wsP).reverse
theorem trP_eq (l : List UInt8) : trP l = (rtP l).dropWhile wsP := rfl
theorem rtP_cons (l : List UInt8) (c : UInt8) : rtP (c :: l) = if rtP l = [] then (if wsP c then [] else [c]) else c :: rtP l := by
  unfold rtP
  rw [List.reverse_cons, List.dropWhile_append]
  cases h : l.reverse.dropWhile wsP with
  | nil => simp only [List.isEmpty_nil, List.reverse_nil, if_true]; cases hc : wsP c <;> simp [hc]
  | cons a r => simp
theorem trP_blank (l : List UInt8) (c : UInt8) (h : wsP c = true) : trP (c :: l) = trP l := by
  rw [trP_eq, trP_eq, rtP_cons, if_pos h]
  by_cases e : rtP l = []
  · rw [if_pos e, e]
  · rw [if_neg e, List.dropWhile_cons_of_pos h]
theorem trP_ends (x : List UInt8) (a b : UInt8) (ha : wsP a = false) (hb : wsP b = false) : trP (a :: (x ++ [b])) = a :: (x ++ [b]) := by
  have e : rtP (a :: (x ++ [b])) = a :: (x ++ [b]) := by
    unfold rtP
    rw [List.reverse_cons, List.reverse_append, List.reverse_singleton, List.singleton_append, List.cons_append, List.dropWhile_cons_of_neg (by rw [hb]; decide)]
    simp
  rw [trP_eq, e, List.dropWhile_cons_of_neg (by rw [ha]; decide)]
theorem trP_dark (x : List UInt8) (h : ∀ c ∈ x, wsP c = false) : trP x = x := by
  cases x with
  | nil => rfl
  | cons a r =>
    rcases List.eq_nil_or_concat r with rfl | ⟨y, b, rfl⟩
    · have := h a (List.mem_cons_self ..)
      rw [trP_eq]
      unfold rtP
      simp [this]
    · rw [List.concat_eq_append]
      exact trP_ends y a b (h a (List.mem_cons_self ..)) (h b (by simp))
theorem lowL_self {l : List UInt8} (h : ∀ c ∈ l, lowC c = c) : lowL l = l := by
  unfold lowL
  induction l with
  | nil => rfl
  | cons c r ih => rw [List.map_cons, h c (List.mem_cons_self ..), ih (fun x hx => h x (List.mem_cons_of_mem _ hx))]
/-! ### cut into pieces -/
theorem pc_dark (l rest : List UInt8) : ∀ cur, (∀ c ∈ l, c ≠ 59 ∧ c ≠ 34) → pcL cur (l ++ rest) = pcL (cur ++ l) rest := by
  induction l with
  | nil => intro cur _; rw [List.nil_append, List.append_nil]
  | cons c r ih =>
    intro cur h
    obtain ⟨h1, h2⟩ := h c (List.mem_cons_self ..)
    rw [List.cons_append, pcL_other cur h2 h1, ih _ (fun x hx => h x (List.mem_cons_of_mem _ hx)), List.append_assoc]; rfl
theorem pc_quoted (x rest cur : List UInt8) : pcL cur (quoteL x ++ rest) = pcL (cur ++ quoteL x) rest := by
  have e : quoteL x ++ rest = 34 :: ((escL x ++ [34]) ++ rest) := rfl
  rw [e, pcL_quote, ← e, readQ_quote]
  simp only
  rw [List.take_left, List.drop_left]
theorem pc_wr (v rest cur : List UInt8) : pcL cur (wrL v ++ rest) = pcL (cur ++ wrL v) rest := by
  unfold wrL
  split
  · rw [List.cons_append, pcL_other cur (by decide) (by decide), pc_quoted, List.append_assoc]; rfl
  · refine pc_dark _ rest cur (fun c hc => ?_)
    rcases List.mem_append.1 hc with hc1 | hc1
    · exact (by decide : ∀ c ∈ ([42, 61, 117, 116, 102, 45, 56, 39, 39] : List UInt8), c ≠ 59 ∧ c ≠ 34) c hc1
    · have := tokP_facts (penc_tokP v c hc1); exact ⟨this.1, this.2.1⟩
def pieceP (p : ParL) : List UInt8 := 32 :: (p.1 ++ wrL p.2)
theorem pc_parts (l : List ParL) (hn : ∀ p ∈ l, ∀ c ∈ p.1, nmB c = true) : ∀ cur, pcL cur (parTs l) = cur :: l.map pieceP := by
  induction l with
  | nil => intro cur; show pcL cur [] = _; rw [pcL_nil]; rfl
  | cons p r ih =>
    intro cur
    have e : parTs (p :: r) = 59 :: ([32] ++ (p.1 ++ (wrL p.2 ++ parTs r))) := by
      unfold parTs parT
      simp
    rw [e, pcL_semi, pc_dark [32] _ [] (by decide), pc_dark p.1 _ _ (fun c hc => by have := nmB_facts (hn p (List.mem_cons_self ..) c hc); exact ⟨this.1, this.2.1⟩), pc_wr, ih (fun q hq => hn q (List.mem_cons_of_mem _ hq))]
    simp [pieceP]
/-! ### what stands in a piece -/
/-- the label and the sign between -/
def utfP : List UInt8 := [117, 116, 102, 45, 56, 39, 39]
/-- the raw name and the raw value that are written of a parameter -/
def entP (p : ParL) : List UInt8 × List UInt8 := if encodeL p.2 = p.2 then (p.1, p.2) else (p.1 ++ [42], utfP ++ penc p.2)
theorem wr_piece (p : ParL) (hn : ∀ c ∈ p.1, nmB c = true) (h0 : p.1 ≠ []) :
    hasC 61 (pieceP p) = true ∧ tsL (beforeC 61 (pieceP p)) = (entP p).1 ∧ rvL (afterC 61 (pieceP p)) = (entP p).2 ∧ beforeC 42 (entP p).1 = p.1 ∧ (entP p).1 ≠ [] := by
  have n61 : (61 : UInt8) ∉ p.1 := fun h => (nmB_facts (hn _ h)).2.2.1 rfl
  have n42 : (42 : UInt8) ∉ p.1 := fun h => (nmB_facts (hn _ h)).2.2.2.1 rfl
  have hlow : ∀ c ∈ p.1, lowC c = c := fun c hc => (nmB_facts (hn c hc)).2.2.2.2.1
  have hdark : ∀ c ∈ p.1, wsP c = false := fun c hc => (nmB_facts (hn c hc)).2.2.2.2.2
  unfold pieceP wrL entP
  by_cases he : encodeL p.2 = p.2
  · rw [if_pos he, if_pos he]
    have k1 : (61 : UInt8) ∉ (32 :: p.1) := by
      intro h; rcases List.mem_cons.1 h with h | h
      · revert h; decide
      · exact n61 h
    have e1 : 32 :: (p.1 ++ 61 :: quoteL p.2) = (32 :: p.1) ++ 61 :: quoteL p.2 := rfl
    obtain ⟨c1, c2⟩ := cut_here 61 (32 :: p.1) (quoteL p.2) k1
    have c3 : hasC 61 ((32 :: p.1) ++ 61 :: quoteL p.2) = true := hasC_true (List.mem_append_right _ (List.mem_cons_self ..))
    rw [e1]
    refine ⟨c3, ?_, ?_, ?_, h0⟩
    · rw [c1]
      unfold tsL
      rw [trP_blank _ 32 (by decide), trP_dark _ hdark, lowL_self hlow]
    · rw [c2]
      unfold rvL
      have et : trP (quoteL p.2) = quoteL p.2 := trP_ends (escL p.2) 34 34 (by decide) (by decide)
      have er := readQ_quote p.2 []
      rw [List.append_nil] at er
      rw [et, er]
      simp only
      rw [if_pos (by unfold quoteL; simp)]
    · exact (cut_none 42 p.1 n42).1
  · rw [if_neg he, if_neg he]
    have k1 : (61 : UInt8) ∉ (32 :: (p.1 ++ [42])) := by
      intro h; rcases List.mem_cons.1 h with h | h
      · revert h; decide
      · rcases List.mem_append.1 h with h | h
        · exact n61 h
        · revert h; decide
    have e1 : 32 :: (p.1 ++ ([42, 61, 117, 116, 102, 45, 56, 39, 39] ++ penc p.2)) = (32 :: (p.1 ++ [42])) ++ 61 :: (utfP ++ penc p.2) := by simp [utfP]
    obtain ⟨c1, c2⟩ := cut_here 61 (32 :: (p.1 ++ [42])) (utfP ++ penc p.2) k1
    have c3 : hasC 61 ((32 :: (p.1 ++ [42])) ++ 61 :: (utfP ++ penc p.2)) = true := hasC_true (List.mem_append_right _ (List.mem_cons_self ..))
    rw [e1]
    refine ⟨c3, ?_, ?_, ?_, by simp⟩
    · rw [c1]
      unfold tsL
      rw [trP_blank _ 32 (by decide), trP_dark, lowL_self]
      · intro c hc
        rcases List.mem_append.1 hc with hc | hc
        · exact hlow c hc
        · rw [List.mem_singleton] at hc; subst hc; decide
      · intro c hc
        rcases List.mem_append.1 hc with hc | hc
        · exact hdark c hc
        · rw [List.mem_singleton] at hc; subst hc; decide
    · rw [c2]
      have et : trP (utfP ++ penc p.2) = utfP ++ penc p.2 := trP_dark _ (fun c hc => by
        rcases List.mem_append.1 hc with hc1 | hc1
        · exact (by decide : ∀ c ∈ utfP, wsP c = false) c hc1
        · exact (tokP_facts (penc_tokP _ c hc1)).2.2.2)
      unfold rvL
      rw [et]
      have er : readQ (utfP ++ penc p.2) = ([], 0) := rfl
      rw [er]
      exact if_neg (Nat.lt_irrefl 0)
    · exact (cut_here 42 p.1 [] n42).1
/-! ### read one behind the other -/
structure InvP (D : List ParL) (st : RawSt) : Prop where
  names : st.1 = D.map (·.1)
  from' : ∀ k x, st.2.1 k = some x → ∃ p ∈ D, k = (entP p).1 ∧ x = (entP p).2
  all : ∀ p ∈ D, st.2.1 (entP p).1 = some (entP p).2
  seen : ∀ y, (st.2.2 y).getD false = true → y = [] ∨ y ∈ D.map (·.1)
theorem invP0 : InvP [] raw0 := ⟨rfl, fun k x h => (by cases h), fun p h => (by cases h), fun y h => by
  unfold raw0 putF at h
  by_cases hy : y = []
  · exact .inl hy
  · simp [hy] at h⟩
theorem InvP.step {D : List ParL} {st : RawSt} (h : InvP D st) (p : ParL) (hn : ∀ c ∈ p.1, nmB c = true) (h0 : p.1 ≠ []) (hD : ∀ q ∈ D, (∀ c ∈ q.1, nmB c = true) ∧ q.1 ≠ []) (hx : p.1 ∉ D.map (·.1)) : InvP (D ++ [p]) (rawStep st (pieceP p)) := by
  obtain ⟨a1, a2, a3, a4, a5⟩ := wr_piece p hn h0
  have key : ∀ q ∈ D, (entP q).1 ≠ (entP p).1 := fun q hq e => by
    have b4 := (wr_piece q (hD q hq).1 (hD q hq).2).2.2.2.1
    rw [e, a4] at b4
    exact hx (by rw [b4]; exact List.mem_map.2 ⟨q, hq, rfl⟩)
  have hf : st.2.1 (entP p).1 = none := by
    cases e : st.2.1 (entP p).1 with
    | none => rfl
    | some x =>
      obtain ⟨q, hq, e1, _⟩ := h.from' _ _ e
      exact absurd e1.symm (key q hq)
  have hs : (st.2.2 p.1).getD false = false := by
    cases e : (st.2.2 p.1).getD false with
    | false => rfl
    | true =>
      rcases h.seen _ e with e1 | e1
      · exact absurd e1 h0
      · exact absurd e1 hx
  have e : rawStep st (pieceP p) = (st.1 ++ [p.1], putF st.2.1 (entP p).1 (entP p).2, putF st.2.2 p.1 true) := by
    unfold rawStep
    rw [a2, a1, a3, a4, hf, hs, if_neg (by simp [a5]), if_neg (by decide)]
  rw [e]
  refine ⟨by simp [h.names], fun k x hk => ?_, fun q hq => ?_, fun y hy => ?_⟩
  · show ∃ p' ∈ D ++ [p], _
    simp only [putF] at hk
    by_cases hkp : k = (entP p).1
    · rw [if_pos hkp] at hk; injection hk with hk
      exact ⟨p, by simp, hkp, hk.symm⟩
    · rw [if_neg hkp] at hk
      obtain ⟨q, hq, r⟩ := h.from' _ _ hk
      exact ⟨q, by simp [hq], r⟩
  · show putF st.2.1 (entP p).1 (entP p).2 (entP q).1 = _
    rcases List.mem_append.1 hq with hq | hq
    · unfold putF; rw [if_neg (key q hq)]; exact h.all q hq
    · rw [List.mem_singleton] at hq; subst hq; unfold putF; rw [if_pos rfl]
  · simp only [putF] at hy
    by_cases hyp : y = p.1
    · exact .inr (by simp [hyp])
    · rw [if_neg hyp] at hy
      rcases h.seen _ hy with e1 | e1
      · exact .inl e1
      · exact .inr (by rw [List.map_append]; exact List.mem_append_left _ e1)
theorem invP_all (l : List ParL) : ∀ (D : List ParL) (st : RawSt), InvP D st → (∀ q ∈ D, (∀ c ∈ q.1, nmB c = true) ∧ q.1 ≠ []) → okPs (D.map (·.1)) l = true → InvP (D ++ l) ((l.map pieceP).foldl rawStep st) ∧ (∀ q ∈ D ++ l, (∀ c ∈ q.1, nmB c = true) ∧ q.1 ≠ []) := by
  induction l with
  | nil => intro D st h hD _; rw [List.append_nil]; exact ⟨h, hD⟩
  | cons p r ih =>
    intro D st h hD ho
    unfold okPs at ho
    rw [Bool.and_eq_true, Bool.and_eq_true, Bool.and_eq_true] at ho
    obtain ⟨⟨⟨o1, o2⟩, _⟩, o4⟩ := ho
    unfold nameB at o1
    rw [Bool.and_eq_true] at o1
    have hn : ∀ c ∈ p.1, nmB c = true := List.all_eq_true.1 o1.1
    have h0 : p.1 ≠ [] := fun e => by rw [e] at o1; exact absurd o1.2 (by decide)
    have hx : p.1 ∉ D.map (·.1) := by simpa using o2
    have e : D ++ p :: r = (D ++ [p]) ++ r := by simp
    rw [e, List.map_cons, List.foldl_cons]
    refine ih (D ++ [p]) _ (h.step p hn h0 hD hx) (fun q hq => ?_) ?_
    · rcases List.mem_append.1 hq with hq | hq
      · exact hD q hq
      · rw [List.mem_singleton] at hq; subst hq; exact ⟨hn, h0⟩
    · rw [List.map_append]; exact o4
theorem contains_iff7 (l : List UInt8) (h : Lib.contains l [61, 63] = false) : ∀ i, (l.drop i).take 2 ≠ [61, 63] := by
  intro i e
  unfold Lib.contains at h
  have h0 : ¬ 0 ≤ Lib.index l [61, 63] := of_decide_eq_false h
  have hoc : Lib.occAt l [61, 63] i = true := by
    unfold Lib.occAt
    exact List.isPrefixOf_iff_prefix.2 (List.prefix_iff_eq_take.2 e.symm)
  rcases Lib.index_spec l [61, 63] with ⟨_, h2⟩ | ⟨j, h2, _⟩
  · by_cases hi : i ≤ l.length
    · rw [h2 i hi] at hoc; cases hoc
    · rw [List.drop_eq_nil_of_le (by omega)] at e; cases e
  · rw [h2] at h0; omega
theorem plain_parts7 {l : List UInt8} (h : plainL l = true) : (∀ c ∈ l, 32 ≤ c.toNat ∧ c.toNat ≤ 126) ∧ ∀ i, (l.drop i).take 2 ≠ [61, 63] := by
  unfold plainL at h
  rw [Bool.and_eq_true] at h
  refine ⟨fun c hc => ?_, contains_iff7 l (by simpa using h.2)⟩
  have := List.all_eq_true.1 h.1 c hc
  rw [Bool.and_eq_true, decide_eq_true_eq, decide_eq_true_eq] at this
  omega
theorem decode_encode7 (l : List UInt8) : decW false [] (encodeL l) = validL l := by
  unfold encodeL
  cases hp : plainL l with
  | true =>
    show decW false [] l = validL l
    rw [decW_plain false [] l (plain_parts7 hp).2, List.nil_append]
  | false =>
    show decW false [] (joinW (groups (validL l))) = validL l
    by_cases hv : validL l = []
    · rw [hv, groups_nil]
      show decW false [] [] = []
      rw [decW_nil, validL_nil]
    · exact (back_groups _ (allWhole_valid l) hv).1
theorem valN_back {D : List ParL} {st : RawSt} (h : InvP D st) (hD : ∀ q ∈ D, (∀ c ∈ q.1, nmB c = true) ∧ q.1 ≠ []) (p : ParL) (hp : p ∈ D) (hu : ∀ q ∈ D, q.1 = p.1 → q = p) : valN st.2.1 p.1 = some (validL p.2) := by
  have n42 : ∀ q ∈ D, (42 : UInt8) ∉ q.1 := fun q hq hm => (nmB_facts ((hD q hq).1 _ hm)).2.2.2.1 rfl
  -- no sections
  have hsec : ∀ t, st.2.1 (p.1 ++ 42 :: (48 :: t)) = none := fun t => by
    cases e : st.2.1 (p.1 ++ 42 :: (48 :: t)) with
    | none => rfl
    | some x =>
      obtain ⟨q, hq, e1, _⟩ := h.from' _ _ e
      unfold entP at e1
      by_cases he : encodeL q.2 = q.2
      · rw [if_pos he] at e1
        exact absurd (show (42 : UInt8) ∈ q.1 by rw [← e1]; simp) (n42 q hq)
      · rw [if_neg he] at e1
        have e2 := congrArg (afterC 42) e1
        rw [(cut_here 42 p.1 (48 :: t) (n42 p hp)).2, (cut_here 42 q.1 [] (n42 q hq)).2] at e2
        cases e2
  have hn0 : numP 0 = [48] := by rw [numP_eq]; decide +kernel
  have hN : nSec st.2.1 p.1 = 0 := by
    unfold nSec
    show firstNo st.2.1 p.1 (999999 + 1) 0 = 0
    unfold firstNo
    have : secL st.2.1 p.1 0 = none := by
      unfold secL
      rw [hn0, show p.1 ++ 42 :: [48] ++ [42] = p.1 ++ 42 :: (48 :: [42]) by simp, hsec, show p.1 ++ 42 :: [48] = p.1 ++ 42 :: (48 :: []) by simp, hsec]
    rw [this]
    rfl
  unfold valN
  rw [hN]
  unfold valL
  have ha := h.all p hp
  unfold entP at ha
  by_cases he : encodeL p.2 = p.2
  · rw [if_pos he] at ha
    have hstar : st.2.1 (p.1 ++ [42]) = none := by
      cases e : st.2.1 (p.1 ++ [42]) with
      | none => rfl
      | some x =>
        obtain ⟨q, hq, e1, _⟩ := h.from' _ _ e
        unfold entP at e1
        by_cases hq2 : encodeL q.2 = q.2
        · rw [if_pos hq2] at e1
          exact absurd (show (42 : UInt8) ∈ q.1 by rw [← e1]; simp) (n42 q hq)
        · rw [if_neg hq2] at e1
          have := hu q hq (List.append_cancel_right e1).symm
          rw [this] at hq2
          exact absurd he hq2
    have e1 : exL st.2.1 p.1 = none := by unfold exL; rw [hstar]; rfl
    rw [e1]
    simp only
    rw [if_neg (Nat.lt_irrefl 0)]
    unfold siL
    rw [ha]
    simp only [Option.isSome, Option.getD, if_true]
    have := decode_encode7 p.2
    rw [he] at this
    rw [this]
  · rw [if_neg he] at ha
    have hx : pExt (utfP ++ penc p.2) = some ([117, 116, 102, 45, 56], p.2) := by
      have n39 : (39 : UInt8) ∉ ([117, 116, 102, 45, 56] : List UInt8) := by decide
      have c1 := cut_here 39 [117, 116, 102, 45, 56] (39 :: penc p.2) n39
      have c2 := cut_here 39 [] (penc p.2) (by decide)
      have e : utfP ++ penc p.2 = [117, 116, 102, 45, 56] ++ 39 :: (39 :: penc p.2) := rfl
      rw [List.nil_append] at c2
      unfold pExt
      rw [e, c1.2, c1.1, c2.2, if_pos (hasC_true (List.mem_cons_self ..)), pdec_penc]
      rfl
    have e1 : exL st.2.1 p.1 = some (validL p.2) := by
      unfold exL
      rw [ha]
      simp only [Option.getD]
      rw [hx]
      simp only
      rw [show kindL [117, 116, 102, 45, 56] = 1 by decide +kernel]
      rfl
    rw [e1]
/-! ### whole -/
theorem okPs_nodup (l : List ParL) : ∀ D : List (List UInt8), okPs D l = true → ∀ p ∈ l, p.1 ∉ D := by
  induction l with
  | nil => intro D _ p hp; cases hp
  | cons a r ih =>
    intro D ho p hp
    unfold okPs at ho
    rw [Bool.and_eq_true, Bool.and_eq_true, Bool.and_eq_true] at ho
    obtain ⟨⟨⟨_, o2⟩, _⟩, o4⟩ := ho
    rcases List.mem_cons.1 hp with rfl | hp
    · simpa using o2
    · intro hm
      exact ih _ o4 p hp (List.mem_append_left _ hm)
theorem okPs_uniq (l : List ParL) : ∀ D : List (List UInt8), okPs D l = true → ∀ p ∈ l, ∀ q ∈ l, q.1 = p.1 → q = p := by
  induction l with
  | nil => intro D _ p hp; cases hp
  | cons a r ih =>
    intro D ho p hp q hq e
    have ho' := ho
    unfold okPs at ho
    rw [Bool.and_eq_true, Bool.and_eq_true, Bool.and_eq_true] at ho
    obtain ⟨_, o4⟩ := ho
    have hno := okPs_nodup r _ o4
    rcases List.mem_cons.1 hp with e1 | hp1
    · rcases List.mem_cons.1 hq with e2 | hq1
      · rw [e1, e2]
      · exact absurd (by rw [e, e1]; simp) (hno q hq1)
    · rcases List.mem_cons.1 hq with e2 | hq1
      · exact absurd (by rw [← e, e2]; simp) (hno p hp1)
      · exact ih _ o4 p hp1 q hq1 e
theorem outL_all (f : ValF) (l : List ParL) (h : ∀ p ∈ l, valN f p.1 = some (validL p.2)) : outL f (l.map (·.1)) = l.map fun p => (p.1, validL p.2) := by
  unfold outL
  induction l with
  | nil => rfl
  | cons p r ih =>
    rw [List.map_cons, List.filterMap_cons, h p (List.mem_cons_self ..), List.map_cons]
    exact congrArg (List.cons _) (ih (fun q hq => h q (List.mem_cons_of_mem _ hq)))
theorem mainB_facts {m : List UInt8} (h : mainB m = true) : (∀ c ∈ m, c ≠ 59 ∧ c ≠ 34) ∧ tsL m = m := by
  unfold mainB at h
  rw [Bool.and_eq_true, Bool.and_eq_true] at h
  obtain ⟨⟨_, h2⟩, h3⟩ := h
  refine ⟨fun c hc => ?_, by simpa using h3⟩
  have h4 : hasAny [59, 34] m = false := by simpa using h2
  have : ∀ x ∈ m, x ∉ ([59, 34] : List UInt8) := by
    intro x hx hm
    have : hasAny [59, 34] m = true := by
      unfold hasAny
      simp only [List.any_eq_true]
      exact ⟨x, hx, by simpa using hm⟩
    rw [this] at h4; cases h4
  have := this c hc
  simpa using this
/-- P7.4 -/
theorem pars_back {main : List UInt8} {l : List ParL} (hm : mainB main = true) (hl : okPs [] l = true) : parsP (main ++ parTs l) = (main, l.map fun p => (p.1, validL p.2)) := by
  obtain ⟨m1, m2⟩ := mainB_facts hm
  obtain ⟨i1, i2⟩ := invP_all l [] raw0 invP0 (fun q hq => (by cases hq)) hl
  rw [List.nil_append] at i1 i2
  have hpc : pcL [] (main ++ parTs l) = main :: l.map pieceP := by
    rw [pc_dark main _ [] m1, pc_parts l (fun p hp => (i2 p hp).1)]; rfl
  unfold parsP
  rw [hpc]
  simp only [List.headD_cons, List.tail_cons]
  rw [m2]
  have hr : rawsL (l.map pieceP) = (l.map pieceP).foldl rawStep raw0 := rfl
  rw [hr, i1.names, outL_all _ l (fun p hp => valN_back i1 i2 p hp (fun q hq => okPs_uniq l [] hl p hp q hq))]
end Go.Proofs.YtienjpelmbldpaaGreatDoor
