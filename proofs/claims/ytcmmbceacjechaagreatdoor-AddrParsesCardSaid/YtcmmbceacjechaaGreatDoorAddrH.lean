/- What package addr writes is read, by lists of bytes. No statement is proved here. -/
import Derived.Test.YtcmmbceacjechaaGreatDoorAddrF
import Derived.Test.YtcmmbceacjechaaGreatDoorWordC
namespace Go.Proofs.YtcmmbceacjechaaGreatDoor
set_option linter.unusedVariables false
set_option linter.unusedSimpArgs false
/-! ### trimmed -/
def ws4 (c : UInt8) : Bool := ([32, 9, 10, 13] : List UInt8).contains c
def rt4 (l : List UInt8) : List UInt8 := (l.reverse.dropWhile ws4).reverse
theorem tr4_eq (l : List UInt8) : tr4 l = (rt4 l).dropWhile ws4 := rfl
theorem rt4_snoc (l : List UInt8) (c : UInt8) (h : ws4 c = true) : rt4 (l ++ [c]) = rt4 l := by
  unfold rt4
  rw [List.reverse_append, List.reverse_singleton, List.singleton_append, List.dropWhile_cons_of_pos h]
theorem rt4_cons (l : List UInt8) (c : UInt8) : rt4 (c :: l) = if rt4 l = [] then (if ws4 c then [] else [c]) else c :: rt4 l := by
  unfold rt4
  rw [List.reverse_cons, List.dropWhile_append]
  cases h : l.reverse.dropWhile ws4 with
  | nil => simp only [List.isEmpty_nil, List.reverse_nil, if_true]; cases hc : ws4 c <;> simp [hc]
  | cons a r => simp
theorem tr4_blank (l : List UInt8) (c : UInt8) (h : ws4 c = true) : tr4 (c :: l) = tr4 l := by
  rw [tr4_eq, tr4_eq, rt4_cons, if_pos h]
  by_cases e : rt4 l = []
  · rw [if_pos e, e]
  · rw [if_neg e, List.dropWhile_cons_of_pos h]
theorem tr4_snoc (l : List UInt8) (c : UInt8) (h : ws4 c = true) : tr4 (l ++ [c]) = tr4 l := by rw [tr4_eq, tr4_eq, rt4_snoc l c h]
theorem tr4_ends (x : List UInt8) (a b : UInt8) (ha : ws4 a = false) (hb : ws4 b = false) : tr4 (a :: (x ++ [b])) = a :: (x ++ [b]) := by
  have e : rt4 (a :: (x ++ [b])) = a :: (x ++ [b]) := by
    unfold rt4
    rw [List.reverse_cons, List.reverse_append, List.reverse_singleton, List.singleton_append, List.cons_append, List.dropWhile_cons_of_neg (by rw [hb]; decide)]
    simp
  rw [tr4_eq, e, List.dropWhile_cons_of_neg (by rw [ha]; decide)]
theorem tr4_dark (x : List UInt8) (h : ∀ c ∈ x, ws4 c = false) : tr4 x = x := by
  cases x with
  | nil => rfl
  | cons a r =>
    rcases List.eq_nil_or_concat r with rfl | ⟨y, b, rfl⟩
    · have := h a (List.mem_cons_self ..)
      rw [tr4_eq]
      unfold rt4
      simp [this]
    · rw [List.concat_eq_append]
      exact tr4_ends y a b (h a (List.mem_cons_self ..)) (h b (by simp))
/-! ### a blank ahead -/
theorem boxF_pre (p : List UInt8) (l : List UInt8) : ∀ m op cur, ∃ x xs, boxF m op cur l = x :: xs ∧ boxF m op (p ++ cur) l = (p ++ x) :: xs := by
  induction l with
  | nil => intro m op cur; exact ⟨cur, [], rfl, rfl⟩
  | cons c r ih =>
    intro m op cur
    unfold boxF
    have e : p ++ cur ++ [c] = p ++ (cur ++ [c]) := List.append_assoc ..
    rw [e]
    split
    · exact ih _ _ _
    · split
      · exact ih _ _ _
      · split
        · exact ih _ _ _
        · split
          · split
            · exact ih _ _ _
            · exact ⟨cur, _, rfl, rfl⟩
          · exact ih _ _ _
theorem angF_pre (p : List UInt8) (l : List UInt8) : ∀ m cur, angF m (p ++ cur) l = (angF m cur l).map (fun x => (p ++ x.1, x.2)) := by
  induction l with
  | nil => intro m cur; rfl
  | cons c r ih =>
    intro m cur
    unfold angF
    have e : p ++ cur ++ [c] = p ++ (cur ++ [c]) := List.append_assoc ..
    rw [e]
    split
    · rfl
    · exact ih _ _
theorem rmF_pre (p : List UInt8) (l : List UInt8) : ∀ m (st : RmSt), rmF m (st.1, p ++ st.2.1, st.2.2) l = ((rmF m st l).1, p ++ (rmF m st l).2.1, (rmF m st l).2.2) := by
  induction l with
  | nil => intro m st; rfl
  | cons c r ih =>
    intro m st
    unfold rmF
    rw [← ih]
    congr 1
    unfold rmStep
    simp only []
    split
    · rfl
    · split
      · simp
      · split <;> rfl
theorem nm_blank (c : UInt8) (h : ws4 c = true) (x : List UInt8) : (nmF (c :: x)).1 = (nmF x).1 ∧ tr4 (nmF (c :: x)).2 = tr4 (nmF x).2 := by
  have hc : takeB m0 c = (0, m0) := take_calm (by rintro rfl; exact absurd h (by decide)) (by rintro rfl; exact absurd h (by decide))
  have e1 : angF m0 [] (c :: x) = (angF m0 [] x).map (fun y => ([c] ++ y.1, y.2)) := by
    rw [angF, hc, if_neg (by rintro ⟨_, rfl⟩; exact absurd h (by decide)), ← angF_pre]; rfl
  have e2 : rmF m0 (0, [], []) (c :: x) = ((rmF m0 (0, [], []) x).1, [c] ++ (rmF m0 (0, [], []) x).2.1, (rmF m0 (0, [], []) x).2.2) := by
    rw [rmF, hc, ← rmF_pre]
    congr 1
  unfold nmF
  rw [e1, e2]
  cases angF m0 [] x with
  | none => exact ⟨rfl, tr4_blank _ c h⟩
  | some y => simp [tr4_blank _ c h]
theorem read_blank (c : UInt8) (h : ws4 c = true) (x : List UInt8) : readF (c :: x) = readF x := by
  obtain ⟨h1, h2⟩ := nm_blank c h x
  unfold readF
  rw [h1, h2]
theorem parse_blank (t : List UInt8) : (boxF m0 false [] (32 :: t)).map readF = (boxF m0 false [] t).map readF := by
  have e : boxF m0 false [] (32 :: t) = boxF m0 false ([32] ++ []) t := by
    rw [boxF, take_calm (by decide) (by decide), if_neg (by decide), if_neg (by decide), if_neg (by decide), if_neg (by decide)]; rfl
  obtain ⟨x, xs, h1, h2⟩ := boxF_pre [32] t m0 false []
  rw [e, h2, h1]
  simp only [List.map_cons, List.singleton_append]
  rw [read_blank 32 (by decide) x]
/-! ### what is encoded -/
theorem contains_iff8 (l : List UInt8) (h : Lib.contains l [61, 63] = false) : ∀ i, (l.drop i).take 2 ≠ [61, 63] := by
  intro i e
  unfold Lib.contains at h
  have h0 : ¬ 0 ≤ Lib.index l [61, 63] := of_decide_eq_false h
  have hoc : Lib.occAt l [61, 63] i = true := by
    unfold Lib.occAt
    exact List.isPrefixOf_iff_prefix.2 (List.prefix_iff_eq_take.2 e.symm)
  rcases Lib.index_spec l [61, 63] with ⟨_, h2⟩ | ⟨j, h2, _⟩
  · by_cases hi : i ≤ l.length
    · rw [h2 i hi] at hoc; cases hoc
    · rw [List.drop_eq_nil_of_le (by omega)] at e; cases e
  · rw [h2] at h0; omega
theorem plain_parts8 {l : List UInt8} (h : plainL l = true) : (∀ c ∈ l, 32 ≤ c.toNat ∧ c.toNat ≤ 126) ∧ ∀ i, (l.drop i).take 2 ≠ [61, 63] := by
  unfold plainL at h
  rw [Bool.and_eq_true] at h
  refine ⟨fun c hc => ?_, contains_iff8 l (by simpa using h.2)⟩
  have := List.all_eq_true.1 h.1 c hc
  rw [Bool.and_eq_true, decide_eq_true_eq, decide_eq_true_eq] at this
  omega
theorem decode_encode8 (l : List UInt8) : decW false [] (encodeL l) = validL l := by
  unfold encodeL
  cases hp : plainL l with
  | true =>
    show decW false [] l = validL l
    rw [decW_plain false [] l (plain_parts8 hp).2, List.nil_append]
  | false =>
    show decW false [] (joinW (groups (validL l))) = validL l
    by_cases hv : validL l = []
    · rw [hv, groups_nil]
      show decW false [] [] = []
      rw [decW_nil, validL_nil]
    · exact (back_groups _ (allWhole_valid l) hv).1
theorem encFrom_all (P : UInt8 → Prop) (hl : ∀ n, n < 64 → P (letter n)) (h61 : P 61) (l : List UInt8) : ∀ h w, (h = 0 ∨ (h = 2 ∧ w < 4) ∨ (h = 4 ∧ w < 16)) → ∀ c ∈ encFrom h w l, P c := by
  induction l with
  | nil =>
    intro h w hh c hc
    rcases hh with rfl | ⟨rfl, hw⟩ | ⟨rfl, hw⟩
    · simp [encFrom] at hc
    · simp [encFrom] at hc
      rcases hc with rfl | rfl
      · exact hl _ (by omega)
      · exact h61
    · simp [encFrom] at hc
      rcases hc with rfl | rfl
      · exact hl _ (by omega)
      · exact h61
  | cons a r ih =>
    intro h w hh c hc
    have ha := a.toNat_lt
    rcases hh with rfl | ⟨rfl, hw⟩ | ⟨rfl, hw⟩
    · rw [encFrom, if_pos rfl] at hc
      rcases List.mem_cons.1 hc with rfl | hc
      · exact hl _ (by omega)
      · exact ih 2 _ (.inr (.inl ⟨rfl, by omega⟩)) c hc
    · rw [encFrom, if_neg (by omega), if_pos rfl] at hc
      rcases List.mem_cons.1 hc with rfl | hc
      · exact hl _ (by omega)
      · exact ih 4 _ (.inr (.inr ⟨rfl, by omega⟩)) c hc
    · rw [encFrom, if_neg (by omega), if_neg (by omega)] at hc
      rcases List.mem_cons.1 hc with rfl | hc
      · exact hl _ (by omega)
      · rcases List.mem_cons.1 hc with rfl | hc
        · exact hl _ (by omega)
        · exact ih 0 0 (.inl rfl) c hc
def signW (c : UInt8) : Bool := !([34, 40, 60, 62, 44, 59] : List UInt8).contains c
theorem joinW_all (P : UInt8 → Prop) (hl : ∀ n, n < 64 → P (letter n)) (hc : ∀ c ∈ ([61, 63, 117, 116, 102, 45, 56, 63, 66, 32] : List UInt8), P c) (L : List (List UInt8)) : ∀ c ∈ joinW L, P c := by
  have hw : ∀ g, ∀ c ∈ wordL g, P c := by
    intro g c h
    rw [wordL_eq] at h
    simp only [List.mem_append] at h
    rcases h with (h | h) | h
    · exact hc c ((by decide : ∀ c ∈ ([61, 63, 117, 116, 102, 45, 56, 63, 66, 63] : List UInt8), c ∈ ([61, 63, 117, 116, 102, 45, 56, 63, 66, 32] : List UInt8)) c h)
    · exact encFrom_all P hl (hc 61 (by simp)) g 0 0 (.inl rfl) c h
    · exact hc c ((by decide : ∀ c ∈ ([63, 61] : List UInt8), c ∈ ([61, 63, 117, 116, 102, 45, 56, 63, 66, 32] : List UInt8)) c h)
  induction L with
  | nil => intro c hc; cases hc
  | cons g r ih =>
    intro c h
    match r, ih, h with
    | [], _, h => exact hw g c h
    | q :: r, ih, h =>
      rcases List.mem_append.1 (show c ∈ wordL g ++ 32 :: joinW (q :: r) from h) with h | h
      · exact hw g c h
      · rcases List.mem_cons.1 h with rfl | h
        · exact hc 32 (by simp)
        · exact ih c h
theorem letter_signW (n : Nat) (h : n < 64) : signW (letter n) = true := by
  have : ∀ n, n < 64 → signW (letter n) = true := by decide +kernel
  exact this n h
theorem joinW_signW (L : List (List UInt8)) : ∀ c ∈ joinW L, signW c = true := joinW_all (fun c => signW c = true) letter_signW (by decide) L
theorem signW_calm {c : UInt8} (h : signW c = true) (op : Bool) : Calm op c := by
  unfold signW at h
  refine ⟨?_, ?_, ?_, ?_, fun _ => ⟨?_, ?_⟩⟩ <;> (rintro rfl; exact absurd h (by decide))
theorem joinW_ends (L : List (List UInt8)) (h : L ≠ []) : ∃ x, joinW L = 61 :: (x ++ [61]) := by
  induction L with
  | nil => exact absurd rfl h
  | cons g r ih =>
    match r, ih with
    | [], _ => exact ⟨[63, 117, 116, 102, 45, 56, 63, 66, 63] ++ encB g ++ [63], by show wordL g = _; rw [wordL_eq]; simp⟩
    | q :: r, ih =>
      obtain ⟨x, hx⟩ := ih (by simp)
      refine ⟨[63, 117, 116, 102, 45, 56, 63, 66, 63] ++ encB g ++ [63, 61] ++ 32 :: 61 :: x, ?_⟩
      show wordL g ++ 32 :: joinW (q :: r) = _
      rw [hx, wordL_eq]; simp
theorem enc_other {a : List UInt8} (h : encodeL a ≠ a) : ∃ x, encodeL a = 61 :: (x ++ [61]) ∧ ∀ c ∈ encodeL a, signW c = true := by
  unfold encodeL at h ⊢
  cases hp : plainL a with
  | true => rw [hp] at h; exact absurd rfl h
  | false =>
    show ∃ x, joinW (groups (validL a)) = _ ∧ _
    have ha : a ≠ [] := by rintro rfl; revert hp; decide
    have hv : validL a ≠ [] := by
      rw [validL_cons ha]
      have := (vStep_pos' a ha).2.2.1
      intro e
      rw [List.append_eq_nil_iff] at e
      rw [e.1] at this
      simp at this
    have hg := group_pos (room := 30) (by omega) (allWhole_valid a) hv
    obtain ⟨x, hx⟩ := joinW_ends (groups (validL a)) (by rw [groups_go (by omega)]; simp)
    exact ⟨x, hx, joinW_signW _⟩
/-! ### a mail address that may be -/
theorem good_parts {b : List UInt8} (h : goodL b = true) : b ≠ [] ∧ ∀ c ∈ b, Calm true c ∧ Calm false c ∧ ws4 c = false := by
  unfold goodL at h
  split at h
  · rename_i h1
    rw [Bool.and_eq_true] at h1
    refine ⟨?_, fun c hc => ?_⟩
    · rintro rfl; revert h; decide
    · have w1 := List.all_eq_true.1 h1.1 c hc
      have n1 : notOne.contains c = false := by
        cases hn : notOne.contains c with
        | false => rfl
        | true =>
          have : hasAny notOne b = true := List.any_eq_true.2 ⟨c, hc, hn⟩
          rw [this] at h1
          exact absurd h1.2 (by decide)
      have n2 : ∀ x ∈ notOne, c ≠ x := by
        rintro x hx rfl
        rw [List.contains_iff_mem.2 hx] at n1; cases n1
      have n3 : ∀ op, Calm op c := fun op => ⟨n2 34 (by decide), n2 40 (by decide), n2 60 (by decide), n2 62 (by decide), fun _ => ⟨n2 44 (by decide), n2 59 (by decide)⟩⟩
      refine ⟨n3 true, n3 false, ?_⟩
      rw [Bool.and_eq_true, decide_eq_true_eq, decide_eq_true_eq] at w1
      have : ∀ c : UInt8, 33 ≤ c.toNat → ws4 c = false := u8_all (p := fun c => 33 ≤ c.toNat → ws4 c = false) (by decide +kernel)
      exact this c (by omega)
  · cases h
/-! ### a box that is written -/
/-- the text of a name, as it is written -/
def nameW (a : List UInt8) : List UInt8 := if encodeL a = a then quoteL (encodeL a) else encodeL a
theorem nameW_box (a : List UInt8) (op : Bool) (cur r : List UInt8) : boxF m0 op cur (nameW a ++ r) = boxF m0 op (cur ++ nameW a) r := by
  unfold nameW
  by_cases e : encodeL a = a
  · rw [if_pos e]; exact boxF_quote op _ cur r
  · rw [if_neg e]
    obtain ⟨x, _, h2⟩ := enc_other e
    exact boxF_calm op _ (fun c hc => signW_calm (h2 c hc) op) cur r
theorem nameW_ang (a : List UInt8) (cur r : List UInt8) : angF m0 cur (nameW a ++ r) = angF m0 (cur ++ nameW a) r := by
  unfold nameW
  by_cases e : encodeL a = a
  · rw [if_pos e]; exact angF_quote _ cur r
  · rw [if_neg e]
    obtain ⟨x, _, h2⟩ := enc_other e
    exact angF_calm _ (fun c hc => by have := signW_calm (h2 c hc) true; exact ⟨this.1, this.2.1, this.2.2.1⟩) cur r
theorem nameW_trim (a : List UInt8) : tr4 (nameW a ++ [32]) = nameW a := by
  rw [tr4_snoc _ 32 (by decide)]
  unfold nameW
  by_cases e : encodeL a = a
  · rw [if_pos e]
    exact tr4_ends (escL (encodeL a)) 34 34 (by decide) (by decide)
  · rw [if_neg e]
    obtain ⟨x, h1, _⟩ := enc_other e
    rw [h1]
    exact tr4_ends x 61 61 (by decide) (by decide)
/-- the name that is read of it -/
theorem nameW_read (a : List UInt8) : decW false [] (if 0 < (readQ (nameW a)).2 then (readQ (nameW a)).1 else nameW a) = validL a := by
  unfold nameW
  by_cases e : encodeL a = a
  · rw [if_pos e]
    have := readQ_quote (encodeL a) []
    rw [List.append_nil] at this
    rw [this]
    simp only []
    rw [if_pos (by simp [quoteL]), decode_encode8]
  · rw [if_neg e]
    obtain ⟨x, h1, _⟩ := enc_other e
    have : (readQ (encodeL a)).2 = 0 := by rw [h1]; rfl
    rw [this, if_neg (by omega), decode_encode8]
theorem wBox_box (b : BoxL) (h : okBox b = true) (cur r : List UInt8) : boxF m0 false cur (wBox b ++ r) = boxF m0 false (cur ++ wBox b) r := by
  obtain ⟨a, d⟩ := b
  unfold okBox at h
  rw [Bool.and_eq_true] at h
  obtain ⟨_, hg⟩ := good_parts h.1
  show boxF m0 false cur (writeBoxL a d ++ r) = boxF m0 false (cur ++ writeBoxL a d) r
  unfold writeBoxL
  by_cases ha : a = []
  · rw [if_pos ha]
    exact boxF_calm false d (fun c hc => (hg c hc).2.1) cur r
  · rw [if_neg ha]
    show boxF m0 false cur (nameW a ++ [32, 60] ++ d ++ [62] ++ r) = boxF m0 false (cur ++ (nameW a ++ [32, 60] ++ d ++ [62])) r
    have e1 : nameW a ++ [32, 60] ++ d ++ [62] ++ r = nameW a ++ ([32] ++ (60 :: (d ++ 62 :: r))) := by simp
    rw [e1, nameW_box, boxF_calm false [32] (by intro c hc; simp at hc; subst hc; unfold Calm; decide), boxF, take_calm (by decide) (by decide), if_neg (by decide), if_pos rfl, boxF_calm true d (fun c hc => (hg c hc).1), boxF, take_calm (by decide) (by decide), if_neg (by decide), if_neg (by decide), if_pos rfl]
    congr 1
    simp
theorem wBox_read (b : BoxL) (h : okBox b = true) : readF (wBox b) = (validL b.1, b.2) := by
  obtain ⟨a, d⟩ := b
  unfold okBox at h
  rw [Bool.and_eq_true] at h
  obtain ⟨_, hg⟩ := good_parts h.1
  have hd : tr4 d = d := tr4_dark d (fun c hc => (hg c hc).2.2)
  show readF (writeBoxL a d) = (validL a, d)
  have hgd : goodL d = true := h.1
  unfold writeBoxL
  by_cases ha : a = []
  · rw [if_pos ha, ha]
    have e1 : angF m0 [] d = none := by
      have := angF_calm d (fun c hc => ⟨(hg c hc).1.1, (hg c hc).1.2.1, (hg c hc).1.2.2.1⟩) [] []
      rw [List.append_nil] at this
      rw [this]; rfl
    have e2 := rmF_calm d (fun c hc => ⟨(hg c hc).1.1, (hg c hc).1.2.1⟩) (0, [], [])
    unfold readF nmF
    rw [e1, e2]
    simp only [List.nil_append, hd, hgd, if_true]
    show (decW false [] (tr4 (unpairL [])), d) = _
    rw [show tr4 (unpairL []) = [] from rfl, decW_nil]
  · rw [if_neg ha]
    show readF (nameW a ++ [32, 60] ++ d ++ [62]) = _
    have e1 : angF m0 [] (nameW a ++ [32, 60] ++ d ++ [62]) = some (nameW a ++ [32], d) := by
      have e : nameW a ++ [32, 60] ++ d ++ [62] = nameW a ++ ([32] ++ (60 :: (d ++ [62]))) := by simp
      rw [e, nameW_ang, angF_calm [32] (by intro c hc; simp at hc; subst hc; decide), angF, take_calm (by decide) (by decide), if_pos ⟨rfl, rfl⟩, inF_calm d (fun c hc => ⟨(hg c hc).1.1, (hg c hc).1.2.1, (hg c hc).1.2.2.2.1⟩)]
      rfl
    unfold readF nmF
    rw [e1]
    simp only [nameW_trim, hd, hgd, if_true]
    rw [nameW_read]
/-! ### a list that is written -/
/-- the texts of a list, where cur is ahead of the first one -/
def textsW (cur : List UInt8) : List BoxL → List (List UInt8)
  | [] => [cur]
  | [b] => [cur ++ wBox b]
  | b :: r => (cur ++ wBox b) :: textsW [32] r
theorem join_cons2 (b q : BoxL) (r : List BoxL) : Lib.join ((b :: q :: r).map wBox) [44, 32] = wBox b ++ 44 :: 32 :: Lib.join ((q :: r).map wBox) [44, 32] := by
  rw [List.map_cons, Lib.join_cons, List.map_cons, Lib.join_cons]
  show wBox b ++ ([44, 32] ++ wBox q ++ Lib.joinTail [44, 32] (r.map wBox)) = _
  simp
theorem boxF_join (l : List BoxL) : ∀ cur r, (∀ b ∈ l, okBox b = true) →
    ∃ outs last, textsW cur l = outs ++ [last] ∧ boxF m0 false cur (Lib.join (l.map wBox) [44, 32] ++ r) = outs ++ boxF m0 false last r := by
  induction l with
  | nil => intro cur r _; exact ⟨[], cur, rfl, rfl⟩
  | cons b t ih =>
    intro cur r h
    have hb := h b (List.mem_cons_self ..)
    match t, ih, h with
    | [], _, h =>
      refine ⟨[], cur ++ wBox b, rfl, ?_⟩
      rw [List.map_cons, List.map_nil, Lib.join_one, wBox_box b hb]; rfl
    | q :: t, ih, h =>
      obtain ⟨outs, last, h1, h2⟩ := ih [32] r (fun x hx => h x (List.mem_cons_of_mem _ hx))
      refine ⟨(cur ++ wBox b) :: outs, last, ?_, ?_⟩
      · show (cur ++ wBox b) :: textsW [32] (q :: t) = _
        rw [h1]; rfl
      · rw [join_cons2, List.append_assoc, wBox_box b hb, List.cons_append, List.cons_append, boxF, take_calm (by decide) (by decide), if_neg (by decide), if_neg (by decide), if_neg (by decide), if_pos (.inl rfl), if_neg (by decide), boxF, take_calm (by decide) (by decide), if_neg (by decide), if_neg (by decide), if_neg (by decide), if_neg (by decide)]
        rw [List.nil_append, h2]; rfl
theorem boxF_all (l : List BoxL) (h : ∀ b ∈ l, okBox b = true) : boxF m0 false [] (Lib.join (l.map wBox) [44, 32]) = textsW [] l := by
  obtain ⟨outs, last, h1, h2⟩ := boxF_join l [] [] h
  rw [List.append_nil] at h2
  rw [h2, h1]; rfl
theorem boxF_more (l : List BoxL) (h : ∀ b ∈ l, okBox b = true) (c : UInt8) (hc : c = 44 ∨ c = 59) (r : List UInt8) :
    boxF m0 false [] (Lib.join (l.map wBox) [44, 32] ++ c :: r) = boxF m0 false [] (Lib.join (l.map wBox) [44, 32]) ++ boxF m0 false [] r := by
  obtain ⟨outs, last, h1, h2⟩ := boxF_join l [] (c :: r) h
  rw [h2, boxF_all l h, h1]
  have e : boxF m0 false last (c :: r) = last :: boxF m0 false [] r := by
    rcases hc with rfl | rfl <;> rw [boxF, take_calm (by decide) (by decide), if_neg (by decide), if_neg (by decide), if_neg (by decide), if_pos (by decide), if_neg (by decide)]
  rw [e]; simp
/-- lists that are written, one behind the other -/
theorem parse_joined (l : List BoxL) (h : ∀ b ∈ l, okBox b = true) (t : List UInt8) :
    parseF (Lib.join (l.map wBox) [44, 32] ++ 44 :: 32 :: t) = parseF (Lib.join (l.map wBox) [44, 32]) ++ parseF t ∧
    parseF (Lib.join (l.map wBox) [44, 32] ++ 59 :: t) = parseF (Lib.join (l.map wBox) [44, 32]) ++ parseF t := by
  unfold parseF
  rw [boxF_more l h 44 (.inl rfl), boxF_more l h 59 (.inr rfl), List.map_append, List.map_append, parse_blank, List.filter_append]
  exact ⟨rfl, rfl⟩
theorem texts_read (l : List BoxL) (h : ∀ b ∈ l, okBox b = true) : ∀ cur, (cur = [] ∨ cur = [32]) → l ≠ [] → (textsW cur l).map readF = l.map fun b => (validL b.1, b.2) := by
  have one : ∀ cur, (cur = [] ∨ cur = [32]) → ∀ b, okBox b = true → readF (cur ++ wBox b) = (validL b.1, b.2) := by
    rintro cur (rfl | rfl) b hb
    · exact wBox_read b hb
    · rw [List.singleton_append, read_blank 32 (by decide)]; exact wBox_read b hb
  induction l with
  | nil => intro cur _ hn; exact absurd rfl hn
  | cons b t ih =>
    intro cur hcur _
    match t, ih, h with
    | [], _, h =>
      show [readF (cur ++ wBox b)] = _
      rw [one cur hcur b (h b (List.mem_cons_self ..))]; rfl
    | q :: t, ih, h =>
      show readF (cur ++ wBox b) :: (textsW [32] (q :: t)).map readF = _
      rw [one cur hcur b (h b (List.mem_cons_self ..)), ih (fun x hx => h x (List.mem_cons_of_mem _ hx)) [32] (.inr rfl) (by simp)]; rfl
theorem parse_back (l : List BoxL) (h : ∀ b ∈ l, okBox b = true) : parseF (Lib.join (l.map wBox) [44, 32]) = l.map fun b => (validL b.1, b.2) := by
  unfold parseF
  rw [boxF_all l h]
  by_cases hl : l = []
  · subst hl; decide +kernel
  · rw [texts_read l h [] (.inl rfl) hl]
    rw [List.filter_eq_self]
    intro x hx
    obtain ⟨b, hb, rfl⟩ := List.mem_map.1 hx
    have := h b hb
    unfold okBox at this
    rw [Bool.and_eq_true] at this
    have := (good_parts this.1).1
    unfold tells
    cases hb2 : b.2 with
    | nil => exact absurd hb2 this
    | cons x r => simp
end Go.Proofs.YtcmmbceacjechaaGreatDoor
