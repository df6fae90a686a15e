/- PURE: what the laws of layer 13 ask of tokens: few, clean; that clean ones are read as they were written. No statement is proved here. Own work of the verifier. -/
import Derived.Test.YtmojckphfbcibaaGreatDoorTokIn
import Derived.Test.YtmojckphfbcibaaGreatDoorHtokR
import Derived.Test.YtmojckphfbcibaaGreatDoorEntP
namespace Go.Proofs.YtmojckphfbcibaaGreatDoor
set_option linter.unusedVariables false
set_option linter.unusedSimpArgs false
def kindN (z : Int) : Nat := if z = 1 then 1 else if z = 2 then 2 else if z = 3 then 3 else 0
def toL (p : TokG) : TokL := ⟨kindN p.1, p.2.name, p.2.attrs, p.2.text⟩
/-- what htok.Write gives for one token, for all -/
def tokG (p : TokG) : List UInt8 := tokW (escQ false) (escQ true) (toL p)
def writeG (l : List TokG) : List UInt8 := l.flatMap tokG
theorem writeG_L (l : List TokG) : writeG l = writeTs (escQ false) (escQ true) (l.map toL) := by
  unfold writeG writeTs
  rw [List.flatMap_map]; rfl
theorem toL_kind {p : TokG} {n : Nat} (h : kindN p.1 = n) : (toL p).kind = n := h
theorem tokG_chars {p : TokG} (h : p.1 = 1) : tokG p = escQ false p.2.text := by
  have e : (toL p).kind = 1 := toL_kind (by rw [h]; rfl)
  unfold tokG tokW
  rw [if_pos e]; rfl
theorem tokG_start {p : TokG} (h : p.1 = 2) : tokG p = 60 :: (p.2.name ++ (attrsW (escQ true) p.2.attrs ++ [62])) := by
  have e : (toL p).kind = 2 := toL_kind (by rw [h]; rfl)
  unfold tokG tokW
  rw [if_neg (by rw [e]; decide), if_pos e]; rfl
theorem tokG_end {p : TokG} (h : p.1 = 3) : tokG p = 60 :: 47 :: (p.2.name ++ [62]) := by
  have e : (toL p).kind = 3 := toL_kind (by rw [h]; rfl)
  unfold tokG tokW
  rw [if_neg (by rw [e]; decide), if_neg (by rw [e]; decide), if_pos e]; rfl
theorem tokG_none {p : TokG} (h1 : p.1 ≠ 1) (h2 : p.1 ≠ 2) (h3 : p.1 ≠ 3) : tokG p = [] := by
  have e : (toL p).kind = 0 := toL_kind (by unfold kindN; rw [if_neg h1, if_neg h2, if_neg h3])
  unfold tokG tokW
  rw [if_neg (by rw [e]; decide), if_neg (by rw [e]; decide), if_neg (by rw [e]; decide)]
/-- few -/
def fitA (a : AtL) : Bool := decide (a.1.length ≤ 300) && decide (a.2.length ≤ 300)
def fitT (t : TokL) : Bool := decide (t.name.length ≤ 300) && (decide (t.text.length ≤ 300) && (decide (t.attrs.length ≤ 40) && t.attrs.all fitA))
def fewG (l : List TokG) : Bool := decide (l.length ≤ 60) && l.all (fun p => fitT p.2)
theorem fitT_len {t : TokL} (h : fitT t = true) : t.name.length ≤ 300 ∧ t.text.length ≤ 300 ∧ t.attrs.length ≤ 40 ∧ ∀ a ∈ t.attrs, a.1.length ≤ 300 ∧ a.2.length ≤ 300 := by
  unfold fitT at h
  simp only [Bool.and_eq_true, decide_eq_true_eq, List.all_eq_true, fitA] at h
  exact ⟨h.1, h.2.1, h.2.2.1, h.2.2.2⟩
theorem fewG_len {l : List TokG} (h : fewG l = true) : l.length ≤ 60 ∧ ∀ p ∈ l, fitT p.2 = true := by
  unfold fewG at h
  simp only [Bool.and_eq_true, decide_eq_true_eq, List.all_eq_true] at h
  exact h
theorem attrsW_len {A : List AtL} (h : ∀ a ∈ A, a.1.length ≤ 300 ∧ a.2.length ≤ 300) : (attrsW (escQ true) A).length ≤ 2104 * A.length := by
  unfold attrsW
  induction A with
  | nil => simp
  | cons a r ih =>
    have h1 := h a (List.mem_cons_self ..)
    have h2 := ih (fun x hx => h x (List.mem_cons_of_mem _ hx))
    have h3 := esc_len true a.2
    rw [List.flatMap_cons, List.length_append, List.length_cons]
    have e : (attrW (escQ true) a).length = a.1.length + (escQ true a.2).length + 4 := by
      unfold attrW; simp only [List.length_cons, List.length_append, List.length_nil]; omega
    rw [e]; omega
theorem tokG_len {p : TokG} (h : fitT p.2 = true) : (tokG p).length ≤ 84500 := by
  obtain ⟨h1, h2, h3, h4⟩ := fitT_len h
  by_cases k1 : p.1 = 1
  · rw [tokG_chars k1]; have := esc_len false p.2.text; omega
  by_cases k2 : p.1 = 2
  · rw [tokG_start k2]
    have := attrsW_len h4
    simp only [List.length_cons, List.length_append, List.length_nil]; omega
  by_cases k3 : p.1 = 3
  · rw [tokG_end k3]; simp only [List.length_cons, List.length_append, List.length_nil]; omega
  rw [tokG_none k1 k2 k3]; exact Nat.zero_le _
theorem writeG_len {l : List TokG} (h : ∀ p ∈ l, fitT p.2 = true) : (writeG l).length ≤ 84500 * l.length := by
  unfold writeG
  induction l with
  | nil => simp
  | cons p r ih =>
    have h1 := tokG_len (h p (List.mem_cons_self ..))
    have h2 := ih (fun x hx => h x (List.mem_cons_of_mem _ hx))
    rw [List.flatMap_cons, List.length_append, List.length_cons]; omega
instance decTK2 : DecidableEq (List UInt8 × List AtL) := inferInstance
instance decTK1 : DecidableEq (List UInt8 × List UInt8 × List AtL) := inferInstance
instance decTK0 : DecidableEq (Int × List UInt8 × List UInt8 × List AtL) := inferInstance
/-- the same, but for what a kind is called -/
def tokKey (p : TokG) : Int × List UInt8 × List UInt8 × List AtL := (p.1, p.2.name, p.2.text, p.2.attrs)
/-- a name of a letter, and small letters and digits -/
def smallB (c : UInt8) : Bool := decide (97 ≤ c.toNat) && decide (c.toNat ≤ 122)
def plainB (l : List UInt8) : Bool := match l with
  | [] => false
  | c :: r => smallB c && r.all fun x => smallB x || digitB x
theorem small_low (c : UInt8) (h : (smallB c || digitB c) = true) : (letterB c || digitB c) = true ∧ lowC c = c :=
  u8_all (p := fun c => (smallB c || digitB c) = true → ((letterB c || digitB c) = true ∧ lowC c = c)) (by decide +kernel) c h
theorem small_letter (c : UInt8) (h : smallB c = true) : letterB c = true :=
  u8_all (p := fun c => smallB c = true → letterB c = true) (by decide +kernel) c h
theorem low_of {l : List UInt8} (h : ∀ x ∈ l, lowC x = x) : lowL l = l := by
  unfold lowL
  exact (List.map_congr_left h).trans (List.map_id _)
theorem plain_ok {l : List UInt8} (h : plainB l = true) : nameOK l ∧ lowL l = l := by
  cases l with
  | nil => cases h
  | cons c r =>
    unfold plainB at h
    rw [Bool.and_eq_true, List.all_eq_true] at h
    have ha : ∀ x ∈ c :: r, (smallB x || digitB x) = true := fun x hx => by
      rcases List.mem_cons.1 hx with rfl | hx
      · rw [h.1]; rfl
      · exact h.2 x hx
    exact ⟨⟨c, r, rfl, small_letter c h.1, fun x hx => (small_low x (ha x hx)).1⟩, low_of fun x hx => (small_low x (ha x hx)).2⟩
/-- attributes of a clean begin: each name plain, and once -/
def onceB : List AtL → List AtL → Bool
  | _, [] => true
  | A, a :: r => (!(A.any fun b => b.1 == a.1) && plainB a.1) && onceB (A ++ [a]) r
def cleanB (p : TokG) (was : Int) : Bool :=
  if p.1 = 1 then p.2.name.isEmpty && (p.2.attrs.isEmpty && (!p.2.text.isEmpty && !decide (was = 1)))
  else if p.1 = 3 then plainB p.2.name && (p.2.attrs.isEmpty && p.2.text.isEmpty)
  else if p.1 = 2 then onceB [] p.2.attrs && (plainB p.2.name && (!(rawL.contains p.2.name) && (p.2.text.isEmpty && decide (p.2.attrs.length ≤ 30))))
  else false
def cleansB : Int → List TokG → Bool
  | _, [] => true
  | was, p :: r => cleanB p was && cleansB p.1 r
theorem once_ok : ∀ (Bs A : List AtL), onceB A Bs = true → A.Pairwise (fun a b => a.1 ≠ b.1) → (A ++ Bs).Pairwise (fun a b => a.1 ≠ b.1) ∧ ∀ a ∈ Bs, plainB a.1 = true
  | [], A, _, hA => ⟨by rw [List.append_nil]; exact hA, fun a h => by cases h⟩
  | a :: r, A, h, hA => by
    unfold onceB at h
    simp only [Bool.and_eq_true, Bool.not_eq_true', List.any_eq_false] at h
    obtain ⟨⟨h1, h2⟩, h3⟩ := h
    have hA2 : (A ++ [a]).Pairwise (fun a b => a.1 ≠ b.1) := by
      rw [List.pairwise_append]
      refine ⟨hA, List.pairwise_singleton _ _, fun x hx y hy => ?_⟩
      obtain rfl := List.mem_singleton.1 hy
      have := h1 x hx
      simpa using this
    obtain ⟨i1, i2⟩ := once_ok r (A ++ [a]) h3 hA2
    refine ⟨by simpa using i1, fun b hb => ?_⟩
    rcases List.mem_cons.1 hb with rfl | hb
    · exact h2
    · exact i2 b hb
theorem nil_of {α : Type} {l : List α} (h : l.isEmpty = true) : l = [] := by cases l with | nil => rfl | cons _ _ => cases h
theorem clean_read {p : TokG} {was : Int} (h : cleanB p was = true) : ReadT (toL p) (toL p) ∧ (kindN p.1 : Int) = p.1 ∧ (p.1 = 1 → was ≠ 1) := by
  unfold cleanB at h
  by_cases k1 : p.1 = 1
  · rw [if_pos k1] at h
    simp only [Bool.and_eq_true, Bool.not_eq_true', decide_eq_false_iff_not] at h
    obtain ⟨h1, h2, h3, h4⟩ := h
    refine ⟨⟨rfl, rfl, rfl, .inl ⟨by show kindN p.1 = 1; rw [k1]; rfl, nil_of h1, nil_of h2, fun e => ?_⟩⟩, by rw [k1]; rfl, fun _ => h4⟩
    have e2 : p.2.text = [] := e
    rw [e2] at h3; cases h3
  rw [if_neg k1] at h
  by_cases k3 : p.1 = 3
  · rw [if_pos k3] at h
    simp only [Bool.and_eq_true] at h
    obtain ⟨h1, h2, h3⟩ := h
    obtain ⟨n1, n2⟩ := plain_ok h1
    exact ⟨⟨rfl, rfl, rfl, .inr (.inl ⟨by show kindN p.1 = 3; rw [k3]; rfl, n1, n2, nil_of h2, nil_of h3⟩)⟩, by rw [k3]; rfl, fun e => absurd e k1⟩
  rw [if_neg k3] at h
  by_cases k2 : p.1 = 2
  · rw [if_pos k2] at h
    simp only [Bool.and_eq_true, Bool.not_eq_true', decide_eq_true_eq] at h
    obtain ⟨h1, h2, h3, h4, h5⟩ := h
    obtain ⟨n1, n2⟩ := plain_ok h2
    obtain ⟨o1, o2⟩ := once_ok _ _ h1 List.Pairwise.nil
    exact ⟨⟨rfl, rfl, rfl, .inr (.inr ⟨by show kindN p.1 = 2; rw [k2]; rfl, n1, n2, nil_of h4, fun a ha => plain_ok (o2 a ha), o1, h5, h3⟩)⟩, by rw [k2]; rfl, fun e => absurd e k1⟩
  rw [if_neg k2] at h
  cases h
theorem cleans_read : ∀ (l : List TokG) (was : Int), cleansB was l = true → TokR (l.map toL) (l.map toL) ∧ (∀ (i : Nat) (a b : TokL), (l.map toL)[i]? = some a → (l.map toL)[i + 1]? = some b → ¬ (a.kind = 1 ∧ b.kind = 1)) ∧
    (∀ p, l.head? = some p → p.1 = 1 → was ≠ 1) ∧ ∀ p ∈ l, (kindN p.1 : Int) = p.1
  | [], _, _ => ⟨.nil, fun i a b h => by simp at h, fun p h => by simp at h, fun p h => by cases h⟩
  | p :: r, was, h => by
    unfold cleansB at h
    rw [Bool.and_eq_true] at h
    obtain ⟨c1, c2, c3⟩ := clean_read h.1
    obtain ⟨i1, i2, i3, i4⟩ := cleans_read r p.1 h.2
    refine ⟨.cons c1 i1, fun i a b ha hb => ?_, fun q hq => ?_, fun q hq => ?_⟩
    · cases i with
      | zero =>
        simp only [List.map_cons, List.getElem?_cons_zero, Option.some.injEq] at ha
        subst ha
        rintro ⟨k1, k2⟩
        rw [show 0 + 1 = 0 + 1 from rfl, List.map_cons, List.getElem?_cons_succ, List.getElem?_map] at hb
        obtain ⟨q, hq, rfl⟩ := Option.map_eq_some_iff.1 hb
        have hk : ∀ z : TokG, (toL z).kind = 1 → (kindN z.1 : Int) = z.1 → z.1 = 1 := fun z h1 h2 => by
          have h3 : kindN z.1 = 1 := h1
          rw [h3] at h2; exact h2.symm
        have e1 := hk p k1 c2
        have e2 := hk q k2 (i4 q (List.mem_of_getElem? hq))
        exact i3 q (by rw [List.head?_eq_getElem?]; exact hq) e2 e1
      | succ i => exact i2 i a b (by simpa using ha) (by simpa using hb)
    · simp only [List.head?_cons, Option.some.injEq] at hq
      subst hq
      exact c3
    · rcases List.mem_cons.1 hq with rfl | hq
      · exact c2
      · exact i4 q hq
theorem tokKey_toL {l : List TokG} (h : ∀ p ∈ l, (kindN p.1 : Int) = p.1) : ((l.map toL).map gOf).map tokKey = l.map tokKey := by
  rw [List.map_map, List.map_map]
  refine List.map_congr_left fun p hp => ?_
  show tokKey (gOf (toL p)) = tokKey p
  unfold tokKey gOf toL
  simp only
  rw [h p hp]
theorem escOK : EscOK decE (escQ false) (escQ true) := by
  refine ⟨fun x h => (esc_no false x 60 h).1 rfl, dec_esc false, fun x hx e => ?_, fun x h => (esc_no true x 34 h).2.2 rfl rfl, dec_esc true⟩
  apply hx
  rw [← dec_esc false x, e]
  exact decE_nil
/-- tokens that are written are read to the same -/
theorem scan_back {l : List TokG} (h : cleansB 0 l = true) : scanL decE [] [] (writeG l) = l.map toL ∧ ∀ p ∈ l, (kindN p.1 : Int) = p.1 := by
  obtain ⟨h1, h2, _, h4⟩ := cleans_read l 0 h
  refine ⟨?_, h4⟩
  rw [writeG_L, scan_write escOK _ _ h1 h2 [] [] (.inl rfl)]
  rfl
/-- what HtokText asks: a text that is not empty is read to one that is not -/
theorem decE_ne {l : List UInt8} (h : l ≠ []) : decE l ≠ [] := by
  cases l with
  | nil => exact absurd rfl h
  | cons c r =>
    by_cases hc : c = 38
    · subst hc
      rw [decE_amp]
      split
      · intro e
        have := List.append_eq_nil_iff.1 e
        have h2 := (runeL_length (refN r).1).1
        rw [this.1] at h2
        exact absurd h2 (by decide)
      · simp
    · rw [decE_cons hc]; simp
end Go.Proofs.YtmojckphfbcibaaGreatDoor
