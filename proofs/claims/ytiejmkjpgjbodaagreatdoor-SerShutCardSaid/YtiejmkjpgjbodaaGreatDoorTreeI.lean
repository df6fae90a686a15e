import Derived.Test.YtiejmkjpgjbodaaGreatDoorBaseQ
namespace Go.Proofs.YtiejmkjpgjbodaaGreatDoor
set_option linter.unusedVariables false
set_option linter.unusedSimpArgs false
set_option maxRecDepth 100000
def tokT : Tr → List TokL
  | .nil => []
  | .cons h K R => (if h.name = [] then [⟨1, [], [], h.text⟩] else if voidB h.name = true then [⟨2, h.name, h.attrs, []⟩] else ⟨2, h.name, h.attrs, []⟩ :: (tokT K ++ [⟨3, h.name, [], []⟩])) ++ tokT R
theorem shut_find (n : List UInt8) (st : List PartL) (h : shutB n (pathN st) = false) : findP (closesB n) st = none := by
  induction st with
  | nil => rfl
  | cons p r ih => cases r with
    | nil => rfl
    | cons q r =>
      simp only [pathN, shutB, Bool.or_eq_false_iff, Bool.and_eq_false_iff] at h
      simp only [findP]
      rw [if_neg (by rw [h.1]; decide)]
      by_cases hw : wallB p.name = true
      · rw [if_pos hw]
      · rw [if_neg hw]
        have h2 : shutB n (pathN (q :: r)) = false := by
          rcases h.2 with h2 | h2
          · simp at h2; exact absurd h2 hw
          · exact h2
        rw [ih h2]; rfl
theorem closeAll_noneF (is : List UInt8 → Bool) (f : Nat) (st : List PartL) (h : findP is st = none) : closeAll is f st = st := by
  cases f with
  | zero => rfl
  | succ f => rw [closeAll, h]
theorem pathN_same {p q : PartL} (h : q.name = p.name) (st : List PartL) : pathN (q :: st) = pathN (p :: st) := by
  cases st with
  | nil => rfl
  | cons a r => simp only [pathN, h]
theorem endText_name (p : PartL) : (endTextL p).name = p.name ∧ (endTextL p).attrs = p.attrs ∧ (endTextL p).tail = [] := by
  unfold endTextL; split
  · rename_i h; exact ⟨rfl, rfl, h⟩
  · exact ⟨rfl, rfl, rfl⟩
theorem fold_tokT (T : Tr) (d : Nat) (pt : Bool) (p : PartL) (st : List PartL) (n : Nat) (hr : rightB d pt T = true) (hd : d + (p :: st).length = 31) (hi : insB (pathN (p :: st)) T = false)
    (hn : n + T.count ≤ 5000) (hpt : pt = false → p.tail = []) :
    ∃ p', (tokT T).foldl tokB (p :: st, n) = (p' :: st, n + T.count) ∧ p'.name = p.name ∧ p'.attrs = p.attrs ∧ (endTextL p').kids = (endTextL p).kids ++ T.list := by
  induction T generalizing d pt p st n with
  | nil => exact ⟨p, rfl, rfl, rfl, by rw [Tr.list, List.append_nil]⟩
  | cons h K R ihK ihR =>
    simp only [rightB, Bool.and_eq_true, decide_eq_true_eq] at hr
    obtain ⟨r1, r2, r3, r4⟩ := hr
    simp only [insB, Bool.or_eq_false_iff] at hi
    obtain ⟨i1, i2⟩ := hi
    simp only [Tr.count] at hn
    rw [tokT, List.foldl_append]
    by_cases hnm : h.name = []
    · rw [if_pos hnm] at r2 ⊢
      simp only [decide_eq_true_eq] at r2
      obtain ⟨s1, s2, s3, s4⟩ := r2
      subst s2
      have ht := hpt s4
      have e1 : [(⟨1, [], [], h.text⟩ : TokL)].foldl tokB (p :: st, n) = ({ p with tail := h.text } :: st, n + 1) := by
        show tokB (p :: st, n) ⟨1, [], [], h.text⟩ = _
        simp only [tokB, charsP, ht, if_true]
        rw [if_neg (by simp only [Tr.count] at hn; omega)]
      rw [e1]
      obtain ⟨p', q1, q2, q3, q4⟩ := ihR d _ { p with tail := h.text } st (n + 1) r4 hd (by refine (congrArg (fun x => insB x R) ?_).trans i2; refine pathN_same ?_ st; exact rfl) (by simp only [Tr.count] at hn; omega) (fun e => by rw [hnm] at e; simp at e)
      refine ⟨p', by rw [q1, Tr.count, Tr.count]; congr 1; omega, q2, q3, ?_⟩
      rw [q4]
      have hh : h = ⟨[], [], h.text⟩ := by cases h; simp only at hnm s3; rw [hnm, s3]
      rw [show (endTextL { p with tail := h.text }).kids = p.kids ++ [textNd h.text] by unfold endTextL; rw [if_neg s1], show (endTextL p).kids = p.kids by unfold endTextL; rw [if_pos ht], List.append_assoc]
      congr 1
      show textNd h.text :: R.list = (h, Tr.nil) :: R.list
      rw [textNd, ← hh]
    · rw [if_neg hnm] at r2 i1 ⊢
      simp only [decide_eq_true_eq] at r2
      obtain ⟨s1, s2⟩ := r2
      simp only [Bool.or_eq_false_iff] at i1
      have hf := closeAll_noneF (closesB h.name) (p :: st).length _ (shut_find _ _ i1.1)
      have hh : h = ⟨h.name, h.attrs, []⟩ := by cases h; simp only at s1; rw [s1]
      by_cases hv : voidB h.name = true
      · rw [if_pos hv]
        have hK : K = .nil := by rcases s2 with s2 | s2
                                 · exact s2
                                 · rw [hv] at s2; cases s2
        subst hK
        have e1 : [(⟨2, h.name, h.attrs, []⟩ : TokL)].foldl tokB (p :: st, n) = ({ endTextL p with kids := (endTextL p).kids ++ [(⟨h.name, h.attrs, []⟩, Tr.nil)] } :: st, n + 1) := by
          show tokB (p :: st, n) ⟨2, h.name, h.attrs, []⟩ = _
          simp only [tokB, startP]
          rw [if_neg (by decide), if_pos trivial, if_neg (by omega), hf, putP, if_pos (.inl hv)]
        rw [e1]
        obtain ⟨p', q1, q2, q3, q4⟩ := ihR d _ { endTextL p with kids := (endTextL p).kids ++ [(⟨h.name, h.attrs, []⟩, Tr.nil)] } st (n + 1) r4 hd (by refine (congrArg (fun x => insB x R) ?_).trans i2; refine pathN_same ?_ st; exact (endText_name p).1) (by simp only [Tr.count] at hn; omega) (fun _ => (endText_name p).2.2)
        refine ⟨p', by rw [q1, Tr.count, Tr.count]; congr 1; omega, q2.trans (endText_name p).1, q3.trans (endText_name p).2.1, ?_⟩
        rw [q4, show (endTextL { endTextL p with kids := (endTextL p).kids ++ [(⟨h.name, h.attrs, []⟩, Tr.nil)] }).kids = (endTextL p).kids ++ [(⟨h.name, h.attrs, []⟩, Tr.nil)] by rw [endTextL, if_pos (endText_name p).2.2], List.append_assoc, ← hh]
        rfl
      · rw [if_neg hv]
        rw [List.foldl_cons, List.foldl_append]
        have hdp : ¬ (30 < (p :: st).length) := by
          intro hlt; omega
        have e1 : tokB (p :: st, n) ⟨2, h.name, h.attrs, []⟩ = (⟨h.name, h.attrs, [], []⟩ :: endTextL p :: st, n + 1) := by
          simp only [tokB, startP]
          rw [if_neg (by decide), if_pos trivial, if_neg (by omega), hf, putP, if_neg (by rintro (e | e); exact hv e; exact hdp e)]
        rw [e1]
        obtain ⟨k', u1, u2, u3, u4⟩ := ihK (d - 1) false ⟨h.name, h.attrs, [], []⟩ (endTextL p :: st) (n + 1) r3 (by simp only [List.length_cons] at *; omega) (by
            show insB (h.name :: pathN (endTextL p :: st)) K = false
            rw [pathN_same (p := p) (endText_name p).1 st]; exact i1.2) (by omega) (fun _ => rfl)
        rw [u1]
        have e2 : [(⟨3, h.name, [], []⟩ : TokL)].foldl tokB (k' :: endTextL p :: st, n + 1 + K.count) = ({ endTextL p with kids := (endTextL p).kids ++ [(endTextL k').node] } :: st, n + 1 + K.count) := by
          show tokB (k' :: endTextL p :: st, n + 1 + K.count) ⟨3, h.name, [], []⟩ = _
          have hfind : findP (fun o => o == h.name) (k' :: endTextL p :: st) = some 1 := by
            simp only [findP]; rw [if_pos (by rw [u2]; exact beq_self_eq_true _)]
          simp only [tokB, endP, hfind]
          rfl
        rw [e2]
        have hnode : (endTextL k').node = (h, K) := by
          unfold PartL.node
          rw [u4, (endText_name k').1, (endText_name k').2.1, u2, u3]
          show ((⟨h.name, h.attrs, []⟩ : NdH), Tr.of ([] ++ K.list)) = (h, K)
          rw [List.nil_append, Tr.of_list, ← hh]
        rw [hnode]
        obtain ⟨p', q1, q2, q3, q4⟩ := ihR d _ { endTextL p with kids := (endTextL p).kids ++ [(h, K)] } st (n + 1 + K.count) r4 hd (by refine (congrArg (fun x => insB x R) ?_).trans i2; refine pathN_same ?_ st; exact (endText_name p).1) (by omega) (fun _ => (endText_name p).2.2)
        refine ⟨p', by rw [q1, Tr.count]; congr 1; omega, q2.trans (endText_name p).1, q3.trans (endText_name p).2.1, ?_⟩
        rw [q4, show (endTextL { endTextL p with kids := (endTextL p).kids ++ [(h, K)] }).kids = (endTextL p).kids ++ [(h, K)] by rw [endTextL, if_pos (endText_name p).2.2], List.append_assoc]
        rfl
end Go.Proofs.YtiejmkjpgjbodaaGreatDoor
