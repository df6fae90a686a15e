import Derived.Test.YtiejmkjpgjbodaaGreatDoorBaseR
import Derived.Test.YtiejmkjpgjbodaaGreatDoorBaseN
import Derived.Test.YtiejmkjpgjbodaaGreatDoorSerU
namespace Go.Proofs.YtiejmkjpgjbodaaGreatDoor
set_option linter.unusedVariables false
set_option linter.unusedSimpArgs false
set_option maxRecDepth 100000
theorem saysT_allZ (f : NdH → Bool) (s : List UInt8) (T : Tr) (hf : f (txH s) = true) (h : T.all f = true) : (saysT s T).all f = true := by
  unfold saysT
  split
  · exact h
  · simp only [Tr.all, hf, h, Bool.and_true]
theorem insP_allZ (f : NdH → Bool) (hb : f brH = true) (hq : f quH = true) (n : Nat) (s : List UInt8) (m : Option Nat) (T : Tr) (hf : f (txH s) = true) (h : T.all f = true) : (insP n s m T).all f = true := by
  induction n generalizing m T with
  | zero =>
    rw [insP_zero]
    refine saysT_allZ f s _ hf ?_
    split
    · simp only [Tr.all, hb, h, Bool.and_true]
    · exact h
  | succ n ih =>
    have key : (Tr.cons quH (insP n s none .nil) T).all f = true := by simp only [Tr.all, hq, h, ih none .nil rfl, Bool.and_true]
    cases m with
    | none => rw [insP_none]; exact key
    | some m => cases m with
      | zero => rw [insP_off]; exact key
      | succ m => cases T with
        | nil => exact key
        | cons hd K R =>
          rw [insP_in]
          simp only [Tr.all, Bool.and_eq_true] at h ⊢
          exact ⟨h.1, ih (some m) K h.2.1, h.2.2⟩
theorem treeP_allZ (f : NdH → Bool) (hb : f brH = true) (hq : f quH = true) (l : List LnL) (hf : ∀ p ∈ l, f (txH p.2) = true) : (treeP l).all f = true := by
  induction l with
  | nil => rfl
  | cons p r ih => exact insP_allZ f hb hq _ _ _ _ (hf p (List.mem_cons_self ..)) (ih fun q hq => hf q (List.mem_cons_of_mem _ hq))
theorem plainP_allZ (f : NdH → Bool) (s : List UInt8) (hb : f brH = true) (hq : f quH = true) (hf : ∀ t : List UInt8, t.length ≤ s.length → f (txH t) = true) : (plainP s).all f = true := by
  refine treeP_allZ f hb hq _ fun p hp => hf _ ?_
  obtain ⟨x, hx, rfl⟩ := List.mem_map.1 hp
  have h1 := (cutL_sizes s).2
  have h2 : ∀ (L : List (List UInt8)), x ∈ L → x.length ≤ (L.map List.length).sum := fun L hL => by
    induction L with
    | nil => cases hL
    | cons y r ih =>
      simp only [List.map_cons, List.sum_cons]
      rcases List.mem_cons.1 hL with rfl | hL
      · omega
      · have := ih hL; omega
  have h3 := (levelL_le x).2
  have := h2 _ hx
  omega
theorem plain_right (s : List UInt8) : rightB 30 false (plainP s) = true :=
  (right_tree 20 _ (linesP s) (Nat.le_refl _) (fun p hp => by obtain ⟨x, _, rfl⟩ := List.mem_map.1 hp; exact (levelL_le x).1) 30 (by decide)).1
theorem plain_stable (s : List UInt8) (hs : s.length ≤ 4999) : buildP (scanL decE [] [] (writeT (plainP s))) = plainP s := by
  have hr := plain_right s
  rw [scan_tokT hr (plainP_allZ formH s (by decide +kernel) (by decide +kernel) (fun _ _ => rfl)) (rawOK_none (plainP_allZ (fun h => !rawB h.name) s (by decide +kernel) (by decide +kernel) (fun _ _ => by show (!rawB []) = true; decide +kernel)))]
  refine build_tokT _ hr (ins_plain _ _ (fun o h => (by cases h)) (plainP_allZ plainH s (by decide +kernel) (by decide +kernel) (fun _ _ => rfl))) ?_
  have := plainP_count s
  omega
end Go.Proofs.YtiejmkjpgjbodaaGreatDoor
