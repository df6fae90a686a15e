import Derived.Test.YtiejmkjpgjbodaaGreatDoorBaseN
import Derived.ProofKit
namespace Go.Proofs.YtiejmkjpgjbodaaGreatDoor
open Go.RowKit
set_option linter.unusedVariables false
set_option linter.unusedSimpArgs false
set_option maxRecDepth 100000
section
variable {σ : Type} (bg : σ → NdH → Tr → σ) (en : σ → NdH → σ) (dv : NdH → Bool)
def inner (h : NdH) (K : Tr) : Tr := if dv h = true then K else .nil
def vis : Tr → σ → σ
  | .nil, s => s
  | .cons h K R, s => vis R (en (if dv h = true then vis K (bg s h K) else bg s h K) h)
theorem vis_inner (h : NdH) (K : Tr) (s : σ) : (if dv h = true then vis bg en dv K s else s) = vis bg en dv (inner dv h K) s := by
  unfold inner
  split <;> rfl
def unw : List (NdH × Tr) → σ → σ
  | [], s => s
  | [p], s => vis bg en dv p.2 s
  | p :: q :: r, s => unw (q :: r) (en (vis bg en dv p.2 s) p.1)
theorem unw_visit (h0 h : NdH) (K R : Tr) (rest : List (NdH × Tr)) (s : σ) : unw bg en dv ((h0, .cons h K R) :: rest) s = unw bg en dv ((h, inner dv h K) :: (h0, R) :: rest) (bg s h K) := by
  have e : vis bg en dv (.cons h K R) s = vis bg en dv R (en (vis bg en dv (inner dv h K) (bg s h K)) h) := by
    rw [vis, vis_inner]
  cases rest with
  | nil => simp only [unw, e]
  | cons p r => simp only [unw, e]
variable (μ : σ → Nat) (hb : ∀ s h K, μ s ≤ μ (bg s h K)) (he : ∀ s h, μ s ≤ μ (en s h))
include hb he
theorem vis_mono (T : Tr) (s : σ) : μ s ≤ μ (vis bg en dv T s) := by
  induction T generalizing s with
  | nil => exact Nat.le_refl _
  | cons h K R ihK ihR =>
    rw [vis]
    refine Nat.le_trans ?_ (ihR _)
    refine Nat.le_trans ?_ (he _ _)
    split
    · exact Nat.le_trans (hb s h K) (ihK _)
    · exact hb s h K
theorem unw_mono (st : List (NdH × Tr)) (s : σ) : μ s ≤ μ (unw bg en dv st s) := by
  induction st generalizing s with
  | nil => exact Nat.le_refl _
  | cons p r ih => cases r with
    | nil => exact vis_mono bg en dv μ hb he _ _
    | cons q r => exact Nat.le_trans (Nat.le_trans (vis_mono bg en dv μ hb he _ _) (he _ _)) (ih _)
end
def Tr.ev (G : NdH → Tr → Prop) : Tr → Prop
  | .nil => True
  | .cons h K R => G h K ∧ K.ev G ∧ R.ev G
theorem Tr.ev_true (T : Tr) : T.ev (fun _ _ => True) := by
  induction T with
  | nil => trivial
  | cons h K R a b => exact ⟨trivial, a, b⟩
def stepsW : List (NdH × Tr) → Nat
  | [] => 0
  | p :: r => 2 * p.2.count + 1 + stepsW r
theorem inner_count (dv : NdH → Bool) (h : NdH) (K : Tr) : (inner dv h K).count ≤ K.count := by
  unfold inner
  split
  · exact Nat.le_refl _
  · exact Nat.zero_le _
theorem inner_ev {G : NdH → Tr → Prop} (dv : NdH → Bool) {h : NdH} {K : Tr} (hk : K.ev G) : (inner dv h K).ev G := by
  unfold inner
  split
  · exact hk
  · trivial
theorem steps_len (st : List (NdH × Tr)) : st.length ≤ stepsW st := by
  induction st with
  | nil => exact Nat.le_refl _
  | cons p r ih => simp only [List.length_cons, stepsW]; omega
theorem vis_count (T : Tr) (n : Nat) : vis (fun (s : Nat) _ _ => s + 1) (fun s _ => s) (fun _ => true) T n = n + T.count := by
  induction T generalizing n with
  | nil => rfl
  | cons h K R a b => simp only [vis, if_true, a, b, Tr.count]; omega
abbrev DepS := Int × Int × Nat
theorem vis_depth (T : Tr) (s : DepS) (h : s.1 ≤ s.2.1) : vis (fun (s : DepS) _ _ => ((s.1 + 1, max s.2.1 (s.1 + 1), s.2.2 + 1) : DepS)) (fun s _ => (s.1 - 1, s.2.1, s.2.2 + 1)) (fun _ => true) T s = (s.1, max s.2.1 (s.1 + (T.depth : Int)), s.2.2 + 2 * T.count) := by
  induction T generalizing s with
  | nil => simp only [vis, Tr.depth, Tr.count]; obtain ⟨a, b, c⟩ := s; simp only at h ⊢; refine Prod.ext rfl (Prod.ext ?_ rfl); simp only; omega
  | cons p K R a b =>
    obtain ⟨d, m, c⟩ := s
    simp only at h
    simp only [vis, if_true, Tr.depth, Tr.count]
    rw [a _ (by simp only; omega)]
    simp only
    rw [b _ (by simp only; omega)]
    refine Prod.ext ?_ (Prod.ext ?_ ?_)
    · simp only; omega
    · simp only; omega
    · simp only; omega
end Go.Proofs.YtiejmkjpgjbodaaGreatDoor
