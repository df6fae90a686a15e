/- WALKS of the tree builder: inner, take. No statement is proved here. Own work of the verifier. -/
import Derived.Test.YtjaeheicndfdnaaGreatDoorBaseQ
import Derived.BigQuiet
import Derived.Deep.QuietTactic
namespace Go.Proofs.YtjaeheicndfdnaaGreatDoor
open Go.RowKit
set_option linter.unusedVariables false
set_option linter.unusedSimpArgs false
set_option maxRecDepth 100000
/-! ### the builder's methods, walked -/
set_option maxHeartbeats 2000000 in
theorem inner14_any (C : Nat → Prop) (B b : Nat) (r : Value) (st : List PartV) (n : Nat) (W0 w : World) (h : BS C B b r st n W0 w) (hs : st ≠ []) (hl : st.length ≤ 1048576) :
    Calls Tryz.prog 33 #[.pointer (some ⟨b, 0, none⟩)] w fun e w' => (∃ g cap, r = .slice (some ⟨g, 0, none⟩) st.length cap ∧ e = .returned (.pointer (some ⟨g, (st.length - 1) * 5, none⟩))) ∧ ∃ m, w' = w.drewN m := by
  obtain ⟨g, cap, rfl, h1, h2, h3, h4⟩ := h.form hs
  have c0 := h.c0
  obtain ⟨k, hk⟩ : ∃ k, st.length = k + 1 := ⟨st.length - 1, by have := List.length_pos_iff.2 hs; omega⟩
  rw [hk] at c0 hl ⊢
  have tn1 : wrap64 (((k + 1 : Nat) : Int) - 1) = (k : Int) := by unfold wrap64; omega
  have tn4 : wrap64 ((k : Int) + 1 - 1) = (k : Int) := by unfold wrap64; omega
  have tn2 : ((k + 1 : Nat) : Int) - 1 = (k : Int) := by omega
  have tn5 : (k : Int) < (k : Int) + 1 := by omega
  clear h hs hk h1 h2 h3 h4
  go_enter Tryz.func33, Tryz.ntmps33
  go_wp2_with fail
  go_quiet (fail)
  go_wp2_with fail
  go_ret
  exact ⟨⟨g, cap, rfl, rfl⟩, nq, rfl⟩
set_option maxHeartbeats 2000000 in
theorem take_no (C : Nat → Prop) (B b : Nat) (r : Value) (st : List PartV) (W0 w : World) (h : BS C B b r st 5000 W0 w) :
    Calls Tryz.prog 66 #[.pointer (some ⟨b, 0, none⟩)] w fun e w' => e = .returned (.bool false) ∧ w = w' := by
  have c1 := h.c1
  clear h
  go_enter Tryz.func66, Tryz.ntmps66
  go_wp2_with fail
  go_ret
  exact ⟨rfl, rfl⟩
set_option maxHeartbeats 2000000 in
theorem take_yes (C : Nat → Prop) (B b : Nat) (r : Value) (st : List PartV) (n : Nat) (W0 w : World) (h : BS C B b r st n W0 w) (hn : n < 5000) :
    Calls Tryz.prog 66 #[.pointer (some ⟨b, 0, none⟩)] w fun e w' => e = .returned (.bool true) ∧ BS C B b r st (n + 1) W0 w' := by
  have c1 := h.c1
  have f1 := h.free 1
  have t0 : ((n : Int) == 5000) = false := beq_eq_false_iff_ne.2 (by omega)
  have HB := hide (h.setCount (n + 1))
  clear h
  go_enter Tryz.func66, Tryz.ntmps66
  go_wp2_with fail
  go_ret
  exact ⟨rfl, HB.out⟩
end Go.Proofs.YtjaeheicndfdnaaGreatDoor
