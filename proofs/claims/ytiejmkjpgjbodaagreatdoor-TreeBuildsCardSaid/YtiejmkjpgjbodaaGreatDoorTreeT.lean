import Derived.Test.YtiejmkjpgjbodaaGreatDoorTreeQ
import Derived.Test.YtiejmkjpgjbodaaGreatDoorBaseO
import Derived.BigQuiet
import Derived.Deep.QuietTactic
namespace Go.Proofs.YtiejmkjpgjbodaaGreatDoor
open Go.RowKit
set_option linter.unusedVariables false
set_option linter.unusedSimpArgs false
set_option maxRecDepth 100000
theorem tok_ne {x y : List UInt8} {X Y : ByteArray} (hX : X = str x) (hY : Y = str y) (h : x ≠ y) : (X.toList == Y.toList) = false := by
  rw [hX, hY, bytes_list, bytes_list, str_toList, str_toList]; exact beq_eq_false_iff_ne.2 h
set_option maxHeartbeats 2000000 in
theorem ask_end (bt : Nat) (nm : ByteArray) : AskAt 37 bt nm (fun o => o == nm.data.toList) := by
  intro w1 g o x hn hx
  obtain ⟨X, hX⟩ : ∃ X, X = str x := ⟨_, rfl⟩
  rw [← hX] at hx
  by_cases he : x = nm.data.toList
  · have e1 : X = nm := by rw [hX, he, str_of]
    subst e1
    have hb : (x == X.data.toList) = true := beq_iff_eq.2 he
    show Calls _ _ _ _ fun e w' => e = .returned (.bool (x == _)) ∧ _
    rw [hb]
    clear hX he hb
    go_enter Tryz.func37, Tryz.ntmps37
    go_wp2_with fail
    go_quiet (fail)
    go_wp2_with fail
    go_ret
    exact ⟨rfl, nq, rfl⟩
  · have hb : (x == nm.data.toList) = false := beq_eq_false_iff_ne.2 he
    have h1 : (X.toList == nm.toList) = false := tok_ne hX (str_of nm).symm he
    show Calls _ _ _ _ fun e w' => e = .returned (.bool (x == _)) ∧ _
    rw [hb]
    clear hX he hb
    go_enter Tryz.func37, Tryz.ntmps37
    go_wp2_with fail
    go_quiet (fail)
    go_wp2_with fail
    go_ret
    exact ⟨rfl, nq, rfl⟩
set_option maxHeartbeats 2000000 in
theorem ask_start (bt : Nat) (nm : ByteArray) : AskAt 86 bt nm (closesB nm.data.toList) := by
  intro w1 g o x hn hx
  obtain ⟨X, hX⟩ : ∃ X, X = str x := ⟨_, rfl⟩
  rw [← hX] at hx
  have hxl : X.data.toList = x := by rw [hX, str_toList]
  have hc := fun w => closes14_any nm X w
  rw [hxl] at hc
  obtain ⟨bb, hbb⟩ : ∃ bb, bb = closesB nm.data.toList x := ⟨_, rfl⟩
  rw [← hbb] at hc ⊢
  have HC := hide (fun w => (hc w).mono (fun e w' h => (⟨h.1, 0, h.2.symm⟩ : e = .returned (.bool bb) ∧ ∃ m, w' = w.drewN m)))
  clear hX hxl hc hbb
  go_enter Tryz.func86, Tryz.ntmps86
  go_wp2_with fail
  go_quiet (first | (go_at_call 32; exact Calls.quiet_of (HC.out _)) | fail)
  go_wp2_with fail
  go_ret
  exact ⟨rfl, nq, rfl⟩
theorem BS.onto {C : Nat → Prop} {B b : Nat} {r : Value} {st : List PartV} {n : Nat} {W0 W1 w : World} (h : BS C B b r st n W1 w) (hb : Below B W0 W1) (hs : Since4 W0 W1) : BS C B b r st n W0 w :=
  ⟨h.blk, h.row, h.attrs, h.kids, h.apart, h.tails, h.quiet, h.typ, h.base, hb.trans h.below, h.size, hs.trans h.since⟩
end Go.Proofs.YtiejmkjpgjbodaaGreatDoor
