/- WALK of link.Clean. No statement is proved here. Own work of the verifier. -/
import Derived.Test.YtklbdobofclofaaGreatDoorTagW
import Derived.Test.YtklbdobofclofaaGreatDoorBaseN
import Derived.Shelf.Strings.FuncGrows
namespace Go.Proofs.YtklbdobofclofaaGreatDoor
open Go.RowKit
set_option linter.unusedVariables false
set_option linter.unusedSimpArgs false
set_option maxRecDepth 100000

theorem lowR_any (x : Nat) (w : World) (hx : x ≤ 1114111) :
    Calls Tryz.prog 49 #[.int .i32 (x : Int)] w fun e w' => e = .returned (.bool (lowR x)) ∧ w = w' := by
  unfold lowR
  by_cases h : x ≤ 32
  · have e : decide (x ≤ 32) = true := decide_eq_true h
    rw [e]; clear e
    go_enter Tryz.func49, Tryz.ntmps49
    go_wp2
    go_ret
    exact ⟨ret_bool (by first | rfl | (simp; omega)), rfl⟩
  · have e : decide (x ≤ 32) = false := decide_eq_false h
    rw [e]; clear e
    go_enter Tryz.func49, Tryz.ntmps49
    go_wp2
    go_ret
    exact ⟨ret_bool (by first | rfl | (simp; omega)), rfl⟩
theorem enters_low : ∀ args w, (callFunc 49 args).run Tryz.prog w = .ok (.enter 49 args) w := enters_of Tryz.func49 (by kernel_rfl) rfl
theorem pred_low (w : World) : PredGrows Tryz.prog 49 #[] lowR w := fun W x hx hb => (lowR_any x W hx).mono fun e w' ⟨he, hw⟩ => ⟨he, hw ▸ Below.refl _ _⟩
/-- utf8's two tables lie in memory -/
def EnvU (w : World) : Prop := Lib.Utf8Tabs 2 3 w
theorem EnvU.kept {w w' : World} (h : EnvU w) (hb : Below w.heap.size w w') : EnvU w' := Utf8Tabs_below h hb
theorem trimFunc_any (s : ByteArray) (w : World) (hs : s.size ≤ 1048576) (hE : EnvU w) :
    Calls Tryz.prog 48 #[.string s, .func (.func 49) #[] #[]] w fun e w' => e = .returned (.string (str (trimW s.data.toList))) ∧ Below w.heap.size w w' := by
  refine (Tryz.strings_TrimFunc_grows 49 #[] enters_low lowR s w (by omega) hE (pred_low w)).mono ?_
  rintro e w1 ⟨rfl, hb⟩
  refine ⟨ret_str (ext_list ?_), hb⟩
  rw [trimF_low, str_toList]
set_option maxHeartbeats 1600000 in
theorem linkClean_any (s : ByteArray) (w : World) (hs : s.size ≤ 1048576) (hE : EnvU w) :
    Calls Tryz.prog 31 #[.string s] w fun e w' => e = .returned (.string (str (lkClean s.data.toList))) ∧ Below w.heap.size w w' := by
  obtain ⟨X, hX⟩ : ∃ X, X = str (trimW s.data.toList) := ⟨_, rfl⟩
  have hXs : X.size ≤ 1048576 := by
    rw [hX, str_size]
    have := trimW_length s.data.toList
    rw [toList_length] at this
    omega
  have HC : Hid (str (keepL X.data.toList) = str (lkClean s.data.toList)) := hide (by rw [hX, str_toList]; rfl)
  have HX := hide hX
  have HON := hide (fun w => old_newT w 9)
  have HE := hide hE
  clear hX hE
  go_enter Tryz.func31, Tryz.ntmps31
  go_wp2_with (first
    | (go_at_call 48; refine (trimFunc_any s _ hs HE.out).mono ?_; rw [← HX.out]; rintro e w1 ⟨rfl, hb1⟩; have HB0 := hide (hb1.alloc hb1.size (.cells #[.string ⟨#[9]⟩, .string ⟨#[]⟩, .string ⟨#[10]⟩, .string ⟨#[]⟩, .string ⟨#[13]⟩, .string ⟨#[]⟩] 9)); clear hb1)
    | (go_at_call 50; refine (newReplacerT_any _ _ (HON.out _)).mono ?_; rintro e w2 ⟨b, rfl, hbb, hb2, hn2⟩; have HN2 := hide hn2; have HB2 := hide (HB0.out.trans (hb2.mono HB0.out.size)); have HBB := hide (Nat.le_trans HB0.out.size hbb); clear hbb hb2 hn2)
    | (go_at_call 51; refine (replacerT_any X b w _ HB2.out HBB.out HN2.out (by omega)).mono ?_; rintro e w3 ⟨rfl, hb3⟩; have HB3 := hide hb3; clear hb3))
  go_ret
  exact ⟨by first | rfl | (rw [HC.out]; rfl), HB3.out⟩
end Go.Proofs.YtklbdobofclofaaGreatDoor
