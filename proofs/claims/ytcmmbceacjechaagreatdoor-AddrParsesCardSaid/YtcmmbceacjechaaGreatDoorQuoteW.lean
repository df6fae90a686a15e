/- WALKS of strings.NewReplacer, (*strings.Replacer).Replace, quote.Write. No statement is proved here. -/
import Derived.Test.YtcmmbceacjechaaGreatDoorRepR
namespace Go.Proofs.YtcmmbceacjechaaGreatDoor
open Go.RowKit
set_option linter.unusedVariables false
set_option linter.unusedSimpArgs false
set_option maxRecDepth 100000
theorem meth_replace (a : Addr) (w : World) : (method 387 215 (.pointer (some a)) "Replace").run Tryz.prog w = .ok (305, .pointer (some a)) w := by kernel_rfl
set_option maxHeartbeats 1600000 in
theorem replacer_any (s : ByteArray) (b : Nat) (W w : World) (hW : Below W.heap.size W w) (hWb : W.heap.size ≤ b) (hn : NewAt b w) (hs : s.size ≤ 35184372088832) :
    Calls Tryz.prog 158 #[.pointer (some ⟨b, 0, none⟩), .string s] w fun e w' => e = .returned (.string (str (escL s.data.toList))) ∧ Below W.heap.size W w' := by
  go_enter Tryz.func158, Tryz.ntmps158
  have hmt := meth_replace
  have HD := hide (do_build b W w hW hWb hn)
  go_wp2_with (first
    | (go_at_call 201; refine HD.out.mono ?_; rintro e w1 ⟨rfl, hr1, hc1⟩; have HR1 := hide hr1; clear hr1)
    | (go_at_call 305; refine (replace_any s b _ W _ HR1.out hs).mono ?_; rintro e w2 ⟨rfl, hb2⟩; have HB2 := hide hb2; clear hb2))
  go_ret
  exact ⟨rfl, HR1.out.below.trans (HB2.out.mono HR1.out.below.size)⟩
theorem newReplacer_any (g : Nat) (w : World) (hg : OldNew g w) :
    Calls Tryz.prog 157 #[.slice (some ⟨g, 0, none⟩) 4 4] w fun e w' => ∃ b : Nat, e = .returned (.pointer (some ⟨b, 0, none⟩)) ∧ w.heap.size ≤ b ∧ Below w.heap.size w w' ∧ NewAt b w' := by
  obtain ⟨h0, h1, h2, h3⟩ := hg
  go_enter Tryz.func157, Tryz.ntmps157
  go_wp2_with fail
  go_ret
  generalize (Question.appendCap 4 0 9).cut _ = cp
  have es : ∀ C T, (w.alloc (.cells C T)).heap.size = w.heap.size + 1 := fun C T => World.size_alloc ..
  refine ⟨w.heap.size + 1, rfl, Nat.le_succ _, (((Below.refl _ w).alloc (Nat.le_refl _) _).alloc (by rw [es]; exact Nat.le_succ _) _).drew, ?_, ?_, ?_, fun i => ?_, w.heap.size, cp, ?_, ⟨?_, ?_, ?_, ?_⟩, by omega⟩
  · rw [World.cell?_drew, World.cell?_alloc_at _ _ _ _ (es _ _).symm]; rfl
  · rw [World.cell?_drew, World.cell?_alloc_at _ _ _ _ (es _ _).symm]; rfl
  · rw [World.cell?_drew, World.cell?_alloc_at _ _ _ _ (es _ _).symm]; rfl
  · rw [World.frozen?_drew]; exact World.frozen?_alloc_at _ _ _ _ (es _ _).symm
  · rw [World.cell?_drew, World.cell?_alloc_at _ _ _ _ (es _ _).symm]; rfl
  · rw [World.cell?_drew, World.cell?_alloc_past _ _ _ (by rw [es]; exact Nat.lt_succ_self _), World.cell?_alloc_at _ _ _ _ rfl, Array.getElem?_append_left (by decide)]; rfl
  · rw [World.cell?_drew, World.cell?_alloc_past _ _ _ (by rw [es]; exact Nat.lt_succ_self _), World.cell?_alloc_at _ _ _ _ rfl, Array.getElem?_append_left (by decide)]; rfl
  · rw [World.cell?_drew, World.cell?_alloc_past _ _ _ (by rw [es]; exact Nat.lt_succ_self _), World.cell?_alloc_at _ _ _ _ rfl, Array.getElem?_append_left (by decide)]; rfl
  · rw [World.cell?_drew, World.cell?_alloc_past _ _ _ (by rw [es]; exact Nat.lt_succ_self _), World.cell?_alloc_at _ _ _ _ rfl, Array.getElem?_append_left (by decide)]; rfl
theorem old_new (w : World) (t : TypeId) : OldNew w.heap.size (w.alloc (.cells #[.string ⟨#[34]⟩, .string ⟨#[92, 34]⟩, .string ⟨#[92]⟩, .string ⟨#[92, 92]⟩] t)) :=
  ⟨by rw [World.cell?_alloc_at _ _ _ _ rfl]; rfl, by rw [World.cell?_alloc_at _ _ _ _ rfl]; rfl, by rw [World.cell?_alloc_at _ _ _ _ rfl]; rfl, by rw [World.cell?_alloc_at _ _ _ _ rfl]; rfl⟩
set_option maxHeartbeats 1600000 in
/-- quote.Write -/
theorem writeQ_any (s : ByteArray) (w : World) (hs : s.size ≤ 35184372088832) :
    Calls Tryz.prog 104 #[.string s] w fun e w' => e = .returned (.string (str (quoteL s.data.toList))) ∧ Below w.heap.size w w' := by
  obtain ⟨X, hX⟩ : ∃ X, X = str (escL s.data.toList) := ⟨_, rfl⟩
  have hXs : X.size ≤ 70368744177664 := by
    rw [hX, str_size]
    have := escL_length s.data.toList
    rw [toList_length] at this
    omega
  have HX := hide hX
  have HON := hide (old_new w 9)
  have HB0 : Hid (Below w.heap.size w (w.alloc (.cells #[.string ⟨#[34]⟩, .string ⟨#[92, 34]⟩, .string ⟨#[92]⟩, .string ⟨#[92, 92]⟩] 9))) := hide ((Below.refl _ w).alloc (Nat.le_refl _) _)
  clear hX
  go_enter Tryz.func104, Tryz.ntmps104
  go_wp2_with (first
    | (go_at_call 157; refine (newReplacer_any _ _ HON.out).mono ?_; rintro e w1 ⟨b, rfl, hbb, hb1, hn1⟩; have HN1 := hide hn1; have HB1 := hide (HB0.out.trans (hb1.mono HB0.out.size)); have HBB := hide (Nat.le_trans HB0.out.size hbb); clear hbb hb1 hn1)
    | (go_at_call 158; refine (replacer_any s b w _ HB1.out HBB.out HN1.out hs).mono ?_; rw [← HX.out]; rintro e w2 ⟨rfl, hb2⟩; have HB2 := hide hb2; clear hb2))
  go_ret
  refine ⟨ret_str ?_, HB2.out⟩
  rw [HX.out]
  apply ext_list
  simp [quoteL, str]
end Go.Proofs.YtcmmbceacjechaaGreatDoor
