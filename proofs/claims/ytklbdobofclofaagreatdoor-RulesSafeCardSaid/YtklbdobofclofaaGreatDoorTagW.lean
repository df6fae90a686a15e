/- WALKS of strings.NewReplacer and (*strings.Replacer).Replace at link's texts. No statement is proved here. -/
import Derived.Test.YtklbdobofclofaaGreatDoorTagR
namespace Go.Proofs.YtklbdobofclofaaGreatDoor
open Go.RowKit
set_option linter.unusedVariables false
set_option linter.unusedSimpArgs false
set_option maxRecDepth 100000
theorem meth_replaceT (a : Addr) (w : World) : (method 337 131 (.pointer (some a)) "Replace").run Tryz.prog w = .ok (208, .pointer (some a)) w := by kernel_rfl
set_option maxHeartbeats 1600000 in
theorem replacerT_any (s : ByteArray) (b : Nat) (W w : World) (hW : Below W.heap.size W w) (hWb : W.heap.size ≤ b) (hn : NewAtT b w) (hs : s.size ≤ 35184372088832) :
    Calls Tryz.prog 51 #[.pointer (some ⟨b, 0, none⟩), .string s] w fun e w' => e = .returned (.string (str (keepL s.data.toList))) ∧ Below W.heap.size W w' := by
  go_enter Tryz.func51, Tryz.ntmps51
  have hmt := meth_replaceT
  have HD := hide (doT_build b W w hW hWb hn)
  go_wp2_with (first
    | (go_at_call 68; refine HD.out.mono ?_; rintro e w1 ⟨rfl, hr1, hc1⟩; have HR1 := hide hr1; clear hr1)
    | (go_at_call 208; refine (replaceT_any s b _ W _ HR1.out hs).mono ?_; rintro e w2 ⟨rfl, hb2⟩; have HB2 := hide hb2; clear hb2))
  go_ret
  exact ⟨rfl, HR1.out.below.trans (HB2.out.mono HR1.out.below.size)⟩
theorem newReplacerT_any (g : Nat) (w : World) (hg : OldNewT g w) :
    Calls Tryz.prog 50 #[.slice (some ⟨g, 0, none⟩) 6 6] w fun e w' => ∃ b : Nat, e = .returned (.pointer (some ⟨b, 0, none⟩)) ∧ w.heap.size ≤ b ∧ Below w.heap.size w w' ∧ NewAtT b w' := by
  obtain ⟨h0, h1, h2, h3, h4, h5⟩ := hg
  go_enter Tryz.func50, Tryz.ntmps50
  go_wp2_with fail
  go_ret
  generalize (Question.appendCap 6 0 9).cut _ = cp
  have es : ∀ C T, (w.alloc (.cells C T)).heap.size = w.heap.size + 1 := fun C T => World.size_alloc ..
  refine ⟨w.heap.size + 1, rfl, Nat.le_succ _, (((Below.refl _ w).alloc (Nat.le_refl _) _).alloc (by rw [es]; exact Nat.le_succ _) _).drew, ?_, ?_, ?_, fun i => ?_, w.heap.size, cp, ?_, ⟨?_, ?_, ?_, ?_, ?_, ?_⟩, by omega⟩
  · rw [World.cell?_drew, World.cell?_alloc_at _ _ _ _ (es _ _).symm]; rfl
  · rw [World.cell?_drew, World.cell?_alloc_at _ _ _ _ (es _ _).symm]; rfl
  · rw [World.cell?_drew, World.cell?_alloc_at _ _ _ _ (es _ _).symm]; rfl
  · rw [World.frozen?_drew]; exact World.frozen?_alloc_at _ _ _ _ (es _ _).symm
  · rw [World.cell?_drew, World.cell?_alloc_at _ _ _ _ (es _ _).symm]; rfl
  · rw [World.cell?_drew, World.cell?_alloc_past _ _ _ (by rw [es]; exact Nat.lt_succ_self _), World.cell?_alloc_at _ _ _ _ rfl, Array.getElem?_append_left (by decide)]; rfl
  · rw [World.cell?_drew, World.cell?_alloc_past _ _ _ (by rw [es]; exact Nat.lt_succ_self _), World.cell?_alloc_at _ _ _ _ rfl, Array.getElem?_append_left (by decide)]; rfl
  · rw [World.cell?_drew, World.cell?_alloc_past _ _ _ (by rw [es]; exact Nat.lt_succ_self _), World.cell?_alloc_at _ _ _ _ rfl, Array.getElem?_append_left (by decide)]; rfl
  · rw [World.cell?_drew, World.cell?_alloc_past _ _ _ (by rw [es]; exact Nat.lt_succ_self _), World.cell?_alloc_at _ _ _ _ rfl, Array.getElem?_append_left (by decide)]; rfl
  · rw [World.cell?_drew, World.cell?_alloc_past _ _ _ (by rw [es]; exact Nat.lt_succ_self _), World.cell?_alloc_at _ _ _ _ rfl, Array.getElem?_append_left (by decide)]; rfl
  · rw [World.cell?_drew, World.cell?_alloc_past _ _ _ (by rw [es]; exact Nat.lt_succ_self _), World.cell?_alloc_at _ _ _ _ rfl, Array.getElem?_append_left (by decide)]; rfl
theorem old_newT (w : World) (t : TypeId) : OldNewT w.heap.size (w.alloc (.cells #[.string ⟨#[9]⟩, .string ⟨#[]⟩, .string ⟨#[10]⟩, .string ⟨#[]⟩, .string ⟨#[13]⟩, .string ⟨#[]⟩] t)) :=
  ⟨by rw [World.cell?_alloc_at _ _ _ _ rfl]; rfl, by rw [World.cell?_alloc_at _ _ _ _ rfl]; rfl, by rw [World.cell?_alloc_at _ _ _ _ rfl]; rfl, by rw [World.cell?_alloc_at _ _ _ _ rfl]; rfl, by rw [World.cell?_alloc_at _ _ _ _ rfl]; rfl, by rw [World.cell?_alloc_at _ _ _ _ rfl]; rfl⟩
end Go.Proofs.YtklbdobofclofaaGreatDoor
