import Derived.Test.YtiejmkjpgjbodaaGreatDoorBaseO
import Derived.BigRegion
namespace Go.Proofs.YtiejmkjpgjbodaaGreatDoor
open Go.RowKit
set_option linter.unusedVariables false
set_option linter.unusedSimpArgs false
set_option maxRecDepth 100000
set_option maxHeartbeats 8000000 in
theorem endTextT_any (C : Nat → Prop) (B b g cap : Nat) (p : PartV) (rest : List PartV) (n : Nat) (W0 w : World) (h : BS C B b (.slice (some ⟨g, 0, none⟩) (rest.length + 1) cap) (p :: rest) n W0 w) (hl : rest.length ≤ 1048576) (hk : p.kids.length ≤ 1048576) (ht : p.tail.length ≤ 70368744177664) :
    Calls Tryz.prog 40 #[.pointer (some ⟨g, rest.length * 5, none⟩)] w fun e w' => e = .returned (.tuple #[]) ∧
      ∃ p', BS C B b (.slice (some ⟨g, 0, none⟩) (rest.length + 1) cap) (p' :: rest) n W0 w' ∧ p'.toL = endTextL p.toL := by
  obtain ⟨e0, e1, e2, e3, e4, ef⟩ := h.cells
  obtain ⟨tl1, tl2⟩ := h.tails p (List.mem_cons_self ..)
  by_cases hx : p.tail = []
  · have ht2 := tl2 hx
    rw [ht2] at e4
    have HR : Hid (BS C B b (.slice (some ⟨g, 0, none⟩) (rest.length + 1) cap) (p :: rest) n W0 w ∧ p.toL = endTextL p.toL) := hide ⟨h, by unfold endTextL; rw [if_pos (show p.toL.tail = [] from hx)]⟩
    clear h e0 e1 e2 e3 ef tl1 tl2 hx ht2 hk ht
    go_enter Tryz.func40, Tryz.ntmps40
    go_wp2_with fail
    go_end0
    exact ⟨rfl, p, HR.out⟩
  · obtain ⟨gt, ct, htv⟩ : ∃ gt ct, p.tv = .slice (some ⟨gt, 0, none⟩) p.tail.length ct := by
      rcases tl1.2 with ⟨_, h0⟩ | ⟨g', cap', cur, hv, _⟩
      · exact absurd (List.eq_nil_of_length_eq_zero h0) hx
      · exact ⟨g', cap', hv⟩
    rw [htv] at e4
    obtain ⟨N, hN⟩ : ∃ N, p.tail.length = N := ⟨_, rfl⟩
    have hN0 : 0 < N := by rw [← hN]; exact List.length_pos_iff.2 hx
    have g1 : decide ((0 : Int) < (N : Int)) = true := decide_eq_true (by omega)
    rw [hN] at e4
    obtain ⟨KA, KC, hkv⟩ : ∃ A c, p.kv = .slice A p.kids.length c := by
      rcases (h.kids p (List.mem_cons_self ..)).row.2 with ⟨hv, h0⟩ | ⟨g', cap', cur, hv, _⟩
      · exact ⟨none, 0, by rw [hv, h0]⟩
      · exact ⟨_, _, hv⟩
    rw [hkv] at e3
    obtain ⟨X, hX⟩ : ∃ X, str p.tail = X := ⟨_, rfl⟩
    have HX := hide hX
    have HXN := hide hx
    have HH := hide h
    have HK := hide hk
    have HTV := hide htv
    have HKV := hide hkv
    have HNN := hide hN
    have hcv : ∀ w', w'.ownsRow B 5 1 p.tv p.tail.length (cellsOf p.tail) → (convert 56 9 (.slice (some ⟨gt, 0, none⟩) N ct)).run Tryz.prog w' = .ok (.string X) w' := fun w' hw' => by
      have := Buf.convert (B := 0) (W0 := w') (w := w') (v := p.tv) (l := p.tail) ⟨ownsRow_down hw' (Nat.zero_le _), Below.refl _ _, Nat.zero_le _⟩
      rw [htv, hN, hX] at this
      exact this
    have HCV := hide hcv
    have cv0 := hcv w tl1
    clear h hx hk htv hkv hX tl1 tl2 ht hN hcv
    have HOWN : Hid (∀ W, Below w.heap.size w W → W.ownsRow B 33 4 (.slice KA p.kids.length KC) p.kids.length (nodeVals p.kids)) := hide fun W hW => by
      have := ((HH.out.kept hW).kids p (List.mem_cons_self ..)).row
      rw [HKV.out] at this; exact this
    have e3a : ∀ ob, (w.alloc ob).cell? ⟨g, rest.length * 5 + 3, none⟩ = some (.slice KA p.kids.length KC) := fun ob => ((below_one w ob).cell (World.block_lt_of_cell? _ _ e3)).trans e3
    have e4a : ∀ ob, (w.alloc ob).cell? ⟨g, rest.length * 5 + 4, none⟩ = some (.slice (some ⟨gt, 0, none⟩) N ct) := fun ob => ((below_one w ob).cell (World.block_lt_of_cell? _ _ e4)).trans e4
    have cv0d := HCV.out w.drew (((HH.out.kept (Below.refl _ _).drew).tails p (List.mem_cons_self ..)).1)
    have cv1 : ∀ ob, (convert 56 9 (.slice (some ⟨gt, 0, none⟩) N ct)).run Tryz.prog (w.alloc ob) = .ok (.string X) (w.alloc ob) := fun ob => HCV.out _ (((HH.out.kept (below_one w ob)).tails p (List.mem_cons_self ..)).1)
    have cv1d : ∀ ob, (convert 56 9 (.slice (some ⟨gt, 0, none⟩) N ct)).run Tryz.prog (w.alloc ob).drew = .ok (.string X) (w.alloc ob).drew := fun ob => HCV.out _ (((HH.out.kept ((below_one w ob).drew)).tails p (List.mem_cons_self ..)).1)
    have tn5 : ((p.kids.length : Nat) : Int) < (p.kids.length : Int) + 1 := by omega
    go_enter Tryz.func40, Tryz.ntmps40
    go_wp2_with fail
    all_goals first | exact absurd hN0 ‹_› | skip
    go_region_law (first
      | (refine step_node0 rfl _ _ rfl B (.slice KA p.kids.length KC) p.kids rfl (HOWN.out _ ?_) ?_ ⟨w.heap.size, 0, none⟩ rfl (node_row _ _ _ _ _).1 (node_row _ _ _ _ _).2.1 (node_row _ _ _ _ _).2.2.1 (node_row _ _ _ _ _).2.2.2 (by have := HK.out; omega) ?_
         · exact ((Below.refl _ _).alloc (Nat.le_refl _) _).drew
         · exact Nat.le_trans HH.out.size (((Below.refl w.heap.size w).alloc (Nat.le_refl _) _).drew).size
         intro g' cap' w2 ho2 hg2 hor2 hc2 hm2
         have HB1 := hide (HH.out.kept (((Below.refl w.heap.size w).alloc (Nat.le_refl _) (.cells #[.string ⟨#[]⟩, .slice none 0 0, .string ⟨#[]⟩, .slice none 0 0] 33)).drew))
         have hg3 := hg2
         rw [← HKV.out] at hg3 hor2
         obtain ⟨n1, n2, ⟨n3, n4, n5, n6⟩, n7, n8⟩ := app_facts HB1.out ho2 hg3 hor2
         have n9 : w2.cell? ⟨g, rest.length * 5 + 3, none⟩ = some (.slice KA p.kids.length KC) := (n8 _).trans (e3a _)
         have n10 : w2.cell? ⟨g, rest.length * 5 + 4, none⟩ = some (.slice (some ⟨gt, 0, none⟩) N ct) := (n8 _).trans (e4a _)
         have n11 : ¬ (g = g') := fun e => n1 e.symm
         have HO2 := hide ho2
         have HG2 := hide hg3
         have HOR := hide hor2
         clear ho2 hg2 hg3 hor2 hc2 hm2 n8))
    all_goals
      first | rw [kid_comm w2 n11] | skip
      have hb2 := HB1.out.kidWritten (q := (textNd p.tail, (.slice none 0 0, .slice none 0 0))) HO2.out HG2.out HOR.out ⟨⟨.inl ⟨rfl, rfl⟩, fun a n c e => (by cases e)⟩, .inl ⟨rfl, rfl⟩⟩
      rw [show (textNd p.tail).1.text = p.tail from rfl, HX.out] at hb2
      have hb3 := hb2.noTail
      have HB3 := hide hb3
      clear hb2 hb3
      go_wp2_with fail
      go_end0
      refine ⟨rfl, _, HB3.out, ?_⟩
      unfold endTextL
      rw [if_neg (show ¬ p.toL.tail = [] from HXN.out)]
      unfold PartV.toL
      simp
end Go.Proofs.YtiejmkjpgjbodaaGreatDoor
