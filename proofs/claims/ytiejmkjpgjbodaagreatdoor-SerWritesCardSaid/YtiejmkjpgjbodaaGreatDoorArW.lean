import Derived.Test.YtiejmkjpgjbodaaGreatDoorArN
import Derived.Test.YtiejmkjpgjbodaaGreatDoorBaseR
import Derived.BigRegion
import Derived.Deep.RegionLaw
namespace Go.Proofs.YtiejmkjpgjbodaaGreatDoor
open Go.RowKit
set_option linter.unusedVariables false
set_option linter.unusedSimpArgs false
set_option maxRecDepth 100000
set_option maxHeartbeats 8000000 in
theorem arPut_any (B b : Nat) (r o : Value) (l : List ArV) (opn : List Nat) (W0 w : World) (h : AB B b r o l opn W0 w) (hd : NdH) (av : Value) (ha : AttrsC (fun g => g < B) w av hd.attrs) (a : Nat) (p : ArV) (hp : l[a]? = some p) (hopn : opn[opn.length - 1]? = some a) (hl : l.length ≤ 100000) (hk : p.ks.length ≤ 100000) (ho : opn.length ≤ 100000) :
    Calls Tryz.prog 93 #[.pointer (some ⟨b, 0, none⟩), .agg #[.string (str hd.name), av, .string (str hd.text), .slice none 0 0]] w fun e w' => e = .returned (.int .i64 l.length) ∧
      TokS w w' ∧ ∃ r' l', AB B b r' o l' opn W0 w' ∧ arL l' = arPut (arL l) a hd := by
  have hal : a < l.length := (List.getElem?_eq_some_iff.1 hp).1
  obtain ⟨rA, rc, rfl, _, _⟩ := own_slice h.row
  obtain ⟨go, oc, rfl, _, _, _, _⟩ := own_form h.opn (by
    rcases Nat.eq_zero_or_pos opn.length with e | e
    · rw [List.length_eq_zero_iff.1 e] at hopn; simp at hopn
    · exact e)
  have hc := h.c0
  have hci := h.c1
  obtain ⟨X, hX⟩ : ∃ X, X = str hd.name := ⟨_, rfl⟩
  obtain ⟨Y, hY⟩ : ∃ Y, Y = str hd.text := ⟨_, rfl⟩
  rw [← hX, ← hY]
  have HH := hide h
  have HAT := hide ha
  have HAV : Hid (av.oneCell' = true) := hide (attrsC_one ha)
  have HXY : Hid (X = str hd.name ∧ Y = str hd.text) := hide ⟨hX, hY⟩
  have HP := hide hp
  have HO := hide hopn
  have HL := hide hl
  obtain ⟨avA, avc, rfl⟩ := ha.1.form
  clear h ha hX hY hp hopn
  obtain ⟨W, hW⟩ : ∃ W, W = w.alloc (Obj.cells #[.string X, .slice avA hd.attrs.length avc, .string Y, .slice none 0 0] 33) := ⟨_, rfl⟩
  have hbW : Below w.heap.size w W := by rw [hW]; exact below_one w _
  have HW := hide hW
  have HHW := hide (HH.out.kept hbW)
  have hnd : W.heap[w.heap.size]? = some (Obj.cells #[.string X, .slice avA hd.attrs.length avc, .string Y, .slice none 0 0] 33 (0, 0)) := by rw [hW]; exact heap_alloc_new w _
  have hsz : W.heap.size = w.heap.size + 1 := by rw [hW]; exact World.size_alloc _ _
  have c0 := HHW.out.c0
  have c0a : ∀ ob, (W.alloc ob).cell? ⟨b, 0, none⟩ = some (.slice rA l.length rc) := fun ob => (HHW.out.kept (below_one W ob)).c0
  have n0 : W.cell? ⟨w.heap.size, 0, none⟩ = some (.string X) := (Lib.cell_of_heap hnd 0).trans rfl
  have n1 : W.cell? ⟨w.heap.size, 1, none⟩ = some (.slice avA hd.attrs.length avc) := (Lib.cell_of_heap hnd 1).trans rfl
  have n2 : W.cell? ⟨w.heap.size, 2, none⟩ = some (.string Y) := (Lib.cell_of_heap hnd 2).trans rfl
  have n3 : W.cell? ⟨w.heap.size, 3, none⟩ = some (.slice none 0 0) := (Lib.cell_of_heap hnd 3).trans rfl
  have HOWN : Hid (∀ w', Below W.heap.size W w' → w'.ownsRow B 65 5 (.slice rA l.length rc) l.length (arVals l)) := hide fun w' hb => (HHW.out.kept hb).row
  have HAT2 : Hid (∀ w', Below W.heap.size W w' → AttrsC (fun g => g < B) w' (.slice avA hd.attrs.length avc) hd.attrs) := hide fun w' hb => HAT.out.mono (fun g hg => (((hbW.trans (hb.mono hbW.size)).block g (Nat.lt_of_lt_of_le hg HH.out.size)))) (fun _ x => x)
  have HTW := hide (TokS.below hbW)
  clear hbW hnd hW hsz
  go_enter Tryz.func93, Tryz.ntmps93
  go_wp2_with fail
  rw [← HW.out]
  go_region_law (first
    | (refine step_arNode rfl _ _ rfl B (.slice rA l.length rc) l rfl (HOWN.out _ ?_) ?_ ⟨W.heap.size, 0, none⟩ rfl ⟨hd, .slice avA hd.attrs.length avc, [], .slice none 0 0⟩ ?_ (ar_row _ _ _ _ _ _).2.1 ?_ (ar_row _ _ _ _ _ _).2.2.2.1 (ar_row _ _ _ _ _ _).2.2.2.2 rfl rfl (by have := HL.out; omega) ?_
       · exact ((Below.refl _ _).alloc (Nat.le_refl _) _).drew
       · exact Nat.le_trans HHW.out.size (((Below.refl W.heap.size W).alloc (Nat.le_refl _) _).drew).size
       · rw [← HXY.out.1]; exact (ar_row _ _ _ _ _ _).1
       · rw [← HXY.out.2]; exact (ar_row _ _ _ _ _ _).2.2.1
       intro v' w2 ho2 hg2 hor2
       obtain ⟨rA2, rc2, rfl, _, _⟩ := own_slice ho2
       have HBV := hide (HHW.out.kept (((Below.refl W.heap.size W).alloc (Nat.le_refl _) (.cells #[.string X, .slice avA hd.attrs.length avc, .string Y, .slice none 0 0, .slice none 0 0] 65)).drew))
       obtain ⟨m0, m1, m2, m3⟩ := HBV.out.after HBV.out.row (by decide) hg2
       have HO2 := hide ho2
       have HG2 := hide hg2
       have HOR := hide hor2
       clear ho2 hg2 hor2 m0))
  all_goals
    have h3 := HBV.out.pushNode HO2.out HG2.out (HAT2.out _ (((Below.refl W.heap.size W).alloc (Nat.le_refl _) _).drew))
    obtain ⟨g2, c2, hv2, q1, q2, q3, q4⟩ := own_form HO2.out (Nat.succ_pos _)
    injection hv2 with hv2 _ hv3
    subst hv2 hv3
    have hp3 : (l ++ [(⟨hd, .slice avA hd.attrs.length avc, [], .slice none 0 0⟩ : ArV)])[a]? = some p := by rw [List.getElem?_append_left hal]; exact HP.out
    obtain ⟨V, hV⟩ : ∃ V, V = w2.setCell ⟨b, 0, none⟩ (.slice (some ⟨g2, 0, none⟩) (l.length + 1) rc2) := ⟨_, rfl⟩
    have hts : TokS w V := by
      rw [hV]
      refine (HTW.out.trans ((TokS.below (((Below.refl W.heap.size W).alloc (Nat.le_refl _) _).drew)).trans (TokS.own HBV.out.row HG2.out (by decide)))).store (fun cur => hole_block HH.out.blk cur _ (by decide))
    have HTS := hide hts
    clear hts
    rw [← hV] at h3 ⊢
    have HP3 := hide hp3
    have H3 := hide h3
    obtain ⟨kA, kc, hkv, _, _⟩ := own_slice (h3.kids a p hp3)
    have d0 := h3.c0
    have d1 := h3.c1
    obtain ⟨_, _, _, _, d4, d5⟩ := h3.node hp3
    rw [hkv] at d4
    have d6 := own_int h3.opn HO.out rfl
    have d0a : ∀ ob, (V.alloc ob).cell? ⟨b, 0, none⟩ = some (.slice (some ⟨g2, 0, none⟩) (l.length + 1) rc2) := fun ob => (H3.out.kept (below_one V ob)).c0
    have d4a : ∀ ob, (V.alloc ob).cell? ⟨g2, a * 5 + 4, none⟩ = some (.slice kA p.ks.length kc) := fun ob => by rw [← hkv]; exact ((H3.out.kept (below_one V ob)).node HP3.out).2.2.2.2.1
    obtain ⟨n, hn⟩ : ∃ n, n = opn.length := ⟨_, rfl⟩
    have hn0 : 0 < n := by
      rw [hn]
      rcases Nat.eq_zero_or_pos opn.length with e | e
      · have h9 := HO.out; rw [List.length_eq_zero_iff.1 e] at h9; simp at h9
      · exact e
    rw [← hn] at d1 d6
    have e1 : ((n : Int) - 1).toNat = n - 1 := by omega
    have e2 : wrap64 ((n : Int) - 1) = (n : Int) - 1 := by unfold wrap64; omega
    have e3 : (0 : Int) ≤ (n : Int) - 1 := by clear e2; omega
    have e4 : (n : Int) - 1 < (n : Int) := by clear e2; omega
    have e5 : wrap64 (l.length : Int) = (l.length : Int) := by unfold wrap64; omega
    have e6 : (a : Int) < (l.length : Int) + 1 := by clear e2 e5; omega
    have HKV := hide hkv
    have HOW2 : Hid (∀ w', Below V.heap.size V w' → w'.ownsRow B 3 1 (.slice kA p.ks.length kc) p.ks.length (intVals p.ks)) := hide fun w' hb => by
      have := (H3.out.kept hb).kids a p HP3.out
      rw [HKV.out] at this; exact this
    have HK := hide hk
    clear m1 m2 m3 c0 c0a n0 n1 n2 n3 hc hci hV h3 hp3 hkv q1 q2 q3 q4 hn hal ho hl hk
    go_wp2_with fail
    go_region
    go_wp2_with fail
    go_region_law (first
      | (refine step_arInt rfl _ _ rfl B (.slice kA p.ks.length kc) p.ks rfl (HOW2.out _ ?_) ?_ ⟨V.heap.size, 0, none⟩ rfl l.length ?_ (by have := HK.out; omega) ?_
         · exact (((Below.refl _ _).alloc (Nat.le_refl _) _).drew).drew
         · exact Nat.le_trans H3.out.size (((Below.refl V.heap.size V).alloc (Nat.le_refl _) _).drew).size
         · exact (Lib.cell_of_heap (heap_alloc_new V _) 0).trans rfl
         intro v' w4 ho4 hg4 hor4
         obtain ⟨kA2, kc2, rfl, _, _⟩ := own_slice ho4
         have HBV2 := hide (H3.out.kept ((((Below.refl V.heap.size V).alloc (Nat.le_refl _) (.cells #[.int .i64 (l.length : Int)] 3)).drew).drew))
         have hkr := HBV2.out.kids a p HP3.out
         rw [← HKV.out] at hg4 hor4
         obtain ⟨m0, m1, m2, m3⟩ := HBV2.out.after hkr (by decide) hg4
         obtain ⟨m4, m5⟩ := HBV2.out.afterKids hkr hg4 HP3.out
         rw [HKV.out] at m4
         have HO4 := hide ho4
         have HG4 := hide hg4
         have HOR4 := hide hor4
         clear ho4 hg4 hor4 m0 hkr))
    all_goals
      have h5 := HBV2.out.pushKid HP3.out HG4.out HO4.out HOR4.out
      have H5 := hide h5
      have HT5 := hide (HTS.out.trans (((TokS.below ((((Below.refl V.heap.size V).alloc (Nat.le_refl _) (.cells #[.int .i64 (l.length : Int)] 3)).drew).drew)).trans (TokS.own (HBV2.out.kids a p HP3.out) HG4.out (by decide))).store (b := g2) (i := a * 5 + 4) (u := .slice kA2 (p.ks.length + 1) kc2) (fun cur => H3.out.rowHole cur (by decide))))
      clear h5
      go_wp2_with fail
      go_ret
      exact ⟨rfl, HT5.out, _, _, H5.out, arL_put HP.out⟩
end Go.Proofs.YtiejmkjpgjbodaaGreatDoor
