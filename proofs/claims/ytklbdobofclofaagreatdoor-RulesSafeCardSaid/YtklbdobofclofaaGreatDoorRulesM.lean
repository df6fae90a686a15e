/- WALK of rules' map of method values. No statement is proved here. Own work of the verifier. -/
import Derived.Test.YtklbdobofclofaaGreatDoorRulesG
import Derived.Test.YtklbdobofclofaaGreatDoorMapF
namespace Go.Proofs.YtklbdobofclofaaGreatDoor
open Go.RowKit
set_option linter.unusedVariables false
set_option linter.unusedSimpArgs false
set_option maxRecDepth 100000
/-- what the map holds -/
def judF (gv : Value) : List UInt8 → Option Value :=
  (putF (putF (putF (putF (putF (putF (putF (putF (putF (putF (putF (fun _ => none) [104, 114, 101, 102] (.func (.func 32) #[gv] #[])) [115, 114, 99] (.func (.func 33) #[gv] #[])) [115, 116, 121, 108, 101] (.func (.func 34) #[gv] #[])) [119, 105, 100, 116, 104] (.func (.func 35) #[gv] #[])) [104, 101, 105, 103, 104, 116] (.func (.func 35) #[gv] #[])) [115, 116, 97, 114, 116] (.func (.func 35) #[gv] #[])) [118, 97, 108, 117, 101] (.func (.func 35) #[gv] #[])) [100, 105, 114] (.func (.func 36) #[gv] #[])) [108, 97, 110, 103] (.func (.func 37) #[gv] #[])) [116, 105, 116, 108, 101] (.func (.func 38) #[gv] #[])) [97, 108, 116] (.func (.func 38) #[gv] #[]))
theorem judF_href (gv : Value) : judF gv [104, 114, 101, 102] = some (.func (.func 32) #[gv] #[]) := rfl
theorem judF_src (gv : Value) : judF gv [115, 114, 99] = some (.func (.func 33) #[gv] #[]) := rfl
theorem judF_style (gv : Value) : judF gv [115, 116, 121, 108, 101] = some (.func (.func 34) #[gv] #[]) := rfl
theorem judF_width (gv : Value) : judF gv [119, 105, 100, 116, 104] = some (.func (.func 35) #[gv] #[]) := rfl
theorem judF_height (gv : Value) : judF gv [104, 101, 105, 103, 104, 116] = some (.func (.func 35) #[gv] #[]) := rfl
theorem judF_start (gv : Value) : judF gv [115, 116, 97, 114, 116] = some (.func (.func 35) #[gv] #[]) := rfl
theorem judF_value (gv : Value) : judF gv [118, 97, 108, 117, 101] = some (.func (.func 35) #[gv] #[]) := rfl
theorem judF_dir (gv : Value) : judF gv [100, 105, 114] = some (.func (.func 36) #[gv] #[]) := rfl
theorem judF_lang (gv : Value) : judF gv [108, 97, 110, 103] = some (.func (.func 37) #[gv] #[]) := rfl
theorem judF_title (gv : Value) : judF gv [116, 105, 116, 108, 101] = some (.func (.func 38) #[gv] #[]) := rfl
theorem judF_alt (gv : Value) : judF gv [97, 108, 116] = some (.func (.func 38) #[gv] #[]) := rfl
theorem mapT_ty : Tryz.prog.underlying 44 = some (.map 9 43) := Tryz.underlying44
theorem zeroFn (w : World) : (zeroValue 43).run Tryz.prog w = .ok .nilFunc w := by kernel_rfl
theorem GBox.below {w w' : World} {b B : Nat} {r s q : Bool} {v : Value} (h : GBox w b r s q v) (hb : Below B w w') (hB : b < B) : GBox w' b r s q v := by
  obtain ⟨h0, h1, h2, h3⟩ := h
  exact ⟨(hb.cell (p := ⟨b, 0, none⟩) hB).trans h0, (hb.cell (p := ⟨b, 1, none⟩) hB).trans h1, (hb.cell (p := ⟨b, 2, none⟩) hB).trans h2, (hb.cell (p := ⟨b, 3, none⟩) hB).trans h3⟩
set_option maxHeartbeats 4000000 in
theorem judges_any (r s q : Bool) (A : Option Addr) (n cap : Nat) (w : World) :
    Calls Tryz.prog 22 #[.agg #[.bool r, .bool s, .bool q, .slice A n cap]] w fun e w' => e = .returned (.map (some (w.heap.size + 1))) ∧ FMap w' (w.heap.size + 1) 11 (judF (.agg #[.bool r, .bool s, .bool q, .slice A n cap])) ∧ Below w.heap.size w w' := by
  have hmf : ∀ (fn : Fn) (first cap : Array Value) (w : World), (Instr.makeFunc fn first cap).run Tryz.prog w = .ok (.func fn first cap) w := fun _ _ _ _ => rfl
  have hmm := @run_makeMap Tryz.prog
  obtain ⟨gv, hgv⟩ : ∃ gv : Value, gv = .agg #[.bool r, .bool s, .bool q, .slice A n cap] := ⟨_, rfl⟩
  obtain ⟨W0, hW0⟩ : ∃ W0, W0 = (w.alloc (.cells #[.bool r, .bool s, .bool q, .slice A n cap] 42)).alloc (.map #[] 0) := ⟨_, rfl⟩
  have F0 := FMap.made (w.alloc (.cells #[.bool r, .bool s, .bool q, .slice A n cap] 42))
  have hz : (w.alloc (.cells #[.bool r, .bool s, .bool q, .slice A n cap] 42)).heap.size = w.heap.size + 1 := World.size_alloc _ _
  rw [hz, ← hW0] at F0
  have B0 : Below w.heap.size w W0 := by rw [hW0]; exact ((Below.refl _ _).alloc (Nat.le_refl _) _).alloc (by rw [hz]; omega) _
  have G0 : GBox W0 w.heap.size r s q (.slice A n cap) := by
    rw [hW0]
    refine (GBox.new w r s q (.slice A n cap) 42).below (B := w.heap.size + 1) ?_ (Nat.lt_succ_self _)
    rw [← hz]
    exact (Below.refl _ _).alloc (Nat.le_refl _) _
  obtain ⟨W1, hr1, F1, T1⟩ := F0.put mapT_ty (by decide) ⟨#[104, 114, 101, 102]⟩ (.func (.func 32) #[gv] #[]) (by decide)
  have B1 := B0.trans (T1.2.2 w.heap.size (by omega))
  have G1 := G0.below (T1.2.2 (w.heap.size + 1) (Nat.le_refl _)) (Nat.lt_succ_self _)
  obtain ⟨W2, hr2, F2, T2⟩ := F1.put mapT_ty (by decide) ⟨#[115, 114, 99]⟩ (.func (.func 33) #[gv] #[]) (by decide)
  have B2 := B1.trans (T2.2.2 w.heap.size (by omega))
  have G2 := G1.below (T2.2.2 (w.heap.size + 1) (Nat.le_refl _)) (Nat.lt_succ_self _)
  obtain ⟨W3, hr3, F3, T3⟩ := F2.put mapT_ty (by decide) ⟨#[115, 116, 121, 108, 101]⟩ (.func (.func 34) #[gv] #[]) (by decide)
  have B3 := B2.trans (T3.2.2 w.heap.size (by omega))
  have G3 := G2.below (T3.2.2 (w.heap.size + 1) (Nat.le_refl _)) (Nat.lt_succ_self _)
  obtain ⟨W4, hr4, F4, T4⟩ := F3.put mapT_ty (by decide) ⟨#[119, 105, 100, 116, 104]⟩ (.func (.func 35) #[gv] #[]) (by decide)
  have B4 := B3.trans (T4.2.2 w.heap.size (by omega))
  have G4 := G3.below (T4.2.2 (w.heap.size + 1) (Nat.le_refl _)) (Nat.lt_succ_self _)
  obtain ⟨W5, hr5, F5, T5⟩ := F4.put mapT_ty (by decide) ⟨#[104, 101, 105, 103, 104, 116]⟩ (.func (.func 35) #[gv] #[]) (by decide)
  have B5 := B4.trans (T5.2.2 w.heap.size (by omega))
  have G5 := G4.below (T5.2.2 (w.heap.size + 1) (Nat.le_refl _)) (Nat.lt_succ_self _)
  obtain ⟨W6, hr6, F6, T6⟩ := F5.put mapT_ty (by decide) ⟨#[115, 116, 97, 114, 116]⟩ (.func (.func 35) #[gv] #[]) (by decide)
  have B6 := B5.trans (T6.2.2 w.heap.size (by omega))
  have G6 := G5.below (T6.2.2 (w.heap.size + 1) (Nat.le_refl _)) (Nat.lt_succ_self _)
  obtain ⟨W7, hr7, F7, T7⟩ := F6.put mapT_ty (by decide) ⟨#[118, 97, 108, 117, 101]⟩ (.func (.func 35) #[gv] #[]) (by decide)
  have B7 := B6.trans (T7.2.2 w.heap.size (by omega))
  have G7 := G6.below (T7.2.2 (w.heap.size + 1) (Nat.le_refl _)) (Nat.lt_succ_self _)
  obtain ⟨W8, hr8, F8, T8⟩ := F7.put mapT_ty (by decide) ⟨#[100, 105, 114]⟩ (.func (.func 36) #[gv] #[]) (by decide)
  have B8 := B7.trans (T8.2.2 w.heap.size (by omega))
  have G8 := G7.below (T8.2.2 (w.heap.size + 1) (Nat.le_refl _)) (Nat.lt_succ_self _)
  obtain ⟨W9, hr9, F9, T9⟩ := F8.put mapT_ty (by decide) ⟨#[108, 97, 110, 103]⟩ (.func (.func 37) #[gv] #[]) (by decide)
  have B9 := B8.trans (T9.2.2 w.heap.size (by omega))
  have G9 := G8.below (T9.2.2 (w.heap.size + 1) (Nat.le_refl _)) (Nat.lt_succ_self _)
  obtain ⟨W10, hr10, F10, T10⟩ := F9.put mapT_ty (by decide) ⟨#[116, 105, 116, 108, 101]⟩ (.func (.func 38) #[gv] #[]) (by decide)
  have B10 := B9.trans (T10.2.2 w.heap.size (by omega))
  have G10 := G9.below (T10.2.2 (w.heap.size + 1) (Nat.le_refl _)) (Nat.lt_succ_self _)
  obtain ⟨W11, hr11, F11, T11⟩ := F10.put mapT_ty (by decide) ⟨#[97, 108, 116]⟩ (.func (.func 38) #[gv] #[]) (by decide)
  have B11 := B10.trans (T11.2.2 w.heap.size (by omega))
  have G11 := G10.below (T11.2.2 (w.heap.size + 1) (Nat.le_refl _)) (Nat.lt_succ_self _)
  have HF : Hid (FMap W11 (w.heap.size + 1) 11 (judF gv)) := hide F11
  have HB := hide B11
  obtain ⟨c0a, c0b, c0c, c0d⟩ := G0
  obtain ⟨c1a, c1b, c1c, c1d⟩ := G1
  obtain ⟨c2a, c2b, c2c, c2d⟩ := G2
  obtain ⟨c3a, c3b, c3c, c3d⟩ := G3
  obtain ⟨c4a, c4b, c4c, c4d⟩ := G4
  obtain ⟨c5a, c5b, c5c, c5d⟩ := G5
  obtain ⟨c6a, c6b, c6c, c6d⟩ := G6
  obtain ⟨c7a, c7b, c7c, c7d⟩ := G7
  obtain ⟨c8a, c8b, c8c, c8d⟩ := G8
  obtain ⟨c9a, c9b, c9c, c9d⟩ := G9
  obtain ⟨c10a, c10b, c10c, c10d⟩ := G10
  clear F0 F1 F2 F3 F4 F5 F6 F7 F8 F9 F10 F11 B0 B1 B2 B3 B4 B5 B6 B7 B8 B9 B10 B11 T1 T2 T3 T4 T5 T6 T7 T8 T9 T10 T11 G11
  rw [hgv] at HF
  rw [hgv] at hr1 hr2 hr3 hr4 hr5 hr6 hr7 hr8 hr9 hr10 hr11
  rw [hW0] at hr1 c0a c0b c0c c0d
  clear hgv hW0 hz
  go_enter Tryz.func22, Tryz.ntmps22
  go_wp2_with fail
  go_ret
  exact ⟨rfl, HF.out, HB.out⟩
theorem judgesE_any (r s q : Bool) (A : Option Addr) (n cap : Nat) (w : World) :
    Calls Tryz.prog 22 #[.agg #[.bool r, .bool s, .bool q, .slice A n cap]] w fun e w' => ∃ b, e = .returned (.map (some b)) ∧ FMap w' b 11 (judF (.agg #[.bool r, .bool s, .bool q, .slice A n cap])) ∧ Below w.heap.size w w' :=
  (judges_any r s q A n cap w).mono fun _ _ ⟨h1, h2, h3⟩ => ⟨_, h1, h2, h3⟩
end Go.Proofs.YtklbdobofclofaaGreatDoor
