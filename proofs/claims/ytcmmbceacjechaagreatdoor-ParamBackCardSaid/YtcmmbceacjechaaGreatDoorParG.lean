/- WALKS of param.ways and value. No statement is proved here. -/
import Derived.Test.YtcmmbceacjechaaGreatDoorParF
import Derived.Laws.EntriesVeiled
namespace Go.Proofs.YtcmmbceacjechaaGreatDoor
open Go.RowKit
set_option linter.unusedVariables false
set_option linter.unusedSimpArgs false
set_option maxRecDepth 100000
def wayCells : Array Value := #[.func (.func 136) #[] #[], .func (.func 137) #[] #[], .func (.func 138) #[] #[]]
theorem ways_any (w : World) : Calls Tryz.prog 94 #[] w fun e w' => e = .returned (.slice (some ⟨w.heap.size, 0, none⟩) 3 3) ∧ w' = w.alloc (.cells wayCells 107) := by
  go_enter Tryz.func94, Tryz.ntmps94
  go_wp2_with fail
  go_ret
  exact ⟨rfl, rfl⟩
/-- a name's value in all ways -/
def valL (f : ValF) (name : List UInt8) (N : Nat) : Option (List UInt8) :=
  match exL f name with
  | some x => some x
  | none => if 0 < N then some (coV f name N).1 else if (siL f name).2 = true then some (siL f name).1 else none
/-- what is asked of a name's sections -/
structure SecOK (f : ValF) (name : List UInt8) (N : Nat) : Prop where
  le : N ≤ 1000000
  no : secL f name N = none
  yes : ∀ n, n < N → secL f name n ≠ none
  sz : ∀ n, n ≤ N → (coAt f name n).1.length ≤ 1048576 ∧ (coAt f name n).2.length ≤ 1048576
set_option maxHeartbeats 8000000 in
theorem value07_any (ns : Value) (bm c : Nat) (f : ValF) (name : ByteArray) (w : World) (hM : TMap w bm c f) (hE : EnvP w) (hz : name.size ≤ 1048576) (hf : ∀ k x, f k = some x → x.length ≤ 1048576) (A : Option Addr) (l cp : Nat) (hns : ns = .slice A l cp)
    (N : Nat) (hS : SecOK f name.data.toList N) :
    Calls Tryz.prog 50 #[.agg #[ns, .map (some bm)], .string name] w fun e w' => e = .returned (optV (valL f name.data.toList N)) ∧ Below w.heap.size w w' := by
  subst hns
  obtain ⟨W, hW⟩ : ∃ W, W = (w.alloc (.cells #[.slice A l cp, .map (some bm)] 60)).alloc (.cells wayCells 107) := ⟨_, rfl⟩
  have hz1 : (w.alloc (.cells #[.slice A l cp, .map (some bm)] 60)).heap.size = w.heap.size + 1 := World.size_alloc ..
  have hWz : W.heap.size = w.heap.size + 2 := by rw [hW, World.size_alloc, hz1]
  have hWb : Below w.heap.size w W := by rw [hW]; exact ((Below.refl _ w).alloc (Nat.le_refl _) _).alloc (by rw [hz1]; omega) _
  have d0 : W.cell? ⟨w.heap.size, 0, none⟩ = some (.slice A l cp) := by rw [hW, World.cell?_alloc_past _ _ _ (by rw [hz1]; exact Nat.lt_succ_self _), World.cell?_alloc_at _ _ _ _ rfl]; rfl
  have d1 : W.cell? ⟨w.heap.size, 1, none⟩ = some (.map (some bm)) := by rw [hW, World.cell?_alloc_past _ _ _ (by rw [hz1]; exact Nat.lt_succ_self _), World.cell?_alloc_at _ _ _ _ rfl]; rfl
  have r0 : ∀ i : Nat, W.cell? ⟨w.heap.size + 1, i, none⟩ = wayCells[i]? := fun i => by rw [hW, World.cell?_alloc_at _ _ _ _ hz1.symm]
  have HMW := hide (hM.kept hWb)
  have HEW := hide (hE.kept hWb)
  have HEXT := hide (fun (w : World) (h1 : TMap w bm c f) (h2 : EnvP w) => extended07_any (.slice A l cp) bm c f name w h1 h2 hz hf A l cp rfl)
  have HCON := hide (fun (w : World) (h1 : TMap w bm c f) (h2 : EnvP w) => continued_any (.slice A l cp) bm c f name w h1 h2 hz hf A l cp rfl N hS.le hS.no hS.yes hS.sz)
  have HSIM := hide (fun (w : World) (h1 : TMap w bm c f) (h2 : EnvP w) => simple07_any (.slice A l cp) bm c f name w h1 h2 hz hf A l cp rfl)
  have HD := hide (And.intro d0 (And.intro d1 r0))
  have HWB := hide hWb
  have HWZ := hide hWz
  have HW := hide hW
  clear hM hE hf hS d0 d1 r0 hWb hWz
  go_enter Tryz.func50, Tryz.ntmps50
  go_wp2_with (go_at_call 94; refine (ways_any _).mono ?_; rintro e w1 ⟨rfl, rfl⟩; rw [← hW])
  clear hW
  go_loopw [12] (fun iv wr => ((iv = .int .i64 0) ∨ (iv = .int .i64 1 ∧ Hid (exL f name.data.toList = none)) ∨ (iv = .int .i64 2 ∧ Hid (exL f name.data.toList = none ∧ ¬ 0 < N)) ∨ (iv = .int .i64 3 ∧ Hid (exL f name.data.toList = none ∧ ¬ 0 < N ∧ (siL f name.data.toList).2 = false))) ∧ Hid (Below W.heap.size W wr)) (fun iv _ => 3 - (intOf iv).toNat)
  case atStart => exact ⟨.inl rfl, hide (by rw [← HW.out]; exact Below.refl _ _)⟩
  case round =>
    obtain ⟨hcase, HB⟩ := hrel
    have hBw := HB.out
    have c0 := (hBw.cell (p := ⟨w.heap.size, 0, none⟩) (show w.heap.size < W.heap.size by rw [HWZ.out]; omega)).trans HD.out.1
    have c1 := (hBw.cell (p := ⟨w.heap.size, 1, none⟩) (show w.heap.size < W.heap.size by rw [HWZ.out]; omega)).trans HD.out.2.1
    have rr : ∀ i : Nat, wr.cell? ⟨w.heap.size + 1, i, none⟩ = wayCells[i]? := fun i => (hBw.cell (p := ⟨w.heap.size + 1, i, none⟩) (show w.heap.size + 1 < W.heap.size by rw [HWZ.out]; omega)).trans (HD.out.2.2 i)
    have e0 : wr.cell? ⟨w.heap.size + 1, 0, none⟩ = some (.func (.func 136) #[] #[]) := rr 0
    have e1 : wr.cell? ⟨w.heap.size + 1, 1, none⟩ = some (.func (.func 137) #[] #[]) := rr 1
    have e2 : wr.cell? ⟨w.heap.size + 1, 2, none⟩ = some (.func (.func 138) #[] #[]) := rr 2
    have hwl : w.heap.size + 1 < wr.heap.size := Nat.lt_of_lt_of_le (by rw [HWZ.out]; omega) hBw.size
    have hwl0 : w.heap.size < wr.heap.size := Nat.lt_of_succ_lt hwl
    have HBA : Hid (∀ o, Below W.heap.size W (wr.alloc o)) := hide (fun o => hBw.alloc hBw.size o)
    clear rr hBw
    rcases hcase with rfl | ⟨rfl, H1⟩ | ⟨rfl, H2⟩ | ⟨rfl, H3⟩
    · cases hx : exL f name.data.toList with
      | some x =>
        obtain ⟨R, hR⟩ : ∃ R, R = str x := ⟨_, rfl⟩
        rw [hx] at HEXT
        simp only [optV] at HEXT
        rw [← hR] at HEXT
        have HV : Hid (optV (valL f name.data.toList N) = .tuple #[.string R, .bool true]) := hide (by unfold valL; rw [hx, hR]; rfl)
        clear hx hR
        go_wp2_with (go_at_call 136; refine (HEXT.out _ (HMW.out.kept (HBA.out _)) (HEW.out.kept (HBA.out _))).mono ?_; rintro e w2 ⟨rfl, hb2⟩; have HB2 := hide ((HBA.out _).trans (hb2.mono (HBA.out _).size)); clear hb2)
        go_ret2
        exact ⟨by rw [HV.out] <;> rfl, HWB.out.trans (HB2.out.mono HWB.out.size)⟩
      | none =>
        rw [hx] at HEXT
        simp only [optV] at HEXT
        have HX := hide hx
        clear hx
        go_wp2_with (go_at_call 136; refine (HEXT.out _ (HMW.out.kept (HBA.out _)) (HEW.out.kept (HBA.out _))).mono ?_; rintro e w2 ⟨rfl, hb2⟩; have HB2 := hide ((HBA.out _).trans (hb2.mono (HBA.out _).size)); clear hb2)
        go_roundw
        case rel => exact ⟨.inr (.inl ⟨rfl, by first | exact HX | exact hide trivial⟩), HB2⟩
        case measure => simp [intOf]
    · by_cases hn : 0 < N
      · obtain ⟨R, hR⟩ : ∃ R, R = str (coV f name.data.toList N).1 := ⟨_, rfl⟩
        rw [← hR, show (coV f name.data.toList N).2 = true from decide_eq_true hn] at HCON
        have HV : Hid (optV (valL f name.data.toList N) = .tuple #[.string R, .bool true]) := hide (by unfold valL; rw [H1.out, hR]; simp only; rw [if_pos hn]; rfl)
        clear hR
        go_wp2_with (go_at_call 137; refine (HCON.out _ (HMW.out.kept (HBA.out _)) (HEW.out.kept (HBA.out _))).mono ?_; rintro e w2 ⟨rfl, hb2⟩; have HB2 := hide ((HBA.out _).trans (hb2.mono (HBA.out _).size)); clear hb2)
        go_ret2
        exact ⟨by rw [HV.out] <;> rfl, HWB.out.trans (HB2.out.mono HWB.out.size)⟩
      · obtain ⟨R, hR⟩ : ∃ R, R = str (coV f name.data.toList N).1 := ⟨_, rfl⟩
        rw [← hR, show (coV f name.data.toList N).2 = false from decide_eq_false hn] at HCON
        have HX := hide (And.intro H1.out hn)
        clear hR hn
        go_wp2_with (go_at_call 137; refine (HCON.out _ (HMW.out.kept (HBA.out _)) (HEW.out.kept (HBA.out _))).mono ?_; rintro e w2 ⟨rfl, hb2⟩; have HB2 := hide ((HBA.out _).trans (hb2.mono (HBA.out _).size)); clear hb2)
        go_roundw
        case rel => exact ⟨.inr (.inr (.inl ⟨rfl, HX⟩)), HB2⟩
        case measure => simp [intOf]
    · obtain ⟨R, hR⟩ : ∃ R, R = str (siL f name.data.toList).1 := ⟨_, rfl⟩
      rw [← hR] at HSIM
      cases hx : (siL f name.data.toList).2 with
      | true =>
        rw [hx] at HSIM
        have HV : Hid (optV (valL f name.data.toList N) = .tuple #[.string R, .bool true]) := hide (by unfold valL; rw [H2.out.1, hR]; simp only; rw [if_neg H2.out.2, if_pos hx]; rfl)
        clear hR hx
        go_wp2_with (go_at_call 138; refine (HSIM.out _ (HMW.out.kept (HBA.out _)) (HEW.out.kept (HBA.out _))).mono ?_; rintro e w2 ⟨rfl, hb2⟩; have HB2 := hide ((HBA.out _).trans (hb2.mono (HBA.out _).size)); clear hb2)
        go_ret2
        exact ⟨by rw [HV.out] <;> rfl, HWB.out.trans (HB2.out.mono HWB.out.size)⟩
      | false =>
        rw [hx] at HSIM
        have HX := hide (And.intro H2.out.1 (And.intro H2.out.2 hx))
        clear hR hx
        go_wp2_with (go_at_call 138; refine (HSIM.out _ (HMW.out.kept (HBA.out _)) (HEW.out.kept (HBA.out _))).mono ?_; rintro e w2 ⟨rfl, hb2⟩; have HB2 := hide ((HBA.out _).trans (hb2.mono (HBA.out _).size)); clear hb2)
        go_roundw
        case rel => exact ⟨.inr (.inr (.inr ⟨rfl, by first | exact HX | exact hide ⟨HX.out.1, HX.out.2.1, trivial⟩⟩)), HB2⟩
        case measure => simp [intOf]
    · have HV : Hid (optV (valL f name.data.toList N) = .tuple #[.string ⟨#[]⟩, .bool false]) := hide (by unfold valL; rw [H3.out.1]; simp only; rw [if_neg H3.out.2.1, if_neg (by rw [H3.out.2.2]; decide)]; rfl)
      go_wp2_with fail
      go_ret2
      exact ⟨by rw [HV.out] <;> rfl, HWB.out.trans (HB.out.mono HWB.out.size)⟩
end Go.Proofs.YtcmmbceacjechaaGreatDoor
