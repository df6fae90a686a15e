/- WALKS of the ways to write a value: param.section, extended, continued, simple; ways; value. No statement is proved here. -/
import Derived.Test.YtcmmbceacjechaaGreatDoorParC
import Derived.Test.YtcmmbceacjechaaGreatDoorMapT
import Derived.Test.YtcmmbceacjechaaGreatDoorCharsD
import Derived.Test.YtcmmbceacjechaaGreatDoorKM
import Derived.Lib.LaidTab
import Derived.Lib.ItoaLen
namespace Go.Proofs.YtcmmbceacjechaaGreatDoor
open Go.RowKit
set_option linter.unusedVariables false
set_option linter.unusedSimpArgs false
set_option maxRecDepth 100000
/-- what package param asks of the world -/
def EnvP (w : World) : Prop := Tab w ∧ (∃ m : Int, w.cell? ⟨0, 0, none⟩ = some (.int .i64 m)) ∧ Lib.TabIs Tryz.prog w "internal/strconv.uint64pow10" .u64 Lib.pow10Tab
theorem tabIs_kept {w w' : World} {n : String} {k : IntKind} {zs : List Int} (h : Lib.TabIs Tryz.prog w n k zs) (hb : Below w.heap.size w w') : Lib.TabIs Tryz.prog w' n k zs := by
  unfold Lib.TabIs World.var? at h ⊢
  cases hg : Tryz.prog.globalNamed n with
  | none => rw [hg] at h; exact h
  | some g =>
    rw [hg] at h
    simp only [Option.bind_eq_bind, Option.bind_some] at h ⊢
    have hl : g < w.heap.size := by
      rcases Nat.lt_or_ge g w.heap.size with h1 | h1
      · exact h1
      · rw [Array.getElem?_eq_none h1] at h; simp at h
    rw [hb.block g hl]; exact h
theorem EnvP.kept {w w' : World} (h : EnvP w) (hb : Below w.heap.size w w') : EnvP w' := by
  obtain ⟨h1, ⟨m, h2⟩, h3⟩ := h
  exact ⟨h1.below hb h1.lt, ⟨m, (hb.cell (p := ⟨0, 0, none⟩) (World.block_lt_of_cell? _ _ h2)).trans h2⟩, tabIs_kept h3 hb⟩
theorem grown_below (w : World) (q : Nat) (os : Array Obj) : Below w.heap.size w (Go.Sort.grow (w.drewN q) os) :=
  ⟨rfl, rfl, rfl, by simp [Go.Sort.grow], fun i hi => by
    show (w.heap ++ os)[i]? = w.heap[i]?
    rw [Array.getElem?_append_left hi]⟩
theorem itoaP_any (n : Nat) (hn : n ≤ 1000000) (w : World) (hE : EnvP w) : Calls Tryz.prog 219 #[.int .i64 (n : Int)] w fun e w' => e = .returned (.string (str (Lib.itoa (n : Int)))) ∧ Below w.heap.size w w' :=
  (Tryz.strconv_Itoa (n : Int) (by omega) (by omega) w hE.2.2).mono fun e w' ⟨he, k, os, hw⟩ => ⟨he, by rw [hw]; exact grown_below _ _ _⟩
/-- the number of a section, as text -/
def numP (n : Nat) : List UInt8 := Lib.itoa (n : Int)
abbrev ValF := List UInt8 → Option (List UInt8)
/-- the section of a number: what it says, whether it is starred -/
def secL (f : ValF) (name : List UInt8) (n : Nat) : Option (List UInt8 × Bool) :=
  match f (name ++ 42 :: numP n ++ [42]) with
  | some x => some (x, true)
  | none => match f (name ++ 42 :: numP n) with
    | some x => some (x, false)
    | none => none
def secV : Option (List UInt8 × Bool) → Value
  | some (x, b) => .tuple #[.string (str x), .bool b, .bool true]
  | none => .tuple #[.string ⟨#[]⟩, .bool false, .bool false]
theorem numP_len (n : Nat) (hn : n ≤ 1000000) : (numP n).length ≤ 21 := Lib.itoa_length_le _ (by omega) (by omega)
/-- a map in a world behind a box of its own -/
theorem boxed_cell {w w' : World} {cs : Array Value} {t : TypeId} (hb : Below (w.alloc (.cells cs t)).heap.size (w.alloc (.cells cs t)) w') (i : Nat) : w'.cell? ⟨w.heap.size, i, none⟩ = cs[i]? := by
  have hz : (w.alloc (.cells cs t)).heap.size = w.heap.size + 1 := World.size_alloc ..
  rw [hb.cell (p := ⟨w.heap.size, i, none⟩) (by rw [hz]; exact Nat.lt_succ_self _)]
  exact World.cell?_alloc_at _ _ _ _ rfl
theorem boxed_below {w w' : World} {o : Obj} (hb : Below (w.alloc o).heap.size (w.alloc o) w') : Below w.heap.size w w' := by
  have hz : (w.alloc o).heap.size = w.heap.size + 1 := World.size_alloc ..
  exact ((Below.refl _ w).alloc (Nat.le_refl _) o).trans (hb.mono (by rw [hz]; omega))
theorem some_look {f : ValF} {k : List UInt8} {x : List UInt8} (h : f k = some x) : str ((f k).getD []) = str x ∧ (f k).isSome = true := by rw [h]; exact ⟨rfl, rfl⟩
theorem none_look {f : ValF} {k : List UInt8} (h : f k = none) : str ((f k).getD []) = ⟨#[]⟩ ∧ (f k).isSome = false := by rw [h]; exact ⟨rfl, rfl⟩
set_option maxHeartbeats 4000000 in
theorem section_any (ns : Value) (bm c n : Nat) (f : ValF) (name : ByteArray) (w : World) (hM : TMap w bm c f) (hE : EnvP w) (hn : n ≤ 1000000) (hz : name.size ≤ 1048576) (A : Option Addr) (l cp : Nat) (hns : ns = .slice A l cp) :
    Calls Tryz.prog 187 #[.agg #[ns, .map (some bm)], .string name, .int .i64 n] w fun e w' => e = .returned (secV (secL f name.data.toList n)) ∧ Below w.heap.size w w' := by
  subst hns
  obtain ⟨I, hI⟩ : ∃ I, I = str (numP n) := ⟨_, rfl⟩
  have hIz : I.size ≤ 21 := by rw [hI, str_size]; exact numP_len n hn
  have hE1 : EnvP (w.alloc (.cells #[.slice A l cp, .map (some bm)] 60)) := hE.kept ((Below.refl _ w).alloc (Nat.le_refl _) _)
  have HI := hide (itoaP_any n hn _ hE1)
  rw [show str (Lib.itoa (n : Int)) = I from hI.symm] at HI
  have e1 : (((name ++ ⟨#[42]⟩) ++ I) : ByteArray).data.toList = name.data.toList ++ 42 :: numP n := by rw [hI]; simp [str]
  have e2 : ((((name ++ ⟨#[42]⟩) ++ I) ++ ⟨#[42]⟩) : ByteArray).data.toList = name.data.toList ++ 42 :: numP n ++ [42] := by rw [hI]; simp [str]
  have z0 : (name ++ (⟨#[42]⟩ : ByteArray)).size = name.size + 1 := ByteArray.size_append
  have z1 : ((name ++ ⟨#[42]⟩) ++ I : ByteArray).size = name.size + 1 + I.size := by rw [ByteArray.size_append, z0]
  have z2 : (((name ++ ⟨#[42]⟩) ++ I) ++ ⟨#[42]⟩ : ByteArray).size = name.size + 1 + I.size + 1 := by rw [ByteArray.size_append, z1]; rfl
  have HL2 : Hid (∀ w', TMap w' bm c f → (Instr.lookup 58 (.map (some bm)) (.string ((((name ++ ⟨#[42]⟩) ++ I) ++ ⟨#[42]⟩))) true).run Tryz.prog w' = .ok (.tuple #[.string (str ((f (name.data.toList ++ 42 :: numP n ++ [42])).getD [])), .bool (f (name.data.toList ++ 42 :: numP n ++ [42])).isSome]) w') := hide (fun w' h => by
    have := h.look_ok ((((name ++ ⟨#[42]⟩) ++ I) ++ ⟨#[42]⟩)) (by rw [z2]; unfold maxLen; omega)
    rw [e2] at this; exact this)
  have HL1 : Hid (∀ w', TMap w' bm c f → (Instr.lookup 58 (.map (some bm)) (.string (((name ++ ⟨#[42]⟩) ++ I))) true).run Tryz.prog w' = .ok (.tuple #[.string (str ((f (name.data.toList ++ 42 :: numP n)).getD [])), .bool (f (name.data.toList ++ 42 :: numP n)).isSome]) w') := hide (fun w' h => by
    have := h.look_ok (((name ++ ⟨#[42]⟩) ++ I)) (by rw [z1]; unfold maxLen; omega)
    rw [e1] at this; exact this)
  have HM := hide (hM.kept ((Below.refl _ w).alloc (Nat.le_refl _) (.cells #[.slice A l cp, .map (some bm)] 60)))
  have hSE : secL f name.data.toList n = match f (name.data.toList ++ 42 :: numP n ++ [42]) with
    | some x => some (x, true)
    | none => match f (name.data.toList ++ 42 :: numP n) with
      | some x => some (x, false)
      | none => none := rfl
  generalize f (name.data.toList ++ 42 :: numP n ++ [42]) = o2 at HL2 hSE
  generalize f (name.data.toList ++ 42 :: numP n) = o1 at HL1 hSE
  have HSE := hide hSE
  clear hI hE hM e1 e2 hE1 hSE
  cases o2 with
  | some x =>
    obtain ⟨X, hX⟩ : ∃ X, X = str x := ⟨_, rfl⟩
    have HX : Hid (str ((some x).getD []) = X) := hide (by rw [hX]; rfl)
    have HV : Hid (secV (secL f name.data.toList n) = .tuple #[.string X, .bool true, .bool true]) := hide (by rw [HSE.out, hX]; rfl)
    clear hX
    go_enter Tryz.func187, Tryz.ntmps187
    go_wp2_with (go_at_call 219; refine HI.out.mono ?_; rintro e w1 ⟨rfl, hb1⟩; have HB1 := hide (boxed_below hb1); have c0 := boxed_cell hb1 0; have c1 := boxed_cell hb1 1; have hl2 := HL2.out _ (HM.out.kept hb1); rw [HX.out] at hl2; simp only [Option.isSome_some] at hl2; clear hb1)
    go_ret3
    exact ⟨by rw [HV.out] <;> rfl, HB1.out⟩
  | none =>
    cases o1 with
    | some x =>
      obtain ⟨X, hX⟩ : ∃ X, X = str x := ⟨_, rfl⟩
      have HX : Hid (str ((some x).getD []) = X) := hide (by rw [hX]; rfl)
      have HV : Hid (secV (secL f name.data.toList n) = .tuple #[.string X, .bool false, .bool true]) := hide (by rw [HSE.out, hX]; rfl)
      clear hX
      go_enter Tryz.func187, Tryz.ntmps187
      go_wp2_with (go_at_call 219; refine HI.out.mono ?_; rintro e w1 ⟨rfl, hb1⟩; have HB1 := hide (boxed_below hb1); have c0 := boxed_cell hb1 0; have c1 := boxed_cell hb1 1; have hl2 := HL2.out _ (HM.out.kept hb1); have hl1 := HL1.out _ (HM.out.kept hb1); rw [HX.out] at hl1; simp only [Option.isSome_some, Option.isSome_none, Option.getD_none] at hl1 hl2; clear hb1)
      go_ret3
      exact ⟨by rw [HV.out] <;> rfl, HB1.out⟩
    | none =>
      have HV : Hid (secV (secL f name.data.toList n) = .tuple #[.string ⟨#[]⟩, .bool false, .bool false]) := hide (by rw [HSE.out]; rfl)
      go_enter Tryz.func187, Tryz.ntmps187
      go_wp2_with (go_at_call 219; refine HI.out.mono ?_; rintro e w1 ⟨rfl, hb1⟩; have HB1 := hide (boxed_below hb1); have c0 := boxed_cell hb1 0; have c1 := boxed_cell hb1 1; have hl2 := HL2.out _ (HM.out.kept hb1); have hl1 := HL1.out _ (HM.out.kept hb1); simp only [Option.isSome_none, Option.getD_none] at hl1 hl2; clear hb1)
      go_ret3
      exact ⟨by rw [HV.out] <;> rfl, HB1.out⟩
end Go.Proofs.YtcmmbceacjechaaGreatDoor
