/- WALKS of param.extended, simple, continued. No statement is proved here. -/
import Derived.Test.YtcmmbceacjechaaGreatDoorParD
namespace Go.Proofs.YtcmmbceacjechaaGreatDoor
open Go.RowKit
set_option linter.unusedVariables false
set_option linter.unusedSimpArgs false
set_option maxRecDepth 100000
def optV : Option (List UInt8) → Value
  | some x => .tuple #[.string (str x), .bool true]
  | none => .tuple #[.string ⟨#[]⟩, .bool false]
/-- a value that tells its alphabet -/
def exL (f : ValF) (name : List UInt8) : Option (List UInt8) :=
  match pExt ((f (name ++ [42])).getD []) with
  | some (a, b) => some (decodeL (kindL a) b)
  | none => none
theorem pExt_sizes {l a b : List UInt8} (h : pExt l = some (a, b)) : a.length ≤ l.length ∧ b.length ≤ l.length := by
  unfold pExt at h
  split at h
  · injection h with h
    injection h with h1 h2
    subst h1 h2
    have z1 := beforeC_le 39 l
    have z2 := afterC_length 39 l
    have z3 := afterC_length 39 (afterC 39 l)
    have z4 := (pdec_length (afterC 39 (afterC 39 l))).1
    exact ⟨by rw [lowL_len]; exact z1, by omega⟩
  · cases h
set_option maxHeartbeats 4000000 in
theorem extended07_any (ns : Value) (bm c : Nat) (f : ValF) (name : ByteArray) (w : World) (hM : TMap w bm c f) (hE : EnvP w) (hz : name.size ≤ 1048576) (hf : ∀ k x, f k = some x → x.length ≤ 1048576) (A : Option Addr) (l cp : Nat) (hns : ns = .slice A l cp) :
    Calls Tryz.prog 136 #[.agg #[ns, .map (some bm)], .string name] w fun e w' => e = .returned (optV (exL f name.data.toList)) ∧ Below w.heap.size w w' := by
  subst hns
  obtain ⟨X, hX⟩ : ∃ X, X = str ((f (name.data.toList ++ [42])).getD []) := ⟨_, rfl⟩
  have hXl : X.data.toList = (f (name.data.toList ++ [42])).getD [] := by rw [hX, str_toList]
  have hXz : X.size ≤ 1048576 := by
    rw [hX, str_size]
    cases h : f (name.data.toList ++ [42]) with
    | none => exact Nat.zero_le _
    | some x => exact hf _ x h
  have ek : (name ++ (⟨#[42]⟩ : ByteArray)).data.toList = name.data.toList ++ [42] := by simp
  have zk : (name ++ (⟨#[42]⟩ : ByteArray)).size = name.size + 1 := ByteArray.size_append
  have HM1 := hM.kept ((Below.refl _ w).alloc (Nat.le_refl _) (.cells #[.slice A l cp, .map (some bm)] 60))
  have hl := HM1.look (name ++ ⟨#[42]⟩) (by rw [zk]; unfold maxLen; omega)
  rw [ek, ← hX] at hl
  have c1 : (w.alloc (.cells #[.slice A l cp, .map (some bm)] 60)).cell? ⟨w.heap.size, 1, none⟩ = some (.map (some bm)) := by rw [World.cell?_alloc_at _ _ _ _ rfl]; rfl
  have HX := hide (fun (w : World) => extended_any X w (by omega))
  rw [hXl] at HX
  have HEX : Hid (exL f name.data.toList = match pExt ((f (name.data.toList ++ [42])).getD []) with
    | some (a, b) => some (decodeL (kindL a) b)
    | none => none) := hide rfl
  have hps := @pExt_sizes ((f (name.data.toList ++ [42])).getD [])
  rw [← hXl] at hps
  rw [toList_length] at hps
  rw [hXl] at hps
  have HE := hide hE
  generalize pExt ((f (name.data.toList ++ [42])).getD []) = o at HX HEX hps
  clear hX hXl HM1 ek hM hE hf
  cases o with
  | none =>
    have HV : Hid (optV (exL f name.data.toList) = .tuple #[.string ⟨#[]⟩, .bool false]) := hide (by rw [HEX.out]; rfl)
    simp only [extV] at HX
    clear hps
    go_enter Tryz.func136, Tryz.ntmps136
    go_wp2_with (go_at_call 185; refine (HX.out _).mono ?_; rintro e w1 ⟨rfl, hb1⟩; have HB1 := hide (boxed_below hb1); clear hb1)
    go_ret2
    exact ⟨by rw [HV.out] <;> rfl, HB1.out⟩
  | some p =>
    obtain ⟨a, b⟩ := p
    obtain ⟨z1, z2⟩ := hps rfl
    obtain ⟨P, hP⟩ : ∃ P, P = str a := ⟨_, rfl⟩
    obtain ⟨Q, hQ⟩ : ∃ Q, Q = str b := ⟨_, rfl⟩
    obtain ⟨R, hR⟩ : ∃ R, R = str (decodeL (kindL a) b) := ⟨_, rfl⟩
    have HV : Hid (optV (exL f name.data.toList) = .tuple #[.string R, .bool true]) := hide (by rw [HEX.out, hR]; rfl)
    simp only [extV] at HX
    rw [← hP, ← hQ] at HX
    have HD := hide (fun (w : World) (hT : Tab w) => charsDecode_any P Q w (by rw [hP, str_size]; omega) (by rw [hQ, str_size]; omega) hT)
    have eP : P.data.toList = a := by rw [hP, str_toList]
    have eQ : Q.data.toList = b := by rw [hQ, str_toList]
    rw [eP, eQ] at HD
    simp only [decV] at HD
    rw [← hR] at HD
    clear hP hQ hR eP eQ z1 z2 hps
    go_enter Tryz.func136, Tryz.ntmps136
    go_wp2_with (first
      | (go_at_call 185; refine (HX.out _).mono ?_; rintro e w1 ⟨rfl, hb1⟩; have HB1 := hide (boxed_below hb1); have HE1 := hide (HE.out.kept (boxed_below hb1)); clear hb1)
      | (go_at_call 186; refine (HD.out _ HE1.out.1).mono ?_; rintro e w2 ⟨rfl, hb2⟩; have HB2 := hide (HB1.out.trans (hb2.mono HB1.out.size)); clear hb2))
    go_ret2
    exact ⟨by rw [HV.out] <;> rfl, HB2.out⟩
/-- a value that is written as it is, but for encoded words -/
def siL (f : ValF) (name : List UInt8) : List UInt8 × Bool := (decW false [] ((f name).getD []), (f name).isSome)
set_option maxHeartbeats 4000000 in
theorem simple07_any (ns : Value) (bm c : Nat) (f : ValF) (name : ByteArray) (w : World) (hM : TMap w bm c f) (hE : EnvP w) (hz : name.size ≤ 1048576) (hf : ∀ k x, f k = some x → x.length ≤ 1048576) (A : Option Addr) (l cp : Nat) (hns : ns = .slice A l cp) :
    Calls Tryz.prog 138 #[.agg #[ns, .map (some bm)], .string name] w fun e w' => e = .returned (.tuple #[.string (str (siL f name.data.toList).1), .bool (siL f name.data.toList).2]) ∧ Below w.heap.size w w' := by
  subst hns
  obtain ⟨X, hX⟩ : ∃ X, X = str ((f name.data.toList).getD []) := ⟨_, rfl⟩
  have hXl : X.data.toList = (f name.data.toList).getD [] := by rw [hX, str_toList]
  have hXz : X.size ≤ 1048576 := by
    rw [hX, str_size]
    cases h : f name.data.toList with
    | none => exact Nat.zero_le _
    | some x => exact hf _ x h
  have HM1 := hM.kept ((Below.refl _ w).alloc (Nat.le_refl _) (.cells #[.slice A l cp, .map (some bm)] 60))
  have hl := HM1.look_ok name (by unfold maxLen; omega)
  rw [← hX] at hl
  have c1 : (w.alloc (.cells #[.slice A l cp, .map (some bm)] 60)).cell? ⟨w.heap.size, 1, none⟩ = some (.map (some bm)) := by rw [World.cell?_alloc_at _ _ _ _ rfl]; rfl
  have HD := hide (wordDecode_any X _ hXz (hE.kept ((Below.refl _ w).alloc (Nat.le_refl _) (.cells #[.slice A l cp, .map (some bm)] 60))).1)
  rw [hXl] at HD
  obtain ⟨R, hR⟩ : ∃ R, R = str (decW false [] ((f name.data.toList).getD [])) := ⟨_, rfl⟩
  rw [← hR] at HD
  have HV : Hid (str (siL f name.data.toList).1 = R) := hide hR.symm
  have HV2 : Hid ((siL f name.data.toList).2 = (f name.data.toList).isSome) := hide rfl
  rw [HV.out, HV2.out]
  generalize (f name.data.toList).isSome = is at hl
  clear hX hXl hR HM1 hM hE hf HV HV2
  go_enter Tryz.func138, Tryz.ntmps138
  go_wp2_with (go_at_call 116; refine HD.out.mono ?_; rintro e w1 ⟨rfl, hb1⟩; have HB1 := hide (boxed_below hb1); clear hb1)
  go_ret2
  exact ⟨rfl, HB1.out⟩
end Go.Proofs.YtcmmbceacjechaaGreatDoor
