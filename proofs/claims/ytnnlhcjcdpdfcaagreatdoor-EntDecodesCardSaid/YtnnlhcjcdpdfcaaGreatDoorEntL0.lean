/- WALKS of ent.Value, and of muslinlaw12's live and short. No statement is proved here. -/
import Derived.Test.YtnnlhcjcdpdfcaaGreatDoorEntW
namespace Go.Proofs.YtnnlhcjcdpdfcaaGreatDoor
open Go.RowKit
set_option linter.unusedVariables false
set_option linter.unusedSimpArgs false
set_option maxRecDepth 100000
/-- what layer 12's laws ask of the world -/
def EnvX (w : World) : Prop := EnvE w ∧ ∃ m : Int, w.cell? ⟨0, 0, none⟩ = some (.int .i64 m)
theorem EnvX.kept {w w' : World} (h : EnvX w) (hb : Below w.heap.size w w') : EnvX w' := by
  obtain ⟨h1, m, h2⟩ := h
  exact ⟨h1.kept hb, m, (hb.cell (p := ⟨0, 0, none⟩) (World.block_lt_of_cell? _ _ h2)).trans h2⟩
set_option maxHeartbeats 2000000 in
/-- ent.Value -/
theorem entValue_any (s : ByteArray) (w : World) (hs : s.size ≤ 1048576) (hE : EnvX w) :
    Calls Tryz.prog 32 #[.string s] w fun e w' => e = .returned (.string (str (escQ true s.data.toList))) ∧ Below w.heap.size w w' := by
  obtain ⟨V, hV⟩ : ∃ V, V = str (escQ false s.data.toList) := ⟨_, rfl⟩
  have hz : V.size ≤ 6 * s.size := by
    rw [hV, str_size, ← toList_length s]; exact esc_len false _
  have HT := hide (fun (w : World) => entText_any s w (by omega))
  rw [← hV] at HT
  have hVl : V.data.toList = escQ false s.data.toList := by rw [hV, str_toList]
  have HR : Hid ((⟨(Lib.replaceAll V.data.toList (⟨#[34]⟩ : ByteArray).data.toList (⟨#[38, 113, 117, 111, 116, 59]⟩ : ByteArray).data.toList).toArray⟩ : ByteArray) = str (escQ true s.data.toList)) := hide (by
    rw [hVl, escQ_value]; rfl)
  have hcb : Lib.countB V ⟨#[34]⟩ ≤ V.size + 1 := by
    have := Lib.count_le V.data.toList (⟨#[34]⟩ : ByteArray).data.toList
    rw [toList_length] at this; exact this
  have HLN : Hid (V.size + Lib.countB V ⟨#[34]⟩ * (⟨#[38, 113, 117, 111, 116, 59]⟩ : ByteArray).size ≤ 140737488355328) := hide (by
    rw [show (⟨#[38, 113, 117, 111, 116, 59]⟩ : ByteArray).size = 6 from rfl]; omega)
  have HVS : Hid (V.size < 4294967281) := hide (by omega)
  have HE := hide hE
  clear hV hVl hcb hE hz
  go_enter Tryz.func32, Tryz.ntmps32
  go_wp2_with (first
    | (go_at_call 30; refine (HT.out _).mono ?_; rintro e w1 ⟨rfl, hb1⟩; have HE1 := hide (HE.out.kept hb1); have HB1 := hide hb1; clear hb1; obtain ⟨_, m, hm⟩ := HE1.out; have HM := hide hm; clear hm)
    | (go_at_call 64; refine (Tryz.strings_ReplaceAll V ⟨#[34]⟩ ⟨#[38, 113, 117, 111, 116, 59]⟩ m _ HVS.out HM.out (by decide) HLN.out).mono ?_; rintro e w2 ⟨rfl, hb2⟩; have HB2 := hide (HB1.out.trans (hb2.mono HB1.out.size)); clear hb2))
  go_ret
  exact ⟨by rw [HR.out] <;> rfl, HB2.out⟩
theorem live12a : decE [38, 108, 116, 59, 38, 35, 54, 53, 59, 38, 35, 120, 52, 50, 59, 38, 120, 59, 38, 97, 109, 112, 38, 110, 98, 115, 112, 59, 38, 35, 49, 50, 56, 59, 38, 35, 48, 59] = [60, 65, 66, 38, 120, 59, 38, 97, 109, 112, 194, 160, 226, 130, 172, 239, 191, 189] := by decide +kernel
theorem live12b : escQ false [97, 60, 98, 38, 34, 194, 160] = [97, 38, 108, 116, 59, 98, 38, 97, 109, 112, 59, 34, 38, 110, 98, 115, 112, 59] := by decide +kernel
theorem live12c : escQ true [34, 62] = [38, 113, 117, 111, 116, 59, 38, 103, 116, 59] := by decide +kernel
set_option maxHeartbeats 2000000 in
theorem live12_any (w : World) (hE : EnvX w) : Calls Tryz.prog 27 #[] w fun e w' => e = .returned (.bool true) ∧ Below w.heap.size w w' := by
  have H1 : Hid (str (decE (⟨#[38, 108, 116, 59, 38, 35, 54, 53, 59, 38, 35, 120, 52, 50, 59, 38, 120, 59, 38, 97, 109, 112, 38, 110, 98, 115, 112, 59, 38, 35, 49, 50, 56, 59, 38, 35, 48, 59]⟩ : ByteArray).data.toList) = ⟨#[60, 65, 66, 38, 120, 59, 38, 97, 109, 112, 194, 160, 226, 130, 172, 239, 191, 189]⟩) := hide (congrArg str live12a)
  have H2 : Hid (str (escQ false (⟨#[97, 60, 98, 38, 34, 194, 160]⟩ : ByteArray).data.toList) = ⟨#[97, 38, 108, 116, 59, 98, 38, 97, 109, 112, 59, 34, 38, 110, 98, 115, 112, 59]⟩) := hide (congrArg str live12b)
  have H3 : Hid (str (escQ true (⟨#[34, 62]⟩ : ByteArray).data.toList) = ⟨#[38, 113, 117, 111, 116, 59, 38, 103, 116, 59]⟩) := hide (congrArg str live12c)
  have HE := hide hE
  clear hE
  go_enter Tryz.func27, Tryz.ntmps27
  go_wp2_with fail
  refine (entDecode_any _ _ (by decide) HE.out.1).mono ?_
  rintro e w1 ⟨rfl, hb1⟩
  have HE1 := hide (HE.out.kept hb1)
  have HB1 := hide hb1
  clear hb1
  rw [H1.out]
  go_wp2_with fail
  refine (entText_any _ _ (by decide)).mono ?_
  rintro e w2 ⟨rfl, hb2⟩
  have HE2 := hide (HE1.out.kept hb2)
  have HB2 := hide (HB1.out.trans (hb2.mono HB1.out.size))
  clear hb2
  rw [H2.out]
  go_wp2_with fail
  refine (entValue_any _ _ (by decide) HE2.out).mono ?_
  rintro e w3 ⟨rfl, hb3⟩
  have HB3 := hide (HB2.out.trans (hb3.mono HB2.out.size))
  clear hb3
  rw [H3.out]
  go_wp2_with fail
  go_ret
  exact ⟨rfl, HB3.out⟩
theorem short12_any (s : ByteArray) (w : World) (hs : s.size ≤ maxLen) : Calls Tryz.prog 26 #[.string s] w fun e w' => e = .returned (.bool (decide (s.size ≤ 5000))) ∧ w = w' := by
  unfold maxLen at hs
  by_cases h : s.size ≤ 5000
  · have e : decide (s.size ≤ 5000) = true := decide_eq_true h
    rw [e]
    go_enter Tryz.func26, Tryz.ntmps26
    go_wp2
    go_ret
    exact ⟨ret_bool (by simp; omega), rfl⟩
  · have e : decide (s.size ≤ 5000) = false := decide_eq_false h
    rw [e]
    go_enter Tryz.func26, Tryz.ntmps26
    go_wp2
    go_ret
    exact ⟨ret_bool (by simp; omega), rfl⟩
end Go.Proofs.YtnnlhcjcdpdfcaaGreatDoor
