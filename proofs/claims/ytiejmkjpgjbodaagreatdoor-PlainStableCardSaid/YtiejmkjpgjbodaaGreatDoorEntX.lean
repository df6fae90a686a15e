import Derived.Test.YtiejmkjpgjbodaaGreatDoorBaseS
namespace Go.Proofs.YtiejmkjpgjbodaaGreatDoor
open Go.RowKit
set_option linter.unusedVariables false
set_option linter.unusedSimpArgs false
set_option maxRecDepth 100000
def EnvX (w : World) : Prop := EnvE w ∧ ∃ m : Int, w.cell? ⟨0, 0, none⟩ = some (.int .i64 m)
theorem EnvX.kept {w w' : World} (h : EnvX w) (hb : Below w.heap.size w w') : EnvX w' := by
  obtain ⟨h1, m, h2⟩ := h
  exact ⟨h1.kept hb, m, (hb.cell (p := ⟨0, 0, none⟩) (World.block_lt_of_cell? _ _ h2)).trans h2⟩
set_option maxHeartbeats 2000000 in
theorem entValue_any (s : ByteArray) (w : World) (hs : s.size ≤ 1048576) (hE : EnvX w) :
    Calls Tryz.prog 185 #[.string s] w fun e w' => e = .returned (.string (str (escQ true s.data.toList))) ∧ Below w.heap.size w w' := by
  obtain ⟨V, hV⟩ : ∃ V, V = str (escQ false s.data.toList) := ⟨_, rfl⟩
  have hz : V.size ≤ 6 * s.size := by
    rw [hV, str_size, ← toList_length s]; exact esc_len false _
  have HT := hide (fun (w : World) => entText_any s w (by omega))
  rw [← hV] at HT
  have hVl : V.data.toList = escQ false s.data.toList := by rw [hV, str_toList]
  have HR : Hid ((⟨(Lib.replaceAll V.data.toList (⟨#[34]⟩ : ByteArray).data.toList (⟨#[38, 113, 117, 111, 116, 59]⟩ : ByteArray).data.toList).toArray⟩ : ByteArray) = str (escQ true s.data.toList)) := hide (by
    rw [hVl, escQ_value]; rfl)
  have hcb : Lib.countB V ⟨#[34]⟩ ≤ V.size + 1 := by
    have := Lib.count_le V.data.toList (⟨#[34]⟩ : ByteArray).data.toList
    rw [toList_length] at this; exact this
  have HLN : Hid (V.size + Lib.countB V ⟨#[34]⟩ * (⟨#[38, 113, 117, 111, 116, 59]⟩ : ByteArray).size ≤ 140737488355328) := hide (by
    rw [show (⟨#[38, 113, 117, 111, 116, 59]⟩ : ByteArray).size = 6 from rfl]; omega)
  have HVS : Hid (V.size < 4294967281) := hide (by omega)
  have HE := hide hE
  clear hV hVl hcb hE hz
  go_enter Tryz.func185, Tryz.ntmps185
  go_wp2_with (first
    | (go_at_call 97; refine (HT.out _).mono ?_; rintro e w1 ⟨rfl, hb1⟩; have HE1 := hide (HE.out.kept hb1); have HB1 := hide hb1; clear hb1; obtain ⟨_, m, hm⟩ := HE1.out; have HM := hide hm; clear hm)
    | (go_at_call 216; refine (Tryz.strings_ReplaceAll V ⟨#[34]⟩ ⟨#[38, 113, 117, 111, 116, 59]⟩ m _ HVS.out HM.out (by decide) HLN.out).mono ?_; rintro e w2 ⟨rfl, hb2⟩; have HB2 := hide (HB1.out.trans (hb2.mono HB1.out.size)); clear hb2))
  go_ret
  exact ⟨by rw [HR.out] <;> rfl, HB2.out⟩
end Go.Proofs.YtiejmkjpgjbodaaGreatDoor
