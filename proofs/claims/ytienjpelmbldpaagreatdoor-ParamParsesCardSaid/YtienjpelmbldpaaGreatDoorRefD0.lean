/- WALKS of the reference's Decode for chars: UTF-8. No statement is proved here. -/
import Derived.Test.YtienjpelmbldpaaGreatDoorRefK
import Derived.Test.YtienjpelmbldpaaGreatDoorRefValid
namespace Go.Proofs.YtienjpelmbldpaaGreatDoor
open Go.RowKit
set_option linter.unusedVariables false
set_option linter.unusedSimpArgs false

set_option maxRecDepth 100000 in
set_option maxHeartbeats 4000000 in
theorem refDec0 (label s : ByteArray) (w : World) (hl : label.size ≤ 70368744177664) (hs : s.size ≤ 1048576) (hk : kindL label.data.toList = 0) :
    Calls Tryz.prog 47 #[.string label, .string s] w fun e w' => e = .returned (.tuple #[.string (str (validL s.data.toList)), .bool false]) ∧ Below w.heap.size w w' := by
  have HK := hide (fun (w : World) => refKnown_any label w hl)
  rw [hk] at HK
  have KVV : Hid (knownV 0 = .tuple #[.string ⟨#[]⟩, .bool false]) := hide rfl
  clear hk
  go_enter Tryz.func47, Tryz.ntmps47
  go_wp2_with fail
  refine (HK.out _).mono ?_
  rintro e w1 ⟨rfl, hb1⟩
  rw [KVV.out]
  go_wp2_with fail
  refine (refValid_any s _ hs).mono ?_
  rintro e w2 ⟨rfl, hb2⟩
  go_wp2_with fail
  go_ret2
  exact ⟨rfl, hb1.trans (hb2.mono hb1.size)⟩

set_option maxRecDepth 100000 in
set_option maxHeartbeats 4000000 in
theorem refDec1 (label s : ByteArray) (w : World) (hl : label.size ≤ 70368744177664) (hs : s.size ≤ 1048576) (hk : kindL label.data.toList = 1) :
    Calls Tryz.prog 47 #[.string label, .string s] w fun e w' => e = .returned (.tuple #[.string (str (validL s.data.toList)), .bool true]) ∧ Below w.heap.size w w' := by
  have HK := hide (fun (w : World) => refKnown_any label w hl)
  rw [hk] at HK
  have KVV : Hid (knownV 1 = .tuple #[.string ⟨#[117, 116, 102, 45, 56]⟩, .bool true]) := hide rfl
  clear hk
  go_enter Tryz.func47, Tryz.ntmps47
  go_wp2_with fail
  refine (HK.out _).mono ?_
  rintro e w1 ⟨rfl, hb1⟩
  rw [KVV.out]
  go_wp2_with fail
  refine (refValid_any s _ hs).mono ?_
  rintro e w2 ⟨rfl, hb2⟩
  go_wp2_with fail
  go_ret2
  exact ⟨rfl, hb1.trans (hb2.mono hb1.size)⟩

end Go.Proofs.YtienjpelmbldpaaGreatDoor
