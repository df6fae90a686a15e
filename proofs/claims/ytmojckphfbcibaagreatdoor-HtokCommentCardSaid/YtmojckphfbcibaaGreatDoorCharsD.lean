/- WALK of chars.Decode. No statement is proved here. -/
import Derived.Test.YtmojckphfbcibaaGreatDoorBaseO
namespace Go.Proofs.YtmojckphfbcibaaGreatDoor
open Go.RowKit
set_option linter.unusedVariables false
set_option linter.unusedSimpArgs false

/-- what Decode answers -/
def decV (k : Nat) (l : List UInt8) : Value := .tuple #[.string (str (decodeL k l)), .bool (decide (0 < k))]
set_option maxHeartbeats 2000000 in
theorem charsDecode_any (label s : ByteArray) (w : World) (hl : label.size ≤ 70368744177664) (hs : s.size ≤ 1048576) (hT : Tab w) :
    Calls Tryz.prog 110 #[.string label, .string s] w fun e w' => e = .returned (decV (kindL label.data.toList) s.data.toList) ∧ Below w.heap.size w w' := by
  have HT := hide hT
  have H0 := hide hT.lt
  clear hT
  have HK := hide (fun (w : World) => known_any label w hl)
  have hk5 := kind_lt label.data.toList
  generalize kindL label.data.toList = k at HK hk5
  have hk : k = 0 ∨ k = 1 ∨ k = 2 ∨ k = 3 ∨ k = 4 := by omega
  clear hk5
  have KV0 : Hid (knownV 0 = .tuple #[.string ⟨#[]⟩, .bool false]) := hide rfl
  have KV1 : Hid (knownV 1 = .tuple #[.string ⟨#[117, 116, 102, 45, 56]⟩, .bool true]) := hide rfl
  have KV2 : Hid (knownV 2 = .tuple #[.string ⟨#[119, 105, 110, 100, 111, 119, 115, 45, 49, 50, 53, 50]⟩, .bool true]) := hide rfl
  have KV3 : Hid (knownV 3 = .tuple #[.string ⟨#[117, 116, 102, 45, 49, 54, 108, 101]⟩, .bool true]) := hide rfl
  have KV4 : Hid (knownV 4 = .tuple #[.string ⟨#[117, 116, 102, 45, 49, 54, 98, 101]⟩, .bool true]) := hide rfl
  have P3 := hide (fun (w : World) => fromPairs_any s false w hs)
  have P4 := hide (fun (w : World) => fromPairs_any s true w hs)
  rw [show hiAt false = 1 from rfl] at P3
  rw [show hiAt true = 0 from rfl] at P4
  rcases hk with rfl | rfl | rfl | rfl | rfl
  · go_enter Tryz.func110, Tryz.ntmps110
    go_wp2_with fail
    refine (HK.out _).mono ?_
    rintro e w1 ⟨rfl, hb1⟩
    rw [KV0.out]
    go_wp2_with fail
    refine (valid_any s _ hs).mono ?_
    rintro e w2 ⟨rfl, hb2⟩
    go_wp2_with fail
    go_ret2
    exact ⟨rfl, hb1.trans (hb2.mono hb1.size)⟩
  · go_enter Tryz.func110, Tryz.ntmps110
    go_wp2_with fail
    refine (HK.out _).mono ?_
    rintro e w1 ⟨rfl, hb1⟩
    rw [KV1.out]
    go_wp2_with fail
    refine (valid_any s _ hs).mono ?_
    rintro e w2 ⟨rfl, hb2⟩
    go_wp2_with fail
    go_ret2
    exact ⟨rfl, hb1.trans (hb2.mono hb1.size)⟩
  · go_enter Tryz.func110, Tryz.ntmps110
    go_wp2_with fail
    refine (HK.out _).mono ?_
    rintro e w1 ⟨rfl, hb1⟩
    rw [KV2.out]
    go_wp2_with fail
    refine (fromWindows_any s _ hs (HT.out.below hb1 H0.out)).mono ?_
    rintro e w2 ⟨rfl, hb2⟩
    go_wp2_with fail
    go_ret2
    exact ⟨rfl, hb1.trans (hb2.mono hb1.size)⟩
  · go_enter Tryz.func110, Tryz.ntmps110
    go_wp2_with fail
    refine (HK.out _).mono ?_
    rintro e w1 ⟨rfl, hb1⟩
    rw [KV3.out]
    go_wp2_with fail
    refine (P3.out _).mono ?_
    rintro e w2 ⟨rfl, hb2⟩
    go_wp2_with fail
    go_ret2
    exact ⟨rfl, hb1.trans (hb2.mono hb1.size)⟩
  · go_enter Tryz.func110, Tryz.ntmps110
    go_wp2_with fail
    refine (HK.out _).mono ?_
    rintro e w1 ⟨rfl, hb1⟩
    rw [KV4.out]
    go_wp2_with fail
    refine (P4.out _).mono ?_
    rintro e w2 ⟨rfl, hb2⟩
    go_wp2_with fail
    go_ret2
    exact ⟨rfl, hb1.trans (hb2.mono hb1.size)⟩
end Go.Proofs.YtmojckphfbcibaaGreatDoor
