/- WALK of the law PlainLevels. Written by wip/tools/plainlaws.py. No statement is proved here. Own work of the verifier. -/
import Derived.Test.YtdeaofnhdbhknaaPnLv
namespace Go.Proofs.Ytdeaofnhdbhknaa
open Go.RowKit
set_option linter.unusedVariables false
set_option linter.unusedSimpArgs false
set_option maxRecDepth 100000
theorem sb (b : UInt8) (n : Nat) (hn : n < 256) : ((b.toNat : Int) == (n : Int)) = decide (b = UInt8.ofNat n) := by
  by_cases h : b = UInt8.ofNat n
  · rw [decide_eq_true h]; exact tT n h hn
  · rw [decide_eq_false h]; exact tF n h hn
theorem size_of (s : ByteArray) : s.size = s.data.toList.length := (toList_length s).symm
theorem app_list (a b : ByteArray) : (a ++ b).data.toList = a.data.toList ++ b.data.toList := by rw [ByteArray.data_append, Array.toList_append]
set_option maxHeartbeats 8000000 in
theorem law_PlainLevels (line : ByteArray) (hmx : line.size ≤ maxLen) (bl : Bool) (w : World) :
    Calls Try.prog 6 #[.string line, .bool bl] w fun e w' => e = .returned (.bool true) ∧ Below w.heap.size w w' := by
  have hL0 : ∀ w1 : World, Below w.heap.size w w1 → Calls Try.prog 9 #[] w1 fun e w' => e = .returned (.bool true) ∧ Below w.heap.size w w' := fun w1 hb => (live20_any w1).mono fun e w' ⟨h1, h2⟩ => ⟨h1, bl_two hb h2⟩
  have HLV := hide hL0
  clear hL0
  by_cases hbig : 3000 < line.size
  · have t0 : decide ((3000 : Int) < (line.size : Int)) = true := decide_eq_true (by omega)
    go_enter Try.func6, Try.ntmps6
    go_wp2_with fail
    refine (HLV.out w (Below.refl _ _)).mono ?_
    rintro e w1 ⟨rfl, hb⟩
    go_wp2_with fail
    go_ret
    exact ⟨rfl, hb⟩
  · have t0 : decide ((3000 : Int) < (line.size : Int)) = false := decide_eq_false (by omega)
    have hsm : line.size ≤ 3000 := by omega
    obtain ⟨L, hL⟩ : ∃ L, L = line.data.toList := ⟨_, rfl⟩
    have HV1 := hide (level_any line w (by omega))
    rw [← hL] at HV1
    unfold levelV at HV1
    have HSTR : Hid (str L = line) := hide (by rw [hL, str_of])
    have hsz : line.size = L.length := by rw [hL, toList_length]
    cases bl with
    | true =>
      obtain ⟨T, hT⟩ : ∃ T, T = (⟨#[62, 32]⟩ : ByteArray) ++ line := ⟨_, rfl⟩
      have hTL : T.data.toList = 62 :: 32 :: L := by rw [hT, app_list, ← hL]; rfl
      have HV2 := hide (level_any T w (by rw [size_of, hTL]; simp only [List.length_cons]; omega))
      rw [hTL] at HV2
      unfold levelV at HV2
      have HT := hide hT
      have hsum : ¬ (9223372036854775807 < 2 + line.size) := by omega
      by_cases hnil : L = []
      · have n1 : line.toList.isEmpty = true := by rw [bytes_list, ← hL, hnil]; rfl
        have HM := hide (level_more L (32 :: L) (rfl))
        have hl0 : levelL L = (0, L) := by rw [hnil]; rfl
        have n3 : ((0 : Int) != 0) = false := rfl
        rw [hl0] at HV1
        have q1 : ((str L).toList == line.toList) = true := by rw [HSTR.out]; exact beq_self_eq_true _
        have q2 : ((str L).toList != line.toList) = false := by rw [bne, q1]; rfl
        have hle := (levelL_le L).1
        obtain ⟨NX, hNX⟩ : ∃ n, n = (levelL L).1 := ⟨_, rfl⟩
        obtain ⟨SX, hSX⟩ : ∃ s, s = str (levelL L).2 := ⟨_, rfl⟩
        obtain ⟨NT, hNT⟩ : ∃ n, n = (levelL (62 :: (32 :: L))).1 := ⟨_, rfl⟩
        obtain ⟨ST, hST⟩ : ∃ s, s = str (levelL (62 :: (32 :: L))).2 := ⟨_, rfl⟩
        have HMA : Hid (NX = 20 → NT = 20) := hide (fun e => by rw [hNT]; exact HM.out.1 (by rw [← hNX]; exact e))
        have HMB : Hid (NX ≠ 20 → NT = NX + 1 ∧ ST = SX) := hide (fun e => by
          have := HM.out.2 (by rw [← hNX]; exact e)
          rw [hNT, hST, this, hNX, hSX]; exact ⟨rfl, rfl⟩)
        rw [← hNT, ← hST] at HV2
        rw [← hNX] at hle
        have e0 : NX = 0 := by rw [hNX, hl0]
        have e1 : SX = str L := by rw [hSX, hl0]
        subst e0 e1
        clear hNT hST hNX hSX HM hT hTL hL hsz hbig hnil hl0
        obtain ⟨hNT, hST⟩ := HMB.out (by decide)
        subst hNT hST
        have z1 : ((0 : Int) == 20) = false := rfl
        have z2 : (((0 + 1 : Nat) : Int) == (0 : Int) + 1) = true := rfl
        have z3 : ((str L).toList == (str L).toList) = true := beq_self_eq_true _
        clear HMA HMB
        go_enter Try.func6, Try.ntmps6
        go_wp2_with fail
        refine HV1.out.mono ?_
        rintro e w1 ⟨rfl, rfl⟩
        go_wp2_with fail
        rw [← HT.out]
        refine HV2.out.mono ?_
        rintro e w2 ⟨rfl, rfl⟩
        go_wp2_with fail
        refine (HLV.out _ (Below.refl _ _)).mono ?_
        rintro e w4 ⟨rfl, hb⟩
        go_wp2_with fail
        go_ret
        exact ⟨rfl, hb⟩
      obtain ⟨c, r, hc⟩ := List.exists_cons_of_ne_nil hnil
      by_cases hg : c = 62
      · have n1 : line.toList.isEmpty = false := by rw [bytes_list, ← hL, hc]; rfl
        have hpos : 0 < line.size := by rw [hsz, hc]; simp
        have hget : line[0]'hpos = c := by
          have h1 := drop_cons line 0 hpos
          rw [← hL, List.drop_zero, hc] at h1
          injection h1 with h1 _
          exact h1.symm
        have HM := hide (level_more L (32 :: L) (rfl))
        have n2 : ((line[0].toNat : Int) != 62) = false := by
          rw [hget, bne, show ((c.toNat : Int) == 62) = true from tT 62 hg (by decide)]; rfl
        have n5 : ((line[0].toNat : Int) == 32) = false := by
          rw [hget]; exact tF 32 (by rw [hg]; decide) (by decide)
        have hle := (levelL_le L).1
        obtain ⟨NX, hNX⟩ : ∃ n, n = (levelL L).1 := ⟨_, rfl⟩
        obtain ⟨SX, hSX⟩ : ∃ s, s = str (levelL L).2 := ⟨_, rfl⟩
        obtain ⟨NT, hNT⟩ : ∃ n, n = (levelL (62 :: (32 :: L))).1 := ⟨_, rfl⟩
        obtain ⟨ST, hST⟩ : ∃ s, s = str (levelL (62 :: (32 :: L))).2 := ⟨_, rfl⟩
        have HMA : Hid (NX = 20 → NT = 20) := hide (fun e => by rw [hNT]; exact HM.out.1 (by rw [← hNX]; exact e))
        have HMB : Hid (NX ≠ 20 → NT = NX + 1 ∧ ST = SX) := hide (fun e => by
          have := HM.out.2 (by rw [← hNX]; exact e)
          rw [hNT, hST, this, hNX, hSX]; exact ⟨rfl, rfl⟩)
        rw [← hNT, ← hST] at HV2
        rw [← hNX] at hle
        rw [← hNX, ← hSX] at HV1
        have n3 : True := trivial
        clear hNT hST hNX hSX HM hT hTL hL hsz hbig hc hget hg
        by_cases h20 : NX = 20
        · obtain rfl := HMA.out h20
          have z1 : ((NX : Int) == 20) = true := by rw [h20]; rfl
          have z2 : (((20 : Nat) : Int) == 20) = true := rfl
          clear HMA HMB
          go_enter Try.func6, Try.ntmps6
          go_wp2_with fail
          refine HV1.out.mono ?_
          rintro e w1 ⟨rfl, rfl⟩
          go_wp2_with fail
          rw [← HT.out]
          refine HV2.out.mono ?_
          rintro e w2 ⟨rfl, rfl⟩
          go_wp2_with fail
          refine (HLV.out _ (Below.refl _ _)).mono ?_
          rintro e w4 ⟨rfl, hb⟩
          go_wp2_with fail
          go_ret
          exact ⟨rfl, hb⟩
        · obtain ⟨hNT, hST⟩ := HMB.out h20
          subst hNT hST
          have z1 : ((NX : Int) == 20) = false := by rw [beq_eq_false_iff_ne]; omega
          have z2 : (((NX + 1 : Nat) : Int) == (NX : Int) + 1) = true := by rw [beq_iff_eq]; omega
          have z3 : (ST.toList == ST.toList) = true := beq_self_eq_true _
          have z4 : wrap64 ((NX : Int) + 1) = (NX : Int) + 1 := by clear z1 z2; unfold wrap64; omega
          clear HMA HMB
          go_enter Try.func6, Try.ntmps6
          go_wp2_with fail
          refine HV1.out.mono ?_
          rintro e w1 ⟨rfl, rfl⟩
          go_wp2_with fail
          rw [← HT.out]
          refine HV2.out.mono ?_
          rintro e w2 ⟨rfl, rfl⟩
          go_wp2_with fail
          refine (HLV.out _ (Below.refl _ _)).mono ?_
          rintro e w4 ⟨rfl, hb⟩
          go_wp2_with fail
          go_ret
          exact ⟨rfl, hb⟩
      have hg0 := hg
      clear hg
      by_cases hg : c = 32
      · have n1 : line.toList.isEmpty = false := by rw [bytes_list, ← hL, hc]; rfl
        have hpos : 0 < line.size := by rw [hsz, hc]; simp
        have hget : line[0]'hpos = c := by
          have h1 := drop_cons line 0 hpos
          rw [← hL, List.drop_zero, hc] at h1
          injection h1 with h1 _
          exact h1.symm
        have HM := hide (level_more L (32 :: L) (rfl))
        have hl0 : levelL L = (0, L) := by rw [levelL, lvP_none 20 L (by rw [hc]; intro e; exact hg0 (Option.some.inj e))]
        have n3 : ((0 : Int) != 0) = false := rfl
        rw [hl0] at HV1
        have q1 : ((str L).toList == line.toList) = true := by rw [HSTR.out]; exact beq_self_eq_true _
        have q2 : ((str L).toList != line.toList) = false := by rw [bne, q1]; rfl
        have n2 : ((line[0].toNat : Int) != 62) = true := by
          rw [hget, bne, show ((c.toNat : Int) == 62) = false from tF 62 hg0 (by decide)]; rfl
        have n5 : ((line[0].toNat : Int) == 32) = true := by
          rw [hget]; exact tT 32 hg (by decide)
        have hle := (levelL_le L).1
        obtain ⟨NX, hNX⟩ : ∃ n, n = (levelL L).1 := ⟨_, rfl⟩
        obtain ⟨SX, hSX⟩ : ∃ s, s = str (levelL L).2 := ⟨_, rfl⟩
        obtain ⟨NT, hNT⟩ : ∃ n, n = (levelL (62 :: (32 :: L))).1 := ⟨_, rfl⟩
        obtain ⟨ST, hST⟩ : ∃ s, s = str (levelL (62 :: (32 :: L))).2 := ⟨_, rfl⟩
        have HMA : Hid (NX = 20 → NT = 20) := hide (fun e => by rw [hNT]; exact HM.out.1 (by rw [← hNX]; exact e))
        have HMB : Hid (NX ≠ 20 → NT = NX + 1 ∧ ST = SX) := hide (fun e => by
          have := HM.out.2 (by rw [← hNX]; exact e)
          rw [hNT, hST, this, hNX, hSX]; exact ⟨rfl, rfl⟩)
        rw [← hNT, ← hST] at HV2
        rw [← hNX] at hle
        have e0 : NX = 0 := by rw [hNX, hl0]
        have e1 : SX = str L := by rw [hSX, hl0]
        subst e0 e1
        clear hNT hST hNX hSX HM hT hTL hL hsz hbig hc hget hg hg0 hl0
        obtain ⟨hNT, hST⟩ := HMB.out (by decide)
        subst hNT hST
        have z1 : ((0 : Int) == 20) = false := rfl
        have z2 : (((0 + 1 : Nat) : Int) == (0 : Int) + 1) = true := rfl
        have z3 : ((str L).toList == (str L).toList) = true := beq_self_eq_true _
        clear HMA HMB
        go_enter Try.func6, Try.ntmps6
        go_wp2_with fail
        refine HV1.out.mono ?_
        rintro e w1 ⟨rfl, rfl⟩
        go_wp2_with fail
        rw [← HT.out]
        refine HV2.out.mono ?_
        rintro e w2 ⟨rfl, rfl⟩
        go_wp2_with fail
        refine (HLV.out _ (Below.refl _ _)).mono ?_
        rintro e w4 ⟨rfl, hb⟩
        go_wp2_with fail
        go_ret
        exact ⟨rfl, hb⟩
      have hs := hg
      have n1 : line.toList.isEmpty = false := by rw [bytes_list, ← hL, hc]; rfl
      have hpos : 0 < line.size := by rw [hsz, hc]; simp
      have hget : line[0]'hpos = c := by
        have h1 := drop_cons line 0 hpos
        rw [← hL, List.drop_zero, hc] at h1
        injection h1 with h1 _
        exact h1.symm
      have HM := hide (level_more L (32 :: L) (rfl))
      have hl0 : levelL L = (0, L) := by rw [levelL, lvP_none 20 L (by rw [hc]; intro e; exact hg0 (Option.some.inj e))]
      have n3 : ((0 : Int) != 0) = false := rfl
      rw [hl0] at HV1
      have q1 : ((str L).toList == line.toList) = true := by rw [HSTR.out]; exact beq_self_eq_true _
      have q2 : ((str L).toList != line.toList) = false := by rw [bne, q1]; rfl
      have n2 : ((line[0].toNat : Int) != 62) = true := by
        rw [hget, bne, show ((c.toNat : Int) == 62) = false from tF 62 hg0 (by decide)]; rfl
      have n5 : ((line[0].toNat : Int) == 32) = false := by
        rw [hget]; exact tF 32 hs (by decide)
      have hle := (levelL_le L).1
      obtain ⟨NX, hNX⟩ : ∃ n, n = (levelL L).1 := ⟨_, rfl⟩
      obtain ⟨SX, hSX⟩ : ∃ s, s = str (levelL L).2 := ⟨_, rfl⟩
      obtain ⟨NT, hNT⟩ : ∃ n, n = (levelL (62 :: (32 :: L))).1 := ⟨_, rfl⟩
      obtain ⟨ST, hST⟩ : ∃ s, s = str (levelL (62 :: (32 :: L))).2 := ⟨_, rfl⟩
      have HMA : Hid (NX = 20 → NT = 20) := hide (fun e => by rw [hNT]; exact HM.out.1 (by rw [← hNX]; exact e))
      have HMB : Hid (NX ≠ 20 → NT = NX + 1 ∧ ST = SX) := hide (fun e => by
        have := HM.out.2 (by rw [← hNX]; exact e)
        rw [hNT, hST, this, hNX, hSX]; exact ⟨rfl, rfl⟩)
      rw [← hNT, ← hST] at HV2
      rw [← hNX] at hle
      have e0 : NX = 0 := by rw [hNX, hl0]
      have e1 : SX = str L := by rw [hSX, hl0]
      subst e0 e1
      clear hNT hST hNX hSX HM hT hTL hL hsz hbig hc hget hg hg0 hs hl0
      obtain ⟨hNT, hST⟩ := HMB.out (by decide)
      subst hNT hST
      have z1 : ((0 : Int) == 20) = false := rfl
      have z2 : (((0 + 1 : Nat) : Int) == (0 : Int) + 1) = true := rfl
      have z3 : ((str L).toList == (str L).toList) = true := beq_self_eq_true _
      clear HMA HMB
      go_enter Try.func6, Try.ntmps6
      go_wp2_with fail
      refine HV1.out.mono ?_
      rintro e w1 ⟨rfl, rfl⟩
      go_wp2_with fail
      rw [← HT.out]
      refine HV2.out.mono ?_
      rintro e w2 ⟨rfl, rfl⟩
      go_wp2_with fail
      refine (HLV.out _ (Below.refl _ _)).mono ?_
      rintro e w4 ⟨rfl, hb⟩
      go_wp2_with fail
      go_ret
      exact ⟨rfl, hb⟩
    | false =>
      obtain ⟨T, hT⟩ : ∃ T, T = (⟨#[62]⟩ : ByteArray) ++ line := ⟨_, rfl⟩
      have hTL : T.data.toList = 62 :: L := by rw [hT, app_list, ← hL]; rfl
      have HV2 := hide (level_any T w (by rw [size_of, hTL]; simp only [List.length_cons]; omega))
      rw [hTL] at HV2
      unfold levelV at HV2
      have HT := hide hT
      have hsum : ¬ (9223372036854775807 < 1 + line.size) := by omega
      by_cases hnil : L = []
      · have n1 : line.toList.isEmpty = true := by rw [bytes_list, ← hL, hnil]; rfl
        have HM := hide (level_more L L (by rw [hnil]; rfl))
        have hl0 : levelL L = (0, L) := by rw [hnil]; rfl
        have n3 : ((0 : Int) != 0) = false := rfl
        rw [hl0] at HV1
        have q1 : ((str L).toList == line.toList) = true := by rw [HSTR.out]; exact beq_self_eq_true _
        have q2 : ((str L).toList != line.toList) = false := by rw [bne, q1]; rfl
        have hle := (levelL_le L).1
        obtain ⟨NX, hNX⟩ : ∃ n, n = (levelL L).1 := ⟨_, rfl⟩
        obtain ⟨SX, hSX⟩ : ∃ s, s = str (levelL L).2 := ⟨_, rfl⟩
        obtain ⟨NT, hNT⟩ : ∃ n, n = (levelL (62 :: L)).1 := ⟨_, rfl⟩
        obtain ⟨ST, hST⟩ : ∃ s, s = str (levelL (62 :: L)).2 := ⟨_, rfl⟩
        have HMA : Hid (NX = 20 → NT = 20) := hide (fun e => by rw [hNT]; exact HM.out.1 (by rw [← hNX]; exact e))
        have HMB : Hid (NX ≠ 20 → NT = NX + 1 ∧ ST = SX) := hide (fun e => by
          have := HM.out.2 (by rw [← hNX]; exact e)
          rw [hNT, hST, this, hNX, hSX]; exact ⟨rfl, rfl⟩)
        rw [← hNT, ← hST] at HV2
        rw [← hNX] at hle
        have e0 : NX = 0 := by rw [hNX, hl0]
        have e1 : SX = str L := by rw [hSX, hl0]
        subst e0 e1
        clear hNT hST hNX hSX HM hT hTL hL hsz hbig hnil hl0
        obtain ⟨hNT, hST⟩ := HMB.out (by decide)
        subst hNT hST
        have z1 : ((0 : Int) == 20) = false := rfl
        have z2 : (((0 + 1 : Nat) : Int) == (0 : Int) + 1) = true := rfl
        have z3 : ((str L).toList == (str L).toList) = true := beq_self_eq_true _
        clear HMA HMB
        go_enter Try.func6, Try.ntmps6
        go_wp2_with fail
        refine HV1.out.mono ?_
        rintro e w1 ⟨rfl, rfl⟩
        go_wp2_with fail
        rw [← HT.out]
        refine HV2.out.mono ?_
        rintro e w2 ⟨rfl, rfl⟩
        go_wp2_with fail
        refine (HLV.out _ (Below.refl _ _)).mono ?_
        rintro e w4 ⟨rfl, hb⟩
        go_wp2_with fail
        go_ret
        exact ⟨rfl, hb⟩
      obtain ⟨c, r, hc⟩ := List.exists_cons_of_ne_nil hnil
      by_cases hg : c = 62
      · have n1 : line.toList.isEmpty = false := by rw [bytes_list, ← hL, hc]; rfl
        have hpos : 0 < line.size := by rw [hsz, hc]; simp
        have hget : line[0]'hpos = c := by
          have h1 := drop_cons line 0 hpos
          rw [← hL, List.drop_zero, hc] at h1
          injection h1 with h1 _
          exact h1.symm
        have HM := hide (level_more L L (by rw [hc, hg]; rfl))
        have n2 : ((line[0].toNat : Int) != 62) = false := by
          rw [hget, bne, show ((c.toNat : Int) == 62) = true from tT 62 hg (by decide)]; rfl
        have n5 : ((line[0].toNat : Int) == 32) = false := by
          rw [hget]; exact tF 32 (by rw [hg]; decide) (by decide)
        have hle := (levelL_le L).1
        obtain ⟨NX, hNX⟩ : ∃ n, n = (levelL L).1 := ⟨_, rfl⟩
        obtain ⟨SX, hSX⟩ : ∃ s, s = str (levelL L).2 := ⟨_, rfl⟩
        obtain ⟨NT, hNT⟩ : ∃ n, n = (levelL (62 :: L)).1 := ⟨_, rfl⟩
        obtain ⟨ST, hST⟩ : ∃ s, s = str (levelL (62 :: L)).2 := ⟨_, rfl⟩
        have HMA : Hid (NX = 20 → NT = 20) := hide (fun e => by rw [hNT]; exact HM.out.1 (by rw [← hNX]; exact e))
        have HMB : Hid (NX ≠ 20 → NT = NX + 1 ∧ ST = SX) := hide (fun e => by
          have := HM.out.2 (by rw [← hNX]; exact e)
          rw [hNT, hST, this, hNX, hSX]; exact ⟨rfl, rfl⟩)
        rw [← hNT, ← hST] at HV2
        rw [← hNX] at hle
        rw [← hNX, ← hSX] at HV1
        have n3 : True := trivial
        clear hNT hST hNX hSX HM hT hTL hL hsz hbig hc hget hg
        by_cases h20 : NX = 20
        · obtain rfl := HMA.out h20
          have z1 : ((NX : Int) == 20) = true := by rw [h20]; rfl
          have z2 : (((20 : Nat) : Int) == 20) = true := rfl
          clear HMA HMB
          go_enter Try.func6, Try.ntmps6
          go_wp2_with fail
          refine HV1.out.mono ?_
          rintro e w1 ⟨rfl, rfl⟩
          go_wp2_with fail
          rw [← HT.out]
          refine HV2.out.mono ?_
          rintro e w2 ⟨rfl, rfl⟩
          go_wp2_with fail
          refine (HLV.out _ (Below.refl _ _)).mono ?_
          rintro e w4 ⟨rfl, hb⟩
          go_wp2_with fail
          go_ret
          exact ⟨rfl, hb⟩
        · obtain ⟨hNT, hST⟩ := HMB.out h20
          subst hNT hST
          have z1 : ((NX : Int) == 20) = false := by rw [beq_eq_false_iff_ne]; omega
          have z2 : (((NX + 1 : Nat) : Int) == (NX : Int) + 1) = true := by rw [beq_iff_eq]; omega
          have z3 : (ST.toList == ST.toList) = true := beq_self_eq_true _
          have z4 : wrap64 ((NX : Int) + 1) = (NX : Int) + 1 := by clear z1 z2; unfold wrap64; omega
          clear HMA HMB
          go_enter Try.func6, Try.ntmps6
          go_wp2_with fail
          refine HV1.out.mono ?_
          rintro e w1 ⟨rfl, rfl⟩
          go_wp2_with fail
          rw [← HT.out]
          refine HV2.out.mono ?_
          rintro e w2 ⟨rfl, rfl⟩
          go_wp2_with fail
          refine (HLV.out _ (Below.refl _ _)).mono ?_
          rintro e w4 ⟨rfl, hb⟩
          go_wp2_with fail
          go_ret
          exact ⟨rfl, hb⟩
      have hg0 := hg
      clear hg
      by_cases hg : c = 32
      · have n1 : line.toList.isEmpty = false := by rw [bytes_list, ← hL, hc]; rfl
        have hpos : 0 < line.size := by rw [hsz, hc]; simp
        have hget : line[0]'hpos = c := by
          have h1 := drop_cons line 0 hpos
          rw [← hL, List.drop_zero, hc] at h1
          injection h1 with h1 _
          exact h1.symm
        have HM := hide (level_more r L (by rw [hc, hg]; rfl))
        have hl0 : levelL L = (0, L) := by rw [levelL, lvP_none 20 L (by rw [hc]; intro e; exact hg0 (Option.some.inj e))]
        have n3 : ((0 : Int) != 0) = false := rfl
        rw [hl0] at HV1
        have q1 : ((str L).toList == line.toList) = true := by rw [HSTR.out]; exact beq_self_eq_true _
        have q2 : ((str L).toList != line.toList) = false := by rw [bne, q1]; rfl
        have n2 : ((line[0].toNat : Int) != 62) = true := by
          rw [hget, bne, show ((c.toNat : Int) == 62) = false from tF 62 hg0 (by decide)]; rfl
        have n5 : ((line[0].toNat : Int) == 32) = true := by
          rw [hget]; exact tT 32 hg (by decide)
        obtain ⟨R, hR⟩ : ∃ R, R = line.extract 1 line.size := ⟨_, rfl⟩
        have hRL : R.data.toList = r := by rw [hR, extract_end, ← hL, hc]; rfl
        have HV3 := hide (level_any R w (by rw [size_of, hRL]; rw [hc] at hsz; simp only [List.length_cons] at hsz; omega))
        rw [hRL] at HV3
        unfold levelV at HV3
        have HR := hide hR
        have h1s : 1 ≤ line.size := hpos
        have hle := (levelL_le r).1
        obtain ⟨NX, hNX⟩ : ∃ n, n = (levelL r).1 := ⟨_, rfl⟩
        obtain ⟨SX, hSX⟩ : ∃ s, s = str (levelL r).2 := ⟨_, rfl⟩
        obtain ⟨NT, hNT⟩ : ∃ n, n = (levelL (62 :: L)).1 := ⟨_, rfl⟩
        obtain ⟨ST, hST⟩ : ∃ s, s = str (levelL (62 :: L)).2 := ⟨_, rfl⟩
        have HMA : Hid (NX = 20 → NT = 20) := hide (fun e => by rw [hNT]; exact HM.out.1 (by rw [← hNX]; exact e))
        have HMB : Hid (NX ≠ 20 → NT = NX + 1 ∧ ST = SX) := hide (fun e => by
          have := HM.out.2 (by rw [← hNX]; exact e)
          rw [hNT, hST, this, hNX, hSX]; exact ⟨rfl, rfl⟩)
        rw [← hNT, ← hST] at HV2
        rw [← hNX] at hle
        rw [← hNX, ← hSX] at HV3
        clear hNT hST hNX hSX HM hT hTL hL hsz hbig hc hget hg hg0 hl0 hR hRL
        by_cases h20 : NX = 20
        · obtain rfl := HMA.out h20
          have z1 : ((NX : Int) == 20) = true := by rw [h20]; rfl
          have z2 : (((20 : Nat) : Int) == 20) = true := rfl
          clear HMA HMB
          go_enter Try.func6, Try.ntmps6
          go_wp2_with fail
          refine HV1.out.mono ?_
          rintro e w1 ⟨rfl, rfl⟩
          go_wp2_with fail
          rw [← HT.out]
          refine HV2.out.mono ?_
          rintro e w2 ⟨rfl, rfl⟩
          go_wp2_with fail
          rw [← HR.out]
          refine HV3.out.mono ?_
          rintro e w3 ⟨rfl, rfl⟩
          go_wp2_with fail
          refine (HLV.out _ (Below.refl _ _)).mono ?_
          rintro e w4 ⟨rfl, hb⟩
          go_wp2_with fail
          go_ret
          exact ⟨rfl, hb⟩
        · obtain ⟨hNT, hST⟩ := HMB.out h20
          subst hNT hST
          have z1 : ((NX : Int) == 20) = false := by rw [beq_eq_false_iff_ne]; omega
          have z2 : (((NX + 1 : Nat) : Int) == (NX : Int) + 1) = true := by rw [beq_iff_eq]; omega
          have z3 : (ST.toList == ST.toList) = true := beq_self_eq_true _
          have z4 : wrap64 ((NX : Int) + 1) = (NX : Int) + 1 := by clear z1 z2; unfold wrap64; omega
          clear HMA HMB
          go_enter Try.func6, Try.ntmps6
          go_wp2_with fail
          refine HV1.out.mono ?_
          rintro e w1 ⟨rfl, rfl⟩
          go_wp2_with fail
          rw [← HT.out]
          refine HV2.out.mono ?_
          rintro e w2 ⟨rfl, rfl⟩
          go_wp2_with fail
          rw [← HR.out]
          refine HV3.out.mono ?_
          rintro e w3 ⟨rfl, rfl⟩
          go_wp2_with fail
          refine (HLV.out _ (Below.refl _ _)).mono ?_
          rintro e w4 ⟨rfl, hb⟩
          go_wp2_with fail
          go_ret
          exact ⟨rfl, hb⟩
      have hs := hg
      have n1 : line.toList.isEmpty = false := by rw [bytes_list, ← hL, hc]; rfl
      have hpos : 0 < line.size := by rw [hsz, hc]; simp
      have hget : line[0]'hpos = c := by
        have h1 := drop_cons line 0 hpos
        rw [← hL, List.drop_zero, hc] at h1
        injection h1 with h1 _
        exact h1.symm
      have HM := hide (level_more L L (by rw [hc]; simp only [dropB]; rw [if_neg hs]))
      have hl0 : levelL L = (0, L) := by rw [levelL, lvP_none 20 L (by rw [hc]; intro e; exact hg0 (Option.some.inj e))]
      have n3 : ((0 : Int) != 0) = false := rfl
      rw [hl0] at HV1
      have q1 : ((str L).toList == line.toList) = true := by rw [HSTR.out]; exact beq_self_eq_true _
      have q2 : ((str L).toList != line.toList) = false := by rw [bne, q1]; rfl
      have n2 : ((line[0].toNat : Int) != 62) = true := by
        rw [hget, bne, show ((c.toNat : Int) == 62) = false from tF 62 hg0 (by decide)]; rfl
      have n5 : ((line[0].toNat : Int) == 32) = false := by
        rw [hget]; exact tF 32 hs (by decide)
      have hle := (levelL_le L).1
      obtain ⟨NX, hNX⟩ : ∃ n, n = (levelL L).1 := ⟨_, rfl⟩
      obtain ⟨SX, hSX⟩ : ∃ s, s = str (levelL L).2 := ⟨_, rfl⟩
      obtain ⟨NT, hNT⟩ : ∃ n, n = (levelL (62 :: L)).1 := ⟨_, rfl⟩
      obtain ⟨ST, hST⟩ : ∃ s, s = str (levelL (62 :: L)).2 := ⟨_, rfl⟩
      have HMA : Hid (NX = 20 → NT = 20) := hide (fun e => by rw [hNT]; exact HM.out.1 (by rw [← hNX]; exact e))
      have HMB : Hid (NX ≠ 20 → NT = NX + 1 ∧ ST = SX) := hide (fun e => by
        have := HM.out.2 (by rw [← hNX]; exact e)
        rw [hNT, hST, this, hNX, hSX]; exact ⟨rfl, rfl⟩)
      rw [← hNT, ← hST] at HV2
      rw [← hNX] at hle
      have e0 : NX = 0 := by rw [hNX, hl0]
      have e1 : SX = str L := by rw [hSX, hl0]
      subst e0 e1
      clear hNT hST hNX hSX HM hT hTL hL hsz hbig hc hget hg hg0 hs hl0
      obtain ⟨hNT, hST⟩ := HMB.out (by decide)
      subst hNT hST
      have z1 : ((0 : Int) == 20) = false := rfl
      have z2 : (((0 + 1 : Nat) : Int) == (0 : Int) + 1) = true := rfl
      have z3 : ((str L).toList == (str L).toList) = true := beq_self_eq_true _
      clear HMA HMB
      go_enter Try.func6, Try.ntmps6
      go_wp2_with fail
      refine HV1.out.mono ?_
      rintro e w1 ⟨rfl, rfl⟩
      go_wp2_with fail
      rw [← HT.out]
      refine HV2.out.mono ?_
      rintro e w2 ⟨rfl, rfl⟩
      go_wp2_with fail
      refine (HLV.out _ (Below.refl _ _)).mono ?_
      rintro e w4 ⟨rfl, hb⟩
      go_wp2_with fail
      go_ret
      exact ⟨rfl, hb⟩
end Go.Proofs.Ytdeaofnhdbhknaa
