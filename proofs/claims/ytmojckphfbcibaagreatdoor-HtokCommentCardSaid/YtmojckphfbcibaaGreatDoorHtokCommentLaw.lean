/- WALK of the law HtokComment. Written by wip/tools/htoklaws.py. No statement is proved here. Own work of the verifier. -/
import Derived.Test.YtmojckphfbcibaaGreatDoorRef13L
import Derived.Test.YtmojckphfbcibaaGreatDoorHtokQ
namespace Go.Proofs.YtmojckphfbcibaaGreatDoor
open Go.RowKit
set_option linter.unusedVariables false
set_option linter.unusedSimpArgs false
set_option maxRecDepth 100000
set_option maxHeartbeats 8000000 in
theorem law_HtokComment (s : ByteArray) (hss : s.size ≤ maxLen) (w : World) (hE : EnvX w) :
    Calls Tryz.prog 9 #[.string s] w fun e w' => e = .returned (.bool true) ∧ Below w.heap.size w w' := by
  have HE := hide hE
  clear hE
  unfold maxLen at hss
  rcases Nat.lt_or_ge 300 s.size with hqs | hs
  · have t0 : decide ((300 : Int) < s.size) = true := decide_eq_true (by omega)
    go_enter Tryz.func9, Tryz.ntmps9
    go_wp2_with fail
    refine (live13_any _ HE.out).mono ?_
    rintro e wl ⟨rfl, hbl⟩
    have HBL := hide (hbl)
    clear hbl
    go_wp2_with fail
    go_ret
    exact ⟨rfl, HBL.out⟩
  have t0 : decide ((300 : Int) < s.size) = false := decide_eq_false (by omega)
  obtain ⟨m, hm⟩ := HE.out.2
  obtain ⟨D, hD⟩ : ∃ D : ByteArray, D = (⟨#[60, 98, 62, 60, 33, 45, 45]⟩ : ByteArray) ++ s ++ ⟨#[45, 45, 62, 60, 47, 98, 62]⟩ := ⟨_, rfl⟩
  have hDl : D.data.toList = [60, 98, 62, 60, 33, 45, 45] ++ (s.data.toList ++ [45, 45, 62, 60, 47, 98, 62]) := by
    rw [hD, toA_append, toA_append, List.append_assoc]
  have HSC := hide (scan_any D m w (by rw [← toList_length, hDl]; simp only [List.length_append, toList_length, List.length_cons, List.length_nil]; omega) HE.out.1 hm)
  have HD := hide hD
  have HPL : Hid ((45 : UInt8) ∉ s.data.toList → (62 : UInt8) ∉ s.data.toList → scanL decE [] [] D.data.toList = [startT [98] [], remT s.data.toList, endT [98]]) := hide fun h1 h2 => by
    rw [hDl]
    exact scan_remark decE s.data.toList h1 h2
  clear hm hD hDl
  go_enter Tryz.func9, Tryz.ntmps9
  go_wp2_with fail
  go_loopw [3] (fun iv wr => ∃ k : Nat, k ≤ s.size ∧ iv = .int .i64 k ∧ Hid ((45 : UInt8) ∉ s.data.toList.take k ∧ (62 : UInt8) ∉ s.data.toList.take k) ∧ Hid (wr = w)) (fun iv _ => s.size - (intOf iv).toNat)
  case atStart => exact ⟨0, Nat.zero_le _, rfl, hide (by simp), hide rfl⟩
  case round =>
    obtain ⟨k, hk, rfl, HN, HW⟩ := hrel
    obtain rfl := HW.out
    by_cases hlt : k < s.size
    · by_cases h45 : s[k] = 45
      · have t1 : ((s[k].toNat : Int) == 45) = true := tT 45 h45 (by omega)
        clear h45
        go_wp2_with fail
        refine (live13_any _ HE.out).mono ?_
        rintro e wl ⟨rfl, hbl⟩
        have HBL := hide (hbl)
        clear hbl
        go_wp2_with fail
        go_ret
        exact ⟨rfl, HBL.out⟩
      have t1 : ((s[k].toNat : Int) == 45) = false := tF 45 h45 (by omega)
      by_cases h62 : s[k] = 62
      · have t2 : ((s[k].toNat : Int) == 62) = true := tT 62 h62 (by omega)
        clear h45 h62
        go_wp2_with fail
        refine (live13_any _ HE.out).mono ?_
        rintro e wl ⟨rfl, hbl⟩
        have HBL := hide (hbl)
        clear hbl
        go_wp2_with fail
        go_ret
        exact ⟨rfl, HBL.out⟩
      have t2 : ((s[k].toNat : Int) == 62) = false := tF 62 h62 (by omega)
      have HN2 : Hid ((45 : UInt8) ∉ s.data.toList.take (k + 1) ∧ (62 : UInt8) ∉ s.data.toList.take (k + 1)) := hide (by
        rw [take_snoc s k hlt, List.mem_append, List.mem_singleton, List.mem_append, List.mem_singleton]
        exact ⟨fun e => e.elim HN.out.1 (fun e => h45 e.symm), fun e => e.elim HN.out.2 (fun e => h62 e.symm)⟩)
      clear h45 h62
      go_wp2_with fail
      go_roundw
      case rel => exact ⟨k + 1, by omega, by go_num, HN2, by first | exact trivial | exact hide rfl⟩
      case measure => simp [intOf]; omega
    · have HN3 : Hid ((45 : UInt8) ∉ s.data.toList ∧ (62 : UInt8) ∉ s.data.toList) := hide (by
        have := HN.out
        rwa [List.take_of_length_le (by rw [toList_length]; omega)] at this)
      clear HN
      go_wp2_with fail
      rw [← HD.out]
      refine HSC.out.mono ?_
      rintro e w1 ⟨v, vs, rfl, ht, hm, hb⟩
      obtain ⟨A, c, rfl⟩ := ht.slice_len
      have HE1 := hide (HE.out.kept hb)
      have HT := hide ht.in
      have HM := hide hm
      have HB1 := hide hb
      clear ht hm hb
      have hv := HM.out.trans (HPL.out HN3.out.1 HN3.out.2)
      have q2 : vs.length = 3 := by
        have := congrArg List.length hv
        rw [List.length_map] at this
        exact this
      rw [q2] at HT ⊢
      have ht := HT.out
      rw [hv] at ht
      obtain ⟨a, d0, y0, ha, b1, b2, b3, b4, hA0⟩ := ht.at 0 (gOf (startT [98] [])) rfl
      obtain ⟨a', d1, y1, ha', c1, c2, c3, c4, hA1⟩ := ht.at 1 (gOf (remT s.data.toList)) rfl
      obtain ⟨a'', d2, y2, ha'', e1, e2, e3, e4, hA2⟩ := ht.at 2 (gOf (endT [98])) rfl
      subst ha
      injection ha' with ha'
      subst ha'
      injection ha'' with ha''
      subst ha''
      have ez : (a.add (0 * 4)) = a := by cases a; simp [Addr.add]
      rw [ez] at b2
      have f1 : w1.cell? { block := a.block, off := a.off + 1 } = some (.string ⟨#[98]⟩) := b2
      have f2 : w1.cell? { block := a.block, off := a.off + 4 } = some (.int .i64 4) := c1
      have f3 : w1.cell? { block := a.block, off := a.off + 4 + 3 } = some (.string s) := by
        have h : w1.cell? { block := a.block, off := a.off + 4 + 3 } = some (.string (str s.data.toList)) := c3
        rw [str_of] at h; exact h
      have f3' : w1.cell? { block := a.block, off := a.off + 7 } = some (.string s) := f3
      have f4 : w1.cell? { block := a.block, off := a.off + 8 } = some (.int .i64 3) := e1
      clear q2 HM HT hv ht b1 b2 b3 b4 hA0 c1 c2 c3 c4 hA1 e1 e2 e3 e4 hA2 HPL HN3 ez HD
      go_wp2_with fail
      refine (live13_any _ HE1.out).mono ?_
      rintro e wl ⟨rfl, hbl⟩
      have HBL := hide (HB1.out.trans (hbl.mono HB1.out.size))
      clear hbl
      go_wp2_with fail
      go_ret
      exact ⟨rfl, HBL.out⟩
end Go.Proofs.YtmojckphfbcibaaGreatDoor
