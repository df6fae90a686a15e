/- WALKS of what layer 18's laws share: few, begins, live. No statement is proved here. Own work of the verifier. -/
import Derived.Test.YtklbdobofclofaaGreatDoorRulesB
import Derived.Test.YtklbdobofclofaaGreatDoorRulesW
namespace Go.Proofs.YtklbdobofclofaaGreatDoor
open Go.RowKit
set_option linter.unusedVariables false
set_option linter.unusedSimpArgs false
set_option maxRecDepth 100000
/-- are there at most 40 files, of at most 500 bytes; an attribute of at most 1000? -/
def fileOK (f : FileL) : Bool := decide (f.kind.length ≤ 500) && decide (f.id.length ≤ 500)
def fewB (F : List FileL) (n v : List UInt8) : Bool := decide (F.length ≤ 40) && (decide (n.length ≤ 1000) && (decide (v.length ≤ 1000) && F.all fileOK))
theorem few_facts {F : List FileL} {n v : List UInt8} (h : fewB F n v = true) : F.length ≤ 40 ∧ n.length ≤ 1000 ∧ v.length ≤ 1000 ∧ ∀ f ∈ F, f.kind.length ≤ 500 := by
  unfold fewB at h
  simp only [Bool.and_eq_true, decide_eq_true_eq, List.all_eq_true] at h
  refine ⟨h.1, h.2.1, h.2.2.1, fun f hf => ?_⟩
  have := h.2.2.2 f hf
  unfold fileOK at this
  simp only [Bool.and_eq_true, decide_eq_true_eq] at this
  exact this.1
set_option maxHeartbeats 4000000 in
theorem few18_any (V : Value) (F : List FileL) (n v : ByteArray) (w : World) (hF : FilesIn w V F) (hfm : F.length ≤ maxLen) (hn : n.size ≤ maxLen) (hv : v.size ≤ maxLen) :
    Calls Tryz.prog 13 #[V, .agg #[.string n, .string v]] w fun e w' => e = .returned (.bool (fewB F n.data.toList v.data.toList)) ∧ Below w.heap.size w w' := by
  obtain ⟨A, cap, rfl⟩ := hF.form
  have HF := hide hF
  clear hF
  unfold maxLen at hn hv hfm
  have HEND : Hid (Below w.heap.size w (w.alloc (.cells #[.string n, .string v] 29))) := hide (alloc_below _ _)
  by_cases h1 : F.length ≤ 40
  · have g1 : decide ((40 : Int) < F.length) = false := decide_eq_false (by omega)
    by_cases h2 : n.size ≤ 1000
    · have g2 : decide ((1000 : Int) < n.size) = false := decide_eq_false (by omega)
      by_cases h3 : v.size ≤ 1000
      · have g3 : decide ((1000 : Int) < v.size) = false := decide_eq_false (by omega)
        have HR : Hid (fewB F n.data.toList v.data.toList = F.all fileOK) := hide (by unfold fewB; rw [toList_length, toList_length, decide_eq_true h1, decide_eq_true h2, decide_eq_true h3]; rfl)
        have HFW := hide (HF.out.kept HEND.out)
        clear h2 h3 hn hv
        go_enter Tryz.func13, Tryz.ntmps13
        go_wp2_with fail
        clear g1 g2 g3
        go_loopw [5] (fun iv wr => ∃ k : Nat, k ≤ F.length ∧ iv = .int .i64 k ∧ Hid (Below w.heap.size w wr) ∧ Hid (F.all fileOK = (F.drop k).all fileOK)) (fun iv _ => F.length - (intOf iv).toNat)
        case atStart => exact ⟨0, Nat.zero_le _, rfl, HEND, hide rfl⟩
        case round =>
          obtain ⟨k, hk, rfl, HW, HG⟩ := hrel
          by_cases hlt : k < F.length
          · obtain ⟨a, rfl, d0, d1, d2, d3⟩ := (HF.out.kept HW.out).at k _ (List.getElem?_eq_getElem hlt)
            have hdr : F.drop k = F[k] :: F.drop (k + 1) := List.drop_eq_getElem_cons hlt
            have HLT := hide hlt
            obtain ⟨p, hp⟩ : ∃ p, F[k]'hlt = p := ⟨_, rfl⟩
            rw [hp] at d0 d1 d2 d3 hdr
            obtain ⟨P1, hP1⟩ : ∃ P1, str p.kind = P1 := ⟨_, rfl⟩
            obtain ⟨P2, hP2⟩ : ∃ P2, str p.id = P2 := ⟨_, rfl⟩
            rw [hP1] at d1
            rw [hP2] at d2
            have l1 : p.kind.length = P1.size := by rw [← hP1, str_size]
            have l2 : p.id.length = P2.size := by rw [← hP2, str_size]
            have HG2 := HG.out
            rw [hdr, List.all_cons] at HG2
            rw [show fileOK p = (decide (P1.size ≤ 500) && decide (P2.size ≤ 500)) by unfold fileOK; rw [l1, l2]] at HG2
            clear hp hP1 hP2 l1 l2 hdr d0 d3
            by_cases z1 : P1.size ≤ 500
            · have e1 : decide ((500 : Int) < P1.size) = false := decide_eq_false (by omega)
              by_cases z2 : P2.size ≤ 500
              · have e2 : decide ((500 : Int) < P2.size) = false := decide_eq_false (by omega)
                have HG3 : Hid (F.all fileOK = (F.drop (k + 1)).all fileOK) := hide (by
                  rw [decide_eq_true z1, decide_eq_true z2] at HG2
                  exact HG2)
                clear HG2 z1 z2
                go_wp2_with fail
                go_roundw
                case rel => exact ⟨k + 1, HLT.out, by go_num, HW, HG3⟩
                case measure => simp [intOf]; have := HLT.out; omega
              · have e2 : decide ((500 : Int) < P2.size) = true := decide_eq_true (by omega)
                have HR2 : Hid (F.all fileOK = false) := hide (by
                  rw [HG2, decide_eq_false z2]; simp)
                clear HG2 z1 z2
                go_wp2_with fail
                go_ret
                exact ⟨by rw [HR.out, HR2.out]; rfl, HW.out⟩
            · have e1 : decide ((500 : Int) < P1.size) = true := decide_eq_true (by omega)
              have HR2 : Hid (F.all fileOK = false) := hide (by
                rw [HG2, decide_eq_false z1]; simp)
              clear HG2 z1
              go_wp2_with fail
              go_ret
              exact ⟨by rw [HR.out, HR2.out]; rfl, HW.out⟩
          · have HR2 : Hid (F.all fileOK = true) := hide (by rw [HG.out, List.drop_eq_nil_of_le (by omega)]; rfl)
            go_wp2_with fail
            go_ret
            exact ⟨by rw [HR.out, HR2.out]; rfl, HW.out⟩
      · have g3 : decide ((1000 : Int) < v.size) = true := decide_eq_true (by omega)
        have HR : Hid (fewB F n.data.toList v.data.toList = false) := hide (by unfold fewB; rw [toList_length, toList_length, decide_eq_false h3]; simp)
        go_enter Tryz.func13, Tryz.ntmps13
        go_wp2_with fail
        go_ret
        exact ⟨by rw [HR.out]; rfl, HEND.out⟩
    · have g2 : decide ((1000 : Int) < n.size) = true := decide_eq_true (by omega)
      have HR : Hid (fewB F n.data.toList v.data.toList = false) := hide (by unfold fewB; rw [toList_length, toList_length, decide_eq_false h2]; simp)
      go_enter Tryz.func13, Tryz.ntmps13
      go_wp2_with fail
      go_ret
      exact ⟨by rw [HR.out]; rfl, HEND.out⟩
  · have g1 : decide ((40 : Int) < F.length) = true := decide_eq_true (by omega)
    have HR : Hid (fewB F n.data.toList v.data.toList = false) := hide (by unfold fewB; rw [decide_eq_false h1]; simp)
    go_enter Tryz.func13, Tryz.ntmps13
    go_wp2_with fail
    go_ret
    exact ⟨by rw [HR.out]; rfl, HEND.out⟩
theorem begB_len {s u : List UInt8} (h : s.length < u.length) : begB s u = false := by unfold begB; rw [decide_eq_false (by omega)]; rfl
theorem begB_ok {s u : List UInt8} (h : u.length ≤ s.length) (h2 : lowL (s.take u.length) = u.take u.length) : begB s u = true := by
  unfold begB
  rw [decide_eq_true h, h2, List.take_length]; simp
theorem begB_no {s u : List UInt8} {k : Nat} (hs : k < s.length) (hu : k < u.length) (h : lowC s[k] ≠ u[k]) : begB s u = false := by
  unfold begB
  cases hd : decide (u.length ≤ s.length) with
  | false => rfl
  | true =>
    rw [Bool.true_and, beq_eq_false_iff_ne]
    intro e
    have e2 : (lowL (s.take u.length))[k]? = u[k]? := by rw [e]
    unfold lowL at e2
    rw [List.getElem?_map, List.getElem?_take_of_lt hu, List.getElem?_eq_getElem hs, List.getElem?_eq_getElem hu] at e2
    injection e2 with e2
    exact h e2
set_option maxHeartbeats 4000000 in
theorem begins_any (s u : ByteArray) (w : World) (hs : s.size ≤ maxLen) (hu : u.size ≤ maxLen) :
    Calls Tryz.prog 18 #[.string s, .string u] w fun e w' => e = .returned (.bool (begB s.data.toList u.data.toList)) ∧ w = w' := by
  unfold maxLen at hs hu
  by_cases hlen : s.size < u.size
  · have g1 : decide ((s.size : Int) < u.size) = true := decide_eq_true (by omega)
    have g2 : decide (s.size < u.size) = true := decide_eq_true hlen
    have HR : Hid (begB s.data.toList u.data.toList = false) := hide (begB_len (by rw [toList_length, toList_length]; exact hlen))
    go_enter Tryz.func18, Tryz.ntmps18
    go_wp2_with fail
    go_ret
    exact ⟨by rw [HR.out]; rfl, rfl⟩
  · have g1 : decide ((s.size : Int) < u.size) = false := decide_eq_false (by omega)
    have g2 : decide (s.size < u.size) = false := decide_eq_false hlen
    have HLE := hide (Nat.le_of_not_lt hlen)
    clear hlen
    go_enter Tryz.func18, Tryz.ntmps18
    go_wp2_with fail
    clear g1 g2
    go_loop [5] (fun iv => ∃ k : Nat, k ≤ u.size ∧ iv = .int .i64 k ∧ Hid (lowL (s.data.toList.take k) = u.data.toList.take k)) (fun iv => u.size - (intOf iv).toNat)
    case atStart => exact ⟨0, Nat.zero_le _, rfl, hide rfl⟩
    case round =>
      obtain ⟨k, hk, rfl, HN⟩ := hrel
      by_cases hlt : k < u.size
      · have hks : k < s.size := Nat.lt_of_lt_of_le hlt HLE.out
        have HY : lowC s[k] = u[k] → Hid (lowL (s.data.toList.take (k + 1)) = u.data.toList.take (k + 1)) := fun h => hide (by
          rw [take_snoc s k hks, take_snoc u k hlt, ← HN.out, ← h]; simp [lowL])
        have HX : lowC s[k] ≠ u[k] → Hid (begB s.data.toList u.data.toList = false) := fun h => hide (begB_no (by rw [toList_length]; exact hks) (by rw [toList_length]; exact hlt) h)
        rcases lowC_case s[k] with ⟨a1, a2, a3⟩ | ⟨a1, a3⟩
        · have f1 : decide ((65 : Int) ≤ s[k].toNat) = true := decide_eq_true (by omega)
          have f2 : decide ((s[k].toNat : Int) ≤ 90) = true := decide_eq_true (by omega)
          have f3 : IntKind.u8.wrap ((s[k].toNat : Int) + 32) = (s[k].toNat : Int) + 32 := IntWalk.u8_in _ (by omega)
          have hb := byte_lt u[k]
          by_cases he : lowC s[k] = u[k]
          · have f4 : ((s[k].toNat : Int) + 32 == (u[k].toNat : Int)) = true := by rw [beq_iff_eq, ← he, a3]; omega
            have f5 : ((s[k].toNat : Int) + 32 != (u[k].toNat : Int)) = false := by rw [bne, f4]; rfl
            have HY2 := HY he
            clear HX HY he a1 a2 a3 hb
            go_wp2_with fail
            go_round
            case rel => exact ⟨k + 1, hlt, by go_num, HY2⟩
            case measure => simp [intOf]; omega
          · have f4 : ((s[k].toNat : Int) + 32 == (u[k].toNat : Int)) = false := by
              rw [beq_eq_false_iff_ne]; intro e; apply he; apply UInt8.toNat_inj.1; rw [a3]; omega
            have f5 : ((s[k].toNat : Int) + 32 != (u[k].toNat : Int)) = true := by rw [bne, f4]; rfl
            have HX2 := HX he
            clear HX HY he a1 a2 a3 hb
            go_wp2_with fail
            go_ret
            exact ⟨by rw [HX2.out]; rfl, rfl⟩
        · have f1 : (decide ((65 : Int) ≤ s[k].toNat) = true ∧ decide ((s[k].toNat : Int) ≤ 90) = false) ∨ decide ((65 : Int) ≤ s[k].toNat) = false := by
            rcases a1 with a1 | a1
            · exact .inr (decide_eq_false (by omega))
            · exact .inl ⟨decide_eq_true (by omega), decide_eq_false (by omega)⟩
          rw [a3] at HX HY
          clear a1 a3
          by_cases he : s[k] = u[k]
          · have f4 : ((s[k].toNat : Int) == (u[k].toNat : Int)) = true := by rw [he]; exact beq_self_eq_true _
            have f5 : ((s[k].toNat : Int) != (u[k].toNat : Int)) = false := by rw [bne, f4]; rfl
            have HY2 := HY he
            clear HX HY he
            rcases f1 with ⟨f1, f2⟩ | f1
            all_goals
              go_wp2_with fail
              go_round
              case rel => exact ⟨k + 1, hlt, by go_num, HY2⟩
              case measure => simp [intOf]; omega
          · have f4 : ((s[k].toNat : Int) == (u[k].toNat : Int)) = false := by
              rw [beq_eq_false_iff_ne]; intro e; apply he; apply UInt8.toNat_inj.1; omega
            have f5 : ((s[k].toNat : Int) != (u[k].toNat : Int)) = true := by rw [bne, f4]; rfl
            have HX2 := HX he
            clear HX HY he
            rcases f1 with ⟨f1, f2⟩ | f1
            all_goals
              go_wp2_with fail
              go_ret
              exact ⟨by rw [HX2.out]; rfl, rfl⟩
      · have HR : Hid (begB s.data.toList u.data.toList = true) := hide (by
          obtain rfl : k = u.size := by omega
          refine begB_ok (by rw [toList_length, toList_length]; exact HLE.out) ?_
          have := HN.out
          rw [toList_length]; exact this)
        go_wp2_with fail
        go_ret
        exact ⟨by rw [HR.out]; rfl, rfl⟩
def F2v : List FileL := [⟨[], [116, 101, 120, 116, 47, 99, 115, 115], [121], []⟩, ⟨[], [105, 109, 97, 103, 101, 47, 112, 110, 103], [120], []⟩]
theorem live18_1 : valL false false F2v [105, 109, 103] [115, 114, 99] [67, 73, 68, 58, 120] = some [97, 116, 116, 58, 49] := by decide +kernel
theorem live18_2 : valL false false F2v [105, 109, 103] [115, 114, 99] [99, 105, 100, 58, 121] = none := by decide +kernel
theorem live18_3 : valL false false [] [97] [104, 114, 101, 102] [32, 104, 116, 116, 112, 115, 58, 47, 47, 104, 10, 47] = some [104, 116, 116, 112, 115, 58, 47, 47, 104, 47] := by decide +kernel
theorem live18_4 : valL false false [] [97] [104, 114, 101, 102] [106, 97, 118, 97, 115, 99, 114, 105, 112, 116, 58, 120] = none := by decide +kernel
theorem live18_5 : blockB false [105, 109, 103] [115, 114, 99] [104, 116, 116, 112, 58, 47, 47, 104] = true := by decide +kernel
theorem live18_6 : elemN [98] = 2 ∧ elemN [115, 99, 114, 105, 112, 116] = 0 ∧ elemN [102, 111, 110, 116] = 1 ∧ attrB [97] [104, 114, 101, 102] = true ∧ attrB [97] [111, 110, 99, 108, 105, 99, 107] = false := by decide +kernel
/-- what rules asks of memory: utf8's tables, css's names, strconv's errors -/
def EnvR (w : World) : Prop := EnvU w ∧ EnvC w ∧ EnvS w
theorem EnvR.kept {w w' : World} (h : EnvR w) (hb : Below w.heap.size w w') : EnvR w' := ⟨h.1.kept hb, h.2.1.kept hb, h.2.2.kept hb⟩
theorem F2_in (w : World) : FilesIn (w.alloc (.cells #[.string ⟨#[]⟩, .string ⟨#[116, 101, 120, 116, 47, 99, 115, 115]⟩, .string ⟨#[121]⟩, .string ⟨#[]⟩, .string ⟨#[]⟩, .string ⟨#[105, 109, 97, 103, 101, 47, 112, 110, 103]⟩, .string ⟨#[120]⟩, .string ⟨#[]⟩] 39)) (.slice (some ⟨w.heap.size, 0, none⟩) F2v.length 2) F2v := by
  refine .inr ⟨⟨w.heap.size, 0, none⟩, 2, rfl, by decide, by decide, fun j hj => ?_⟩
  have hj2 : j < 2 := hj
  have hc : ∀ i, (w.alloc (.cells #[.string ⟨#[]⟩, .string ⟨#[116, 101, 120, 116, 47, 99, 115, 115]⟩, .string ⟨#[121]⟩, .string ⟨#[]⟩, .string ⟨#[]⟩, .string ⟨#[105, 109, 97, 103, 101, 47, 112, 110, 103]⟩, .string ⟨#[120]⟩, .string ⟨#[]⟩] 39)).cell? ⟨w.heap.size, i, none⟩ = (#[Value.string ⟨#[]⟩, .string ⟨#[116, 101, 120, 116, 47, 99, 115, 115]⟩, .string ⟨#[121]⟩, .string ⟨#[]⟩, .string ⟨#[]⟩, .string ⟨#[105, 109, 97, 103, 101, 47, 112, 110, 103]⟩, .string ⟨#[120]⟩, .string ⟨#[]⟩] : Array Value)[i]? := fun i => World.cell?_alloc_at _ _ _ _ rfl
  obtain rfl | rfl : j = 0 ∨ j = 1 := by omega
  · exact ⟨hc 0, hc 1, hc 2, hc 3⟩
  · exact ⟨hc 4, hc 5, hc 6, hc 7⟩
set_option maxHeartbeats 8000000 in
theorem live18_any (w : World) (hE : EnvR w) : Calls Tryz.prog 12 #[] w fun e w' => e = .returned (.bool true) ∧ Below w.heap.size w w' := by
  have HE := hide hE
  clear hE
  go_enter Tryz.func12, Tryz.ntmps12
  go_wp2_with fail
  have HB0 : Hid (Below w.heap.size w (w.alloc (.cells #[.string ⟨#[]⟩, .string ⟨#[116, 101, 120, 116, 47, 99, 115, 115]⟩, .string ⟨#[121]⟩, .string ⟨#[]⟩, .string ⟨#[]⟩, .string ⟨#[105, 109, 97, 103, 101, 47, 112, 110, 103]⟩, .string ⟨#[120]⟩, .string ⟨#[]⟩] 39))) := hide (alloc_below w _)
  have HF0 := hide (F2_in w)
  have HE0 := hide (HE.out.kept HB0.out)
  refine (value_any false false false (some ⟨w.heap.size, 0, none⟩) F2v 2 ⟨#[105, 109, 103]⟩ ⟨#[115, 114, 99]⟩ ⟨#[67, 73, 68, 58, 120]⟩ _ HF0.out (by decide) (by decide) HE0.out.1 HE0.out.2.1 HE0.out.2.2).mono ?_
  rintro e w1 ⟨rfl, hb⟩
  rw [show valV (valL false false F2v (⟨#[105, 109, 103]⟩ : ByteArray).data.toList (⟨#[115, 114, 99]⟩ : ByteArray).data.toList (⟨#[67, 73, 68, 58, 120]⟩ : ByteArray).data.toList) = .tuple #[.string ⟨#[97, 116, 116, 58, 49]⟩, .bool true] by rw [show valL false false F2v (⟨#[105, 109, 103]⟩ : ByteArray).data.toList (⟨#[115, 114, 99]⟩ : ByteArray).data.toList (⟨#[67, 73, 68, 58, 120]⟩ : ByteArray).data.toList = _ from live18_1]; rfl]
  have HF1 := hide (HF0.out.kept hb)
  have HE1 := hide (HE0.out.kept hb)
  have HB1 := hide (HB0.out.trans (hb.mono HB0.out.size))
  clear hb
  go_wp2_with fail
  refine (value_any false false false (some ⟨w.heap.size, 0, none⟩) F2v 2 ⟨#[105, 109, 103]⟩ ⟨#[115, 114, 99]⟩ ⟨#[99, 105, 100, 58, 121]⟩ _ HF1.out (by decide) (by decide) HE1.out.1 HE1.out.2.1 HE1.out.2.2).mono ?_
  rintro e w2 ⟨rfl, hb⟩
  rw [show valV (valL false false F2v (⟨#[105, 109, 103]⟩ : ByteArray).data.toList (⟨#[115, 114, 99]⟩ : ByteArray).data.toList (⟨#[99, 105, 100, 58, 121]⟩ : ByteArray).data.toList) = .tuple #[.string ⟨#[]⟩, .bool false] by rw [show valL false false F2v (⟨#[105, 109, 103]⟩ : ByteArray).data.toList (⟨#[115, 114, 99]⟩ : ByteArray).data.toList (⟨#[99, 105, 100, 58, 121]⟩ : ByteArray).data.toList = _ from live18_2]; rfl]
  have HE2 := hide (HE1.out.kept hb)
  have HB2 := hide (HB1.out.trans (hb.mono HB1.out.size))
  clear hb
  go_wp2_with fail
  refine (value_any false false false none [] 0 ⟨#[97]⟩ ⟨#[104, 114, 101, 102]⟩ ⟨#[32, 104, 116, 116, 112, 115, 58, 47, 47, 104, 10, 47]⟩ _ (FilesIn.nil _) (by decide) (by decide) HE2.out.1 HE2.out.2.1 HE2.out.2.2).mono ?_
  rintro e w3 ⟨rfl, hb⟩
  rw [show valV (valL false false [] (⟨#[97]⟩ : ByteArray).data.toList (⟨#[104, 114, 101, 102]⟩ : ByteArray).data.toList (⟨#[32, 104, 116, 116, 112, 115, 58, 47, 47, 104, 10, 47]⟩ : ByteArray).data.toList) = .tuple #[.string ⟨#[104, 116, 116, 112, 115, 58, 47, 47, 104, 47]⟩, .bool true] by rw [show valL false false [] (⟨#[97]⟩ : ByteArray).data.toList (⟨#[104, 114, 101, 102]⟩ : ByteArray).data.toList (⟨#[32, 104, 116, 116, 112, 115, 58, 47, 47, 104, 10, 47]⟩ : ByteArray).data.toList = _ from live18_3]; rfl]
  have HE3 := hide (HE2.out.kept hb)
  have HB3 := hide (HB2.out.trans (hb.mono HB2.out.size))
  clear hb
  go_wp2_with fail
  refine (value_any false false false none [] 0 ⟨#[97]⟩ ⟨#[104, 114, 101, 102]⟩ ⟨#[106, 97, 118, 97, 115, 99, 114, 105, 112, 116, 58, 120]⟩ _ (FilesIn.nil _) (by decide) (by decide) HE3.out.1 HE3.out.2.1 HE3.out.2.2).mono ?_
  rintro e w4 ⟨rfl, hb⟩
  rw [show valV (valL false false [] (⟨#[97]⟩ : ByteArray).data.toList (⟨#[104, 114, 101, 102]⟩ : ByteArray).data.toList (⟨#[106, 97, 118, 97, 115, 99, 114, 105, 112, 116, 58, 120]⟩ : ByteArray).data.toList) = .tuple #[.string ⟨#[]⟩, .bool false] by rw [show valL false false [] (⟨#[97]⟩ : ByteArray).data.toList (⟨#[104, 114, 101, 102]⟩ : ByteArray).data.toList (⟨#[106, 97, 118, 97, 115, 99, 114, 105, 112, 116, 58, 120]⟩ : ByteArray).data.toList = _ from live18_4]; rfl]
  have HE4 := hide (HE3.out.kept hb)
  have HB4 := hide (HB3.out.trans (hb.mono HB3.out.size))
  clear hb
  go_wp2_with fail
  refine (element_any ⟨#[98]⟩ _).mono ?_
  rintro e we ⟨rfl, rfl⟩
  rw [show ((elemN (⟨#[98]⟩ : ByteArray).data.toList : Nat) : Int) = 2 from congrArg Int.ofNat live18_6.1]
  go_wp2_with fail
  refine (element_any ⟨#[115, 99, 114, 105, 112, 116]⟩ _).mono ?_
  rintro e we ⟨rfl, rfl⟩
  rw [show ((elemN (⟨#[115, 99, 114, 105, 112, 116]⟩ : ByteArray).data.toList : Nat) : Int) = 0 from congrArg Int.ofNat live18_6.2.1]
  go_wp2_with fail
  refine (element_any ⟨#[102, 111, 110, 116]⟩ _).mono ?_
  rintro e we ⟨rfl, rfl⟩
  rw [show ((elemN (⟨#[102, 111, 110, 116]⟩ : ByteArray).data.toList : Nat) : Int) = 1 from congrArg Int.ofNat live18_6.2.2.1]
  go_wp2_with fail
  refine (attr_any ⟨#[97]⟩ ⟨#[104, 114, 101, 102]⟩ _).mono ?_
  rintro e we ⟨rfl, rfl⟩
  rw [show attrB (⟨#[97]⟩ : ByteArray).data.toList (⟨#[104, 114, 101, 102]⟩ : ByteArray).data.toList = true from live18_6.2.2.2.1]
  go_wp2_with fail
  refine (attr_any ⟨#[97]⟩ ⟨#[111, 110, 99, 108, 105, 99, 107]⟩ _).mono ?_
  rintro e we ⟨rfl, rfl⟩
  rw [show attrB (⟨#[97]⟩ : ByteArray).data.toList (⟨#[111, 110, 99, 108, 105, 99, 107]⟩ : ByteArray).data.toList = false from live18_6.2.2.2.2]
  go_wp2_with fail
  refine (blocked_any false false false ⟨#[105, 109, 103]⟩ ⟨#[115, 114, 99]⟩ ⟨#[104, 116, 116, 112, 58, 47, 47, 104]⟩ _ (by decide) HE4.out.1).mono ?_
  rintro e w5 ⟨rfl, hb⟩
  rw [show blockB false (⟨#[105, 109, 103]⟩ : ByteArray).data.toList (⟨#[115, 114, 99]⟩ : ByteArray).data.toList (⟨#[104, 116, 116, 112, 58, 47, 47, 104]⟩ : ByteArray).data.toList = true from live18_5]
  have HB5 := hide (HB4.out.trans (hb.mono HB4.out.size))
  clear hb
  go_wp2_with fail
  go_ret
  exact ⟨rfl, HB5.out⟩
end Go.Proofs.YtklbdobofclofaaGreatDoor
