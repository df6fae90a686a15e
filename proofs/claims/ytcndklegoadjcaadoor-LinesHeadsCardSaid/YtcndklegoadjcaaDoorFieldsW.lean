/- WALK of lines.Write. No statement is proved here. -/
import Derived.Test.YtcndklegoadjcaaDoorFields
import Derived.Test.YtcndklegoadjcaaDoorBuilder
namespace Go.Proofs.YtcndklegoadjcaaDoor
open Go.RowKit
set_option linter.unusedVariables false
set_option linter.unusedSimpArgs false
set_option maxRecDepth 100000
def okF (f : List UInt8 × List UInt8) : Bool := nameB f.1 && valueB f.2
def writeV (o : List UInt8 × Int) : Value := .tuple #[.string (str o.1), .int .i64 o.2]
theorem all_step {l : List (List UInt8 × List UInt8)} {k : Nat} {f} (h : l[k]? = some f) : (l.drop k).all okF = (okF f && (l.drop (k + 1)).all okF) := by
  obtain ⟨hlt, rfl⟩ := List.getElem?_eq_some_iff.1 h
  rw [List.drop_eq_getElem_cons hlt]; rfl
theorem writeO_bad {l : List (List UInt8 × List UInt8)} (b : List UInt8) (h : l.all okF = false) : writeO l b = ([], 1) := by
  unfold writeO; rw [show (l.all fun f => nameB f.1 && valueB f.2) = false from h]; rfl
theorem writeO_long {l : List (List UInt8 × List UInt8)} (b : List UInt8) (h : l.all okF = true) (hn : 500 < l.length) : writeO l b = ([], 3) := by
  unfold writeO; rw [show (l.all fun f => nameB f.1 && valueB f.2) = true from h, if_pos rfl, if_pos hn]
theorem writeO_good {l : List (List UInt8 × List UInt8)} (b : List UInt8) (h : l.all okF = true) (hn : ¬ 500 < l.length) : writeO l b = (writeL l b, 0) := by
  unfold writeO; rw [show (l.all fun f => nameB f.1 && valueB f.2) = true from h, if_pos rfl, if_neg hn]
def flatF (l : List (List UInt8 × List UInt8)) : List UInt8 := l.flatMap fun f => f.1 ++ [58, 32] ++ f.2 ++ [13, 10]
theorem flat_step {l : List (List UInt8 × List UInt8)} {k : Nat} {f} (h : l[k]? = some f) : flatF (l.drop k) = f.1 ++ [58, 32] ++ f.2 ++ [13, 10] ++ flatF (l.drop (k + 1)) := by
  obtain ⟨hlt, rfl⟩ := List.getElem?_eq_some_iff.1 h
  rw [List.drop_eq_getElem_cons hlt]; rfl
set_option maxHeartbeats 4000000 in
theorem write_any (v : Value) (l : List (List UInt8 × List UInt8)) (s : ByteArray) (w : World) (hl : FieldsIn w v l) (hs : s.size ≤ 1048576)
    (hz : ∀ f ∈ l, f.1.length ≤ 1048576 ∧ f.2.length ≤ 1048576) (hn : l.length ≤ 70368744177664) :
    Calls Tryd.prog 20 #[v, .string s] w fun e w' => e = .returned (writeV (writeO l s.data.toList)) ∧ Below w.heap.size w w' := by
  obtain ⟨A, cap, rfl⟩ := hl.form
  have HL := hide hl
  have HZ := hide hz
  clear hl hz
  go_enter Tryd.func20, Tryd.ntmps20
  go_wp2_with fail
  go_loopw [13] (fun i wr => ∃ k : Nat, k ≤ l.length ∧ i = .int .i64 k ∧ Hid (Below w.heap.size w wr) ∧ Hid ((l.drop k).all okF = l.all okF)) (fun i _ => l.length - (intOf i).toNat)
  case atStart => exact ⟨0, Nat.zero_le _, rfl, hide (Below.refl _ _), hide rfl⟩
  case round =>
    obtain ⟨k, hk, rfl, HB, HG⟩ := hrel
    by_cases hlt : k < l.length
    · obtain ⟨f, hf⟩ : ∃ f, l[k]? = some f := ⟨_, List.getElem?_eq_getElem hlt⟩
      obtain ⟨a, ha, hc1, hc2⟩ := (HL.out.kept HB.out).cells k f hf
      subst ha
      have e3 : ({ block := (a.add (k * 2)).block, off := (a.add (k * 2)).off + 1 } : Addr) = a.add (k * 2 + 1) := by rw [← Addr.add_add]; rfl
      have hc3 : wr.cell? { block := (a.add (k * 2)).block, off := (a.add (k * 2)).off + 1 } = some (.string (str f.2)) := by rw [e3]; exact hc2
      clear e3
      obtain ⟨hz1, hz2⟩ := HZ.out f (List.mem_of_getElem? hf)
      have HA := hide (all_step hf)
      clear hf
      have hB := HB.out.alloc HB.out.size (.cells #[.string (str f.1), .string (str f.2)] 40)
      have hcb : (wr.alloc (.cells #[.string (str f.1), .string (str f.2)] 40)).cell? { block := wr.heap.size, off := 1 } = some (.string (str f.2)) := by rw [World.cell?_alloc_at _ _ _ _ rfl]; rfl
      have HB2 := hide hB
      clear hB
      cases hnm : nameB f.1 with
      | false =>
        have HR : Hid (writeO l s.data.toList = ([], 1)) := hide (writeO_bad _ (by rw [← HG.out, HA.out]; unfold okF; rw [hnm]; rfl))
        have HNM := hide hnm
        clear hnm
        go_wp2_with fail
        refine (mayBeName_any (str f.1) _ (by rw [str_size]; unfold maxLen; omega)).mono ?_
        rintro e w2 ⟨rfl, hw2⟩
        subst hw2
        rw [str_toList, HNM.out]
        go_wp2_with fail
        go_ret2
        exact ⟨by rw [HR.out]; rfl, HB2.out⟩
      | true =>
        have HNM := hide hnm
        clear hnm
        go_wp2_with fail
        refine (mayBeName_any (str f.1) _ (by rw [str_size]; unfold maxLen; omega)).mono ?_
        rintro e w2 ⟨rfl, hw2⟩
        subst hw2
        rw [str_toList, HNM.out]
        go_wp2_with fail
        refine (mayBeValue_any (str f.2) _ (by rw [str_size]; exact hz2)).mono ?_
        rintro e w3 ⟨rfl, hb3⟩
        rw [str_toList]
        have HB3 : Hid (Below w.heap.size w w3) := hide (HB2.out.trans (hb3.mono HB2.out.size))
        clear hb3
        cases hv : valueB f.2 with
        | false =>
          have HR : Hid (writeO l s.data.toList = ([], 1)) := hide (writeO_bad _ (by rw [← HG.out, HA.out]; unfold okF; rw [HNM.out, hv]; rfl))
          clear hv
          go_wp2_with fail
          go_ret2
          exact ⟨by rw [HR.out]; rfl, HB3.out⟩
        | true =>
          have HN : Hid ((l.drop (k + 1)).all okF = l.all okF) := hide (by rw [← HG.out, HA.out]; unfold okF; rw [HNM.out, hv]; rfl)
          clear hv
          go_wp2_with fail
          go_roundw
          case rel => exact ⟨k + 1, by omega, by go_num, HB3, HN⟩
          case measure => simp [intOf]; omega
    · have HOK : Hid (l.all okF = true) := hide (by rw [← HG.out, List.drop_eq_nil_of_le (by omega)]; rfl)
      by_cases h5 : 500 < l.length
      · have HR := hide (writeO_long s.data.toList HOK.out h5)
        have t5 : decide ((l.length : Int) > 500) = true := decide_eq_true (by omega)
        go_wp2_with fail
        go_ret2
        exact ⟨by rw [HR.out]; rfl, HB.out⟩
      · have HR := hide (writeO_good s.data.toList HOK.out h5)
        have t5 : decide ((l.length : Int) > 500) = false := decide_eq_false (by omega)
        have hb0 : Bld w.heap.size wr.heap.size [] w (wr.alloc (.cells #[.pointer none, .slice none 0 0] 62)) := Bld.new HB.out HB.out.size
        have HB0 := hide hb0
        clear hb0
        go_wp2_with fail
        go_loopw [33] (fun i wz => ∃ (k : Nat) (acc : List UInt8), k ≤ l.length ∧ i = .int .i64 k ∧ Hid (Bld w.heap.size wr.heap.size acc w wz) ∧ acc.length ≤ 2097200 * k ∧ Hid (acc ++ flatF (l.drop k) = flatF l)) (fun i _ => l.length - (intOf i).toNat)
        case atStart => exact ⟨0, [], Nat.zero_le _, rfl, HB0, Nat.zero_le _, hide rfl⟩
        case round =>
          obtain ⟨k, acc, hk, rfl, HD, hac, HG⟩ := hrel
          by_cases hlt : k < l.length
          · obtain ⟨f, hf⟩ : ∃ f, l[k]? = some f := ⟨_, List.getElem?_eq_getElem hlt⟩
            obtain ⟨a, ha, hc1, hc2⟩ := (HL.out.kept HD.out.2.1).cells k f hf
            subst ha
            have e3 : ({ block := (a.add (k * 2)).block, off := (a.add (k * 2)).off + 1 } : Addr) = a.add (k * 2 + 1) := by rw [← Addr.add_add]; rfl
            have hc3 : _ = some (Value.string (str f.2)) := (congrArg _ e3).trans hc2
            clear e3
            obtain ⟨hz1, hz2⟩ := HZ.out f (List.mem_of_getElem? hf)
            have zs1 : (str f.1).size = f.1.length := str_size f.1
            have zs2 : (str f.2).size = f.2.length := str_size f.2
            have HA := hide (flat_step hf)
            clear hf
            have hB := HD.out.kept ((Below.refl _ _).alloc (Nat.le_refl _) (.cells #[.string (str f.1), .string (str f.2)] 40))
            have HB2 := hide hB
            clear hB
            obtain ⟨X, hX⟩ : ∃ X, X = str f.1 ++ ⟨#[58]⟩ ++ ⟨#[32]⟩ ++ str f.2 ++ ⟨#[13, 10]⟩ := ⟨_, rfl⟩
            have HX : Hid (X.data.toList = f.1 ++ [58, 32] ++ f.2 ++ [13, 10]) := hide (by rw [hX]; simp [str_toList])
            have zX : X.size ≤ 2097200 := by
              rw [← toList_length, HX.out]; simp; omega
            go_wp2_with fail
            rw [← hX]
            clear hX
            refine (writeString_any w.heap.size _ acc X w _ HB2.out (by omega)).mono ?_
            rintro e w2 ⟨rfl, hb2⟩
            rw [HX.out] at hb2
            have HB3 := hide hb2
            have hal : (acc ++ (f.1 ++ [58, 32] ++ f.2 ++ [13, 10])).length ≤ 2097200 * (k + 1) := by
              rw [List.length_append, ← HX.out, toList_length]; omega
            have HN : Hid ((acc ++ (f.1 ++ [58, 32] ++ f.2 ++ [13, 10])) ++ flatF (l.drop (k + 1)) = flatF l) := hide (by rw [← HG.out, HA.out]; simp)
            clear hb2
            go_wp2_with fail
            go_roundw
            case rel => exact ⟨k + 1, _, by omega, by go_num, HB3, hal, HN⟩
            case measure => simp [intOf]; omega
          · have HF : Hid (acc = flatF l) := hide (by rw [← HG.out, List.drop_eq_nil_of_le (by omega)]; simp [flatF])
            obtain ⟨X, hX⟩ : ∃ X, X = (⟨#[13, 10]⟩ : ByteArray) ++ s := ⟨_, rfl⟩
            have HX : Hid (X.data.toList = [13, 10] ++ s.data.toList) := hide (by rw [hX]; simp)
            have zX : X.size ≤ 1048600 := by
              rw [← toList_length, HX.out, List.length_append, toList_length]; simp; omega
            have hac2 : acc.length ≤ 2097200 * 500 := by omega
            go_wp2_with fail
            rw [← hX]
            clear hX
            refine (writeString_any w.heap.size _ acc X w _ HD.out (by omega)).mono ?_
            rintro e w2 ⟨rfl, hb2⟩
            rw [HX.out] at hb2
            have HB3 := hide hb2
            clear hb2
            go_wp2_with fail
            refine HB3.out.string.mono ?_
            rintro e w3 ⟨rfl, hb3⟩
            go_wp2_with fail
            go_ret2
            exact ⟨by rw [HR.out, HF.out]; simp [writeV, writeL, flatF], hb3⟩
end Go.Proofs.YtcndklegoadjcaaDoor
