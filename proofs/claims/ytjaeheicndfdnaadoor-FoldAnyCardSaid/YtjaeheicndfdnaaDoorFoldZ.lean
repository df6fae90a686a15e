/- WALK of the reference of layer 21: Where. No statement is proved here. Own work of the verifier. -/
import Derived.Test.YtjaeheicndfdnaaDoorFoldY
import Derived.Test.YtjaeheicndfdnaaDoorFoldW
namespace Go.Proofs.YtjaeheicndfdnaaDoor
open Go.RowKit
set_option linter.unusedVariables false
set_option linter.unusedSimpArgs false
set_option maxRecDepth 100000
structure W21 (D : List NdH) (k : Nat) (s : Nat × Bool) : Prop where
  eq : whereP D = whereG D k s
  no : s.2 = false → s = (0, false)
  yes : s.2 = true → k ≤ s.1 ∧ s.1 < D.length ∧ ∀ j, k ≤ j → j < s.1 → blankN (D.getD j zeroN) = true
structure Fin21 (D : List NdH) (s : Nat × Bool) : Prop where
  no : s.2 = false → whereP D = (0, false)
  lt : s.2 = true → s.1 < D.length
  all : s.2 = true → (∀ j, j < s.1 → blankN (D.getD j zeroN) = true) → whereP D = (0, false)
  one : s.2 = true → ∀ j, j < s.1 → blankN (D.getD j zeroN) = false → whereP D = (s.1, true)
theorem W21.start (D : List NdH) : W21 D D.length (0, false) := ⟨rfl, fun _ => rfl, fun h => by cases h⟩
theorem blank_quote {h : NdH} (hb : blankN h = true) : quoteN h = false := by
  cases hq : quoteN h with
  | false => rfl
  | true =>
    unfold quoteN at hq
    have e := of_decide_eq_true hq
    unfold blankN at hb
    rw [e, if_neg (by decide)] at hb
    exact absurd hb (by decide)
theorem W21.blank {D : List NdH} {k : Nat} {s : Nat × Bool} (h : W21 D (k + 1) s) (hb : blankN (D.getD k zeroN) = true) : W21 D k s := by
  refine ⟨?_, h.no, fun e => ?_⟩
  · rw [h.eq, whereG, if_neg (by rw [blank_quote hb]; decide), if_pos hb]
  · obtain ⟨h1, h2, h3⟩ := h.yes e
    refine ⟨by omega, h2, fun j hj hj2 => ?_⟩
    by_cases e2 : j = k
    · rw [e2]; exact hb
    · exact h3 j (by omega) hj2
theorem W21.quote {D : List NdH} {k : Nat} {s : Nat × Bool} (h : W21 D (k + 1) s) (hk : k < D.length) (hq : quoteN (D.getD k zeroN) = true) : W21 D k (k, true) := by
  refine W21.mk ?_ (fun e => by cases e) (fun e => ⟨Nat.le_refl _, hk, fun j hj hj2 => by simp only at hj2; omega⟩)
  rw [h.eq, whereG, if_pos hq]
theorem W21.done {D : List NdH} {s : Nat × Bool} (h : W21 D 0 s) : Fin21 D s := by
  have e0 : whereP D = (0, false) := h.eq
  refine ⟨fun _ => e0, fun e => (h.yes e).2.1, fun _ _ => e0, fun e j hj hb => ?_⟩
  rw [(h.yes e).2.2 j (Nat.zero_le _) hj] at hb
  cases hb
theorem W21.stop {D : List NdH} {k : Nat} {s : Nat × Bool} (h : W21 D (k + 1) s) (hb : blankN (D.getD k zeroN) = false) (hq : quoteN (D.getD k zeroN) = false) : Fin21 D s := by
  have e0 : whereP D = s := by rw [h.eq, whereG, if_neg (by rw [hq]; decide), if_neg (by rw [hb]; decide)]
  refine ⟨fun e => by rw [e0]; exact h.no e, fun e => (h.yes e).2.1, fun e ha => ?_, fun e j hj _ => ?_⟩
  · have h1 := ha k (by have := (h.yes e).1; omega)
    rw [hb] at h1
    cases h1
  · rw [e0]
    obtain ⟨p, b⟩ := s
    simp only at e
    rw [e]
def fI (s : Nat × Bool) : Int := if s.2 = true then (s.1 : Int) else -1
theorem dgetD {T : Tr} {k : Nat} {f : NdH} {K : Tr} (h : T.list[k]? = some (f, K)) : (T.list.map Prod.fst).getD k zeroN = f := by
  rw [List.getD_eq_getElem?_getD, List.getElem?_map, h]; rfl
set_option maxHeartbeats 16000000 in
theorem where21_any (v : Value) (T : Tr) (w : World) (hT : NodesIn w v T) (hl : T.len ≤ 1000000) (hx : ∀ p ∈ T.list, p.1.text.length ≤ 1000000) :
    Calls Tryd.prog 12 #[v] w fun e w' => e = .returned (.tuple #[.int .i64 ((whereP (T.list.map Prod.fst)).1 : Int), .bool (whereP (T.list.map Prod.fst)).2]) ∧ Below w.heap.size w w' := by
  obtain ⟨A, c, rfl⟩ := NodesC.form hT
  have HT := hide hT
  have HX : Hid (∀ (k : Nat) (f : NdH) (K : Tr), T.list[k]? = some (f, K) → f.text.length ≤ 1000000) := hide (fun k f K h => hx (f, K) (List.mem_of_getElem? h))
  have HDL : Hid ((T.list.map Prod.fst).length = T.len) := hide (by rw [List.length_map, Tr.len_list])
  clear hT hx
  go_enter Tryd.func12, Tryd.ntmps12
  go_wp2_with fail
  go_loopw [4, 5] (fun i fz wr => ∃ (k : Nat) (s : Nat × Bool), k ≤ T.len ∧ i = .int .i64 k ∧ fz = .int .i64 (fI s) ∧ Hid (W21 (T.list.map Prod.fst) k s) ∧ Hid (Below w.heap.size w wr)) (fun i _ _ => (intOf i).toNat)
  case atStart => exact ⟨T.len, (0, false), Nat.le_refl _, rfl, rfl, hide (by have := W21.start (T.list.map Prod.fst); rw [HDL.out] at this; exact this), hide (Below.refl _ _)⟩
  case round =>
    obtain ⟨k0, s, hk0, rfl, rfl, HI, HB⟩ := hrel
    by_cases hz : k0 = 0
    · subst hz
      have HF := hide HI.out.done
      clear HI
      rw [show ((0 : Nat) : Int) = 0 from rfl]
      cases hs : s.2 with
      | false =>
        have hfi : fI s = -1 := by unfold fI; rw [hs]; rfl
        have HR := hide (HF.out.no hs)
        clear hs HF
        rw [hfi]
        go_wp2_with fail
        go_ret2
        exact ⟨by rw [HR.out]; rfl, HB.out⟩
      | true =>
        have hfi : fI s = (s.1 : Int) := by unfold fI; rw [hs]; rfl
        have HAL := hide (HF.out.all hs)
        have HON := hide (HF.out.one hs)
        have hfl := HF.out.lt hs
        rw [HDL.out] at hfl
        clear hs HF
        rw [hfi]
        clear hfi
        obtain ⟨p, is⟩ := s
        simp only at hfl HAL HON ⊢
        go_wp2_with fail
        go_loopw [6] (fun i wr => ∃ k : Nat, k ≤ p ∧ i = .int .i64 k ∧ Hid (∀ j, j < k → blankN ((T.list.map Prod.fst).getD j zeroN) = true) ∧ Hid (Below w.heap.size w wr)) (fun i _ => p - (intOf i).toNat)
        case atStart => exact ⟨0, Nat.zero_le _, rfl, hide (fun j hj => absurd hj (Nat.not_lt_zero _)), HB⟩
        case round =>
          obtain ⟨k, hk, rfl, HJ, HB⟩ := hrel
          by_cases hlt : k < p
          · obtain ⟨⟨f, K⟩, hf⟩ : ∃ f, T.list[k]? = some f := ⟨_, List.getElem?_eq_getElem (by rw [Tr.len_list]; omega)⟩
            obtain ⟨a, dd, x, y, zz, mm, hA, -, p1, p2, -, p3, p4, hmm, -⟩ := NodesC.at (HT.out.kept HB.out) k f K hf
            first | subst hA | (injection hA with hA; subst hA)
            subst hmm
            have HBN := hide (blank21_any f dd x f.attrs.length y K.len zz wr (HX.out k f K hf))
            have HG : Hid ((T.list.map Prod.fst).getD k zeroN = f) := hide (dgetD hf)
            clear hf
            have hkl : k < T.len := by omega
            cases hb : blankN f with
            | true =>
              rw [hb] at HBN
              have HJ2 : Hid (∀ j, j < k + 1 → blankN ((T.list.map Prod.fst).getD j zeroN) = true) := hide (fun j hj => by
                by_cases e : j = k
                · rw [e, HG.out]; exact hb
                · exact HJ.out j (by omega))
              clear hb
              go_wp2_with fail
              refine HBN.out.mono ?_
              rintro e w1 ⟨rfl, hb1⟩
              have HB1 := hide (bl_two HB.out hb1)
              clear hb1 p1 p2 p3 p4
              go_wp2_with fail
              go_roundw
              case rel => exact ⟨k + 1, by omega, by go_num, HJ2, HB1⟩
              case measure => simp [intOf] <;> omega
            | false =>
              rw [hb] at HBN
              have HR := hide (HON.out k hlt (by rw [HG.out]; exact hb))
              clear hb
              go_wp2_with fail
              refine HBN.out.mono ?_
              rintro e w1 ⟨rfl, hb1⟩
              have HB1 := hide (bl_two HB.out hb1)
              clear hb1 p1 p2 p3 p4
              go_wp2_with fail
              go_ret2
              exact ⟨by rw [HR.out]; rfl, HB1.out⟩
          · obtain rfl : k = p := by omega
            have HR := hide (HAL.out HJ.out)
            go_wp2_with fail
            go_ret2
            exact ⟨by rw [HR.out]; rfl, HB.out⟩
    · obtain ⟨k, rfl⟩ : ∃ k, k0 = k + 1 := ⟨k0 - 1, by omega⟩
      clear hz
      have hw1 : ((k + 1 : Nat) : Int) = (k : Int) + 1 := by omega
      rw [hw1]
      obtain ⟨⟨f, K⟩, hf⟩ : ∃ f, T.list[k]? = some f := ⟨_, List.getElem?_eq_getElem (by rw [Tr.len_list]; omega)⟩
      obtain ⟨a, dd, x, y, zz, mm, hA, -, p1, p2, -, p3, p4, hmm, -⟩ := NodesC.at (HT.out.kept HB.out) k f K hf
      subst hA hmm
      have HBN := hide (blank21_any f dd x f.attrs.length y K.len zz wr (HX.out k f K hf))
      have HG : Hid ((T.list.map Prod.fst).getD k zeroN = f) := hide (dgetD hf)
      obtain ⟨X, hX⟩ : ∃ X, X = str f.name := ⟨_, rfl⟩
      have HQN : Hid ((X.toList == [98, 108, 111, 99, 107, 113, 117, 111, 116, 101]) = quoteN f) := hide (by rw [hX, str_list, name_eq]; rfl)
      rw [← hX] at p1 HBN
      have HP1 : Hid (∀ w', Below wr.heap.size wr w' → w'.cell? (a.add (k * 4)) = some (.string X)) := hide (fun w' hb => (hb.cell (World.block_lt_of_cell? _ _ p1)).trans p1)
      clear hX hf
      cases hb : blankN f with
      | true =>
        rw [hb] at HBN
        have HI2 := hide (HI.out.blank (by rw [HG.out]; exact hb))
        have hq : (X.toList == [98, 108, 111, 99, 107, 113, 117, 111, 116, 101]) = false := by rw [HQN.out]; exact blank_quote hb
        clear hb
        go_wp2_with fail
        refine HBN.out.mono ?_
        rintro e w1 ⟨rfl, hb1⟩
        have q1 := HP1.out w1 hb1
        have HB1 := hide (bl_two HB.out hb1)
        clear hb1 p1 p2 p3 p4
        go_wp2_with fail
        go_roundw
        case rel => exact ⟨k, s, by omega, by go_num, rfl, HI2, HB1⟩
        case measure => simp [intOf] <;> omega
      | false =>
        rw [hb] at HBN
        cases hq0 : quoteN f with
        | true =>
          have HI2 := hide (HI.out.quote (by rw [HDL.out]; omega) (by rw [HG.out]; exact hq0))
          have hq : (X.toList == [98, 108, 111, 99, 107, 113, 117, 111, 116, 101]) = true := by rw [HQN.out]; exact hq0
          clear hb hq0
          go_wp2_with fail
          refine HBN.out.mono ?_
          rintro e w1 ⟨rfl, hb1⟩
          have q1 := HP1.out w1 hb1
          have HB1 := hide (bl_two HB.out hb1)
          clear hb1 p1 p2 p3 p4
          go_wp2_with fail
          go_roundw
          case rel => exact ⟨k, (k, true), by omega, by go_num, rfl, HI2, HB1⟩
          case measure => simp [intOf] <;> omega
        | false =>
          have HF := hide (HI.out.stop (by rw [HG.out]; exact hb) (by rw [HG.out]; exact hq0))
          have hq : (X.toList == [98, 108, 111, 99, 107, 113, 117, 111, 116, 101]) = false := by rw [HQN.out]; exact hq0
          clear hb hq0
          go_wp2_with fail
          refine HBN.out.mono ?_
          rintro e w1 ⟨rfl, hb1⟩
          have q1 := HP1.out w1 hb1
          have HB := hide (bl_two HB.out hb1)
          clear hb1 p1 p2 p3 p4 HQN HP1 HG HBN HI
          cases hs : s.2 with
          | false =>
            have hfi : fI s = -1 := by unfold fI; rw [hs]; rfl
            have HR := hide (HF.out.no hs)
            clear hs HF
            rw [hfi]
            go_wp2_with fail
            go_ret2
            exact ⟨by rw [HR.out]; rfl, HB.out⟩
          | true =>
            have hfi : fI s = (s.1 : Int) := by unfold fI; rw [hs]; rfl
            have HAL := hide (HF.out.all hs)
            have HON := hide (HF.out.one hs)
            have hfl := HF.out.lt hs
            rw [HDL.out] at hfl
            clear hs HF
            rw [hfi]
            clear hfi
            obtain ⟨p, is⟩ := s
            simp only at hfl HAL HON ⊢
            go_wp2_with fail
            go_loopw [6] (fun i wr => ∃ k : Nat, k ≤ p ∧ i = .int .i64 k ∧ Hid (∀ j, j < k → blankN ((T.list.map Prod.fst).getD j zeroN) = true) ∧ Hid (Below w.heap.size w wr)) (fun i _ => p - (intOf i).toNat)
            case atStart => exact ⟨0, Nat.zero_le _, rfl, hide (fun j hj => absurd hj (Nat.not_lt_zero _)), HB⟩
            case round =>
              obtain ⟨k, hk, rfl, HJ, HB⟩ := hrel
              by_cases hlt : k < p
              · obtain ⟨⟨f, K⟩, hf⟩ : ∃ f, T.list[k]? = some f := ⟨_, List.getElem?_eq_getElem (by rw [Tr.len_list]; omega)⟩
                obtain ⟨a, dd, x, y, zz, mm, hA, -, p1, p2, -, p3, p4, hmm, -⟩ := NodesC.at (HT.out.kept HB.out) k f K hf
                first | subst hA | (injection hA with hA; subst hA)
                subst hmm
                have HBN := hide (blank21_any f dd x f.attrs.length y K.len zz wr (HX.out k f K hf))
                have HG : Hid ((T.list.map Prod.fst).getD k zeroN = f) := hide (dgetD hf)
                clear hf
                have hkl : k < T.len := by omega
                cases hb : blankN f with
                | true =>
                  rw [hb] at HBN
                  have HJ2 : Hid (∀ j, j < k + 1 → blankN ((T.list.map Prod.fst).getD j zeroN) = true) := hide (fun j hj => by
                    by_cases e : j = k
                    · rw [e, HG.out]; exact hb
                    · exact HJ.out j (by omega))
                  clear hb
                  go_wp2_with fail
                  refine HBN.out.mono ?_
                  rintro e w1 ⟨rfl, hb1⟩
                  have HB1 := hide (bl_two HB.out hb1)
                  clear hb1 p1 p2 p3 p4
                  go_wp2_with fail
                  go_roundw
                  case rel => exact ⟨k + 1, by omega, by go_num, HJ2, HB1⟩
                  case measure => simp [intOf] <;> omega
                | false =>
                  rw [hb] at HBN
                  have HR := hide (HON.out k hlt (by rw [HG.out]; exact hb))
                  clear hb
                  go_wp2_with fail
                  refine HBN.out.mono ?_
                  rintro e w1 ⟨rfl, hb1⟩
                  have HB1 := hide (bl_two HB.out hb1)
                  clear hb1 p1 p2 p3 p4
                  go_wp2_with fail
                  go_ret2
                  exact ⟨by rw [HR.out]; rfl, HB1.out⟩
              · obtain rfl : k = p := by omega
                have HR := hide (HAL.out HJ.out)
                go_wp2_with fail
                go_ret2
                exact ⟨by rw [HR.out]; rfl, HB.out⟩
end Go.Proofs.YtjaeheicndfdnaaDoor
