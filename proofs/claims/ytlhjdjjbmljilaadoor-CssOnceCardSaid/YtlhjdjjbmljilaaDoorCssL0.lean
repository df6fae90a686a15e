/- WALKS for the laws of layer 17: Same, live, short. No statement is proved here. Own work of the verifier. -/
import Derived.Test.YtlhjdjjbmljilaaDoorCssK
import Derived.Test.YtlhjdjjbmljilaaDoorCssS
import Derived.BigQuiet
import Derived.Deep.QuietTactic
namespace Go.Proofs.YtlhjdjjbmljilaaDoor
open Go.RowKit
set_option linter.unusedVariables false
set_option linter.unusedSimpArgs false
set_option maxRecDepth 100000
/-- in w the [][2]string value v reads as l -/
def DeclsIn (w : World) (v : Value) (l : List DeclL) : Prop :=
  (v = .slice none 0 0 ∧ l = []) ∨ ∃ a cap, v = .slice (some a) l.length cap ∧ ∀ (j : Nat) d, l[j]? = some d → w.cell? (a.add (j * 2)) = some (.string (str d.1)) ∧ w.cell? (a.add (j * 2 + 1)) = some (.string (str d.2))
theorem DeclsIn.kept {w w' : World} {v : Value} {l : List DeclL} (h : DeclsIn w v l) (hb : Below w.heap.size w w') : DeclsIn w' v l := by
  rcases h with h | ⟨a, cap, h1, h4⟩
  · exact .inl h
  · refine .inr ⟨a, cap, h1, fun j d hj => ?_⟩
    obtain ⟨c1, c2⟩ := h4 j d hj
    exact ⟨(hb.cell (World.block_lt_of_cell? _ _ c1)).trans c1, (hb.cell (World.block_lt_of_cell? _ _ c2)).trans c2⟩
theorem DeclsIn.form {w : World} {v : Value} {l : List DeclL} (h : DeclsIn w v l) : ∃ a cap, v = .slice a l.length cap := by
  rcases h with ⟨rfl, rfl⟩ | ⟨a, cap, rfl, _⟩
  · exact ⟨_, _, rfl⟩
  · exact ⟨_, _, rfl⟩
theorem DeclsIn.at {w : World} {A : Option Addr} {n cap : Nat} {l : List DeclL} (h : DeclsIn w (.slice A n cap) l) (k : Nat) (f : DeclL) (hk : l[k]? = some f) :
    ∃ a, A = some a ∧ w.cell? (a.add (k * 2)) = some (.string (str f.1)) ∧ w.cell? { block := (a.add (k * 2)).block, off := (a.add (k * 2)).off + 1 } = some (.string (str f.2)) := by
  rcases h with ⟨_, rfl⟩ | ⟨a, cap', h1, h2⟩
  · simp at hk
  · injection h1 with h1 _ _
    subst h1
    obtain ⟨c1, c2⟩ := h2 k f hk
    refine ⟨a, rfl, c1, ?_⟩
    have e3 : ({ block := (a.add (k * 2)).block, off := (a.add (k * 2)).off + 1 } : Addr) = a.add (k * 2 + 1) := by rw [← Addr.add_add]; rfl
    rw [e3]; exact c2
theorem DBuf.in {B : Nat} {v : Value} {l : List DeclL} {W0 w : World} (h : DBuf B v l W0 w) : DeclsIn w v l := by
  rcases h.1.2 with ⟨rfl, h0⟩ | ⟨g, cap, cur, rfl, _⟩
  · exact .inl ⟨rfl, List.eq_nil_of_length_eq_zero h0⟩
  · refine .inr ⟨_, cap, rfl, fun j d hj => ?_⟩
    obtain ⟨a1, a2⟩ := declVals_at hj
    exact ⟨h.1.cells (g := g) rfl _ _ a1, h.1.cells (g := g) rfl _ _ a2⟩
theorem eqTwo (a b c d : ByteArray) (w : World) : (Op.equalIn 10000 36 (.agg #[.string a, .string b]) (.agg #[.string c, .string d])).run Tryd.prog w = .ok (a.toList == c.toList && b.toList == d.toList) w := by
  have u3 := Tryd.underlying9
  have a3 := Tryd.isAgg9
  have z3 := Tryd.sizeOf9
  rw [show (10000 : Nat) = 9999 + 1 from rfl, Op.equalIn]
  simp only [Sem.run_bind, run_underlying Tryd.underlying36, Result.andThen_ok]
  simp only [Std.Legacy.Range.forIn_eq_forIn_range', Std.Legacy.Range.size, Nat.sub_zero, Nat.add_sub_cancel, Nat.div_one, List.range'_succ, List.range'_zero, List.forIn_cons, List.forIn_nil]
  go_simp
  by_cases h1 : a.toList = c.toList <;> by_cases h2 : b.toList = d.toList <;> simp [h1, h2]
attribute [local go_sem] eqTwo
theorem below_drewN17 (w : World) (n : Nat) : Below w.heap.size w (w.drewN n) := ⟨rfl, rfl, rfl, Nat.le_refl _, fun _ _ => rfl⟩
set_option maxHeartbeats 2000000 in
theorem same17_any (v1 v2 : Value) (l1 l2 : List DeclL) (w : World) (h1 : DeclsIn w v1 l1) (h2 : DeclsIn w v2 l2) (hn : l1.length ≤ 1048576) :
    Calls Tryd.prog 21 #[v1, v2] w fun e w' => e = .returned (.bool (decide (l1 = l2))) ∧ Below w.heap.size w w' := by
  obtain ⟨A1, c1, rfl⟩ := h1.form
  obtain ⟨A2, c2, rfl⟩ := h2.form
  have H1 := hide h1
  have H2 := hide h2
  clear h1 h2
  by_cases hl : l1.length = l2.length
  · have t0 : ((l1.length : Int) == l2.length) = true := by rw [beq_iff_eq]; omega
    have t1 : ((l1.length : Int) != l2.length) = false := by rw [bne, t0]; rfl
    go_enter Tryd.func21, Tryd.ntmps21
    go_wp2_with fail
    go_loopw [5] (fun i wr => ∃ k : Nat, k ≤ l1.length ∧ i = .int .i64 k ∧ Hid (Below w.heap.size w wr) ∧ Hid (l1.take k = l2.take k)) (fun i _ => l1.length - (intOf i).toNat)
    case atStart => exact ⟨0, Nat.zero_le _, rfl, hide (Below.refl _ _), hide rfl⟩
    case round =>
      obtain ⟨k, hk, rfl, HB, HG⟩ := hrel
      by_cases hlt : k < l1.length
      · obtain ⟨f, hf⟩ : ∃ f, l1[k]? = some f := ⟨_, List.getElem?_eq_getElem hlt⟩
        obtain ⟨g, hg⟩ : ∃ g, l2[k]? = some g := ⟨_, List.getElem?_eq_getElem (by omega)⟩
        obtain ⟨a, ha, hc1, hc2⟩ := (H1.out.kept HB.out).at k f hf
        obtain ⟨b, hb, hd1, hd2⟩ := (H2.out.kept HB.out).at k g hg
        subst ha hb
        have hlt2 : k < l2.length := by omega
        obtain ⟨X1, hX1⟩ : ∃ X, X = str f.1 := ⟨_, rfl⟩
        obtain ⟨X2, hX2⟩ : ∃ X, X = str f.2 := ⟨_, rfl⟩
        obtain ⟨Y1, hY1⟩ : ∃ X, X = str g.1 := ⟨_, rfl⟩
        obtain ⟨Y2, hY2⟩ : ∃ X, X = str g.2 := ⟨_, rfl⟩
        rw [← hX1] at hc1
        rw [← hX2] at hc2
        rw [← hY1] at hd1
        rw [← hY2] at hd2
        by_cases he : f = g
        · have e1 : X1 = Y1 := by rw [hX1, hY1, he]
          have e2 : X2 = Y2 := by rw [hX2, hY2, he]
          subst e1 e2
          have HN : Hid (l1.take (k + 1) = l2.take (k + 1)) := hide (by rw [List.take_add_one, List.take_add_one, HG.out, hf, hg, he])
          clear he hf hg hX1 hX2 hY1 hY2
          go_wp2_with fail
          go_quiet (fail)
          go_wp2_with fail
          go_roundw
          case rel => exact ⟨k + 1, by omega, by go_num, hide (HB.out.trans ((below_drewN17 wr nq).mono HB.out.size)), HN⟩
          case measure => simp [intOf]; omega
        · have HD : Hid (decide (l1 = l2) = false) := hide (decide_eq_false (fun e => he (by rw [e, hg] at hf; exact (Option.some.inj hf).symm)))
          by_cases he1 : f.1 = g.1
          · have he2 : f.2 ≠ g.2 := fun e => he (Prod.ext he1 e)
            have e1 : X1 = Y1 := by rw [hX1, hY1, he1]
            have t2 : (X2.toList == Y2.toList) = false := by
              rw [hX2, hY2, bytes_list, bytes_list, str_toList, str_toList]; exact beq_eq_false_iff_ne.2 he2
            subst e1
            clear he he1 he2 hf hg hX1 hX2 hY1 hY2
            go_wp2_with fail
            go_quiet (fail)
            go_wp2_with fail
            go_ret
            exact ⟨ret_bool HD.out.symm, HB.out.trans ((below_drewN17 wr nq).mono HB.out.size)⟩
          · have t2 : (X1.toList == Y1.toList) = false := by
              rw [hX1, hY1, bytes_list, bytes_list, str_toList, str_toList]; exact beq_eq_false_iff_ne.2 he1
            clear he he1 hf hg hX1 hX2 hY1 hY2
            go_wp2_with fail
            go_quiet (fail)
            go_wp2_with fail
            go_ret
            exact ⟨ret_bool HD.out.symm, HB.out.trans ((below_drewN17 wr nq).mono HB.out.size)⟩
      · have HD : Hid (decide (l1 = l2) = true) := hide (by
          have := HG.out
          rw [List.take_of_length_le (by omega), List.take_of_length_le (by omega)] at this
          exact decide_eq_true this)
        go_wp2_with fail
        go_ret
        exact ⟨ret_bool HD.out.symm, HB.out⟩
  · have t0 : ((l1.length : Int) == l2.length) = false := by rw [beq_eq_false_iff_ne]; omega
    have t1 : ((l1.length : Int) != l2.length) = true := by rw [bne, t0]; rfl
    have HD : Hid (decide (l1 = l2) = false) := hide (decide_eq_false (fun e => hl (by rw [e])))
    clear hl
    go_enter Tryd.func21, Tryd.ntmps21
    go_wp2_with fail
    go_ret
    exact ⟨ret_bool HD.out.symm, Below.refl _ _⟩

theorem live17a : cleanD [67, 79, 76, 79, 82, 58, 32, 114, 101, 100, 59, 32, 98, 97, 99, 107, 103, 114, 111, 117, 110, 100, 58, 32, 117, 114, 108, 40, 120, 59, 121, 41, 59, 32, 120, 59, 32, 99, 111, 108, 111, 114, 58, 98, 108, 117, 101, 32, 59, 119, 105, 100, 116, 104, 58, 49, 112, 120] = [99, 111, 108, 111, 114, 58, 32, 98, 108, 117, 101, 59, 32, 119, 105, 100, 116, 104, 58, 32, 49, 112, 120] := by decide +kernel
theorem live17b : cleanD [99, 111, 108, 111, 114, 58, 32, 34, 97, 59, 98, 34, 59, 32, 119, 105, 100, 116, 104, 58, 32, 101, 120, 112, 114, 101, 115, 115, 105, 111, 110, 40, 49, 41] = [] := by decide +kernel
theorem live17c : safeD ([99, 111, 108, 111, 114], [35, 102, 102, 102]) = true := by decide +kernel
theorem live17d : safeD ([67, 111, 108, 111, 114], [114, 101, 100]) = false := by decide +kernel
theorem live17e : cutD [97, 58, 39, 98, 59, 39, 59, 99, 58, 100, 58, 101] = [([97], [39, 98, 59, 39]), ([99], [100, 58, 101])] := by decide +kernel
theorem live17_lit (w : World) : DeclsIn (w.alloc (.cells #[.string ⟨#[97]⟩, .string ⟨#[39, 98, 59, 39]⟩, .string ⟨#[99]⟩, .string ⟨#[100, 58, 101]⟩] 36)) (.slice (some ⟨w.heap.size, 0, none⟩) 2 2) [([97], [39, 98, 59, 39]), ([99], [100, 58, 101])] := by
  refine .inr ⟨⟨w.heap.size, 0, none⟩, 2, rfl, fun j d hj => ?_⟩
  rw [Addr.add_lit, Addr.add_lit, World.cell?_alloc_at _ _ _ _ rfl, World.cell?_alloc_at _ _ _ _ rfl]
  match j, hj with
  | 0, hj => simp at hj; subst hj; exact ⟨rfl, rfl⟩
  | 1, hj => simp at hj; subst hj; exact ⟨rfl, rfl⟩
  | j + 2, hj => simp at hj
set_option maxHeartbeats 2000000 in
theorem live17_any (w : World) (hE : EnvC w) : Calls Tryd.prog 20 #[] w fun e w' => e = .returned (.bool true) ∧ Below w.heap.size w w' := by
  have H1 : Hid (str (cleanD (⟨#[67, 79, 76, 79, 82, 58, 32, 114, 101, 100, 59, 32, 98, 97, 99, 107, 103, 114, 111, 117, 110, 100, 58, 32, 117, 114, 108, 40, 120, 59, 121, 41, 59, 32, 120, 59, 32, 99, 111, 108, 111, 114, 58, 98, 108, 117, 101, 32, 59, 119, 105, 100, 116, 104, 58, 49, 112, 120]⟩ : ByteArray).data.toList) = ⟨#[99, 111, 108, 111, 114, 58, 32, 98, 108, 117, 101, 59, 32, 119, 105, 100, 116, 104, 58, 32, 49, 112, 120]⟩) := hide (congrArg str live17a)
  have H2 : Hid (str (cleanD (⟨#[99, 111, 108, 111, 114, 58, 32, 34, 97, 59, 98, 34, 59, 32, 119, 105, 100, 116, 104, 58, 32, 101, 120, 112, 114, 101, 115, 115, 105, 111, 110, 40, 49, 41]⟩ : ByteArray).data.toList) = ⟨#[]⟩) := hide (congrArg str live17b)
  have H3 : Hid (safeD ((⟨#[99, 111, 108, 111, 114]⟩ : ByteArray).data.toList, (⟨#[35, 102, 102, 102]⟩ : ByteArray).data.toList) = true) := hide live17c
  have H4 : Hid (safeD ((⟨#[67, 111, 108, 111, 114]⟩ : ByteArray).data.toList, (⟨#[114, 101, 100]⟩ : ByteArray).data.toList) = false) := hide live17d
  have H5 : Hid (cutD (⟨#[97, 58, 39, 98, 59, 39, 59, 99, 58, 100, 58, 101]⟩ : ByteArray).data.toList = [([97], [39, 98, 59, 39]), ([99], [100, 58, 101])]) := hide live17e
  have HE := hide hE
  have HB : Hid (Below w.heap.size w w) := hide (Below.refl _ _)
  clear hE
  go_enter Tryd.func20, Tryd.ntmps20
  go_wp2_with fail
  refine (cssClean_any _ (by decide) _ HE.out).mono ?_
  rintro e w1 ⟨rfl, hb1⟩
  have HE1 := hide (HE.out.kept hb1)
  have HB1 := hide hb1
  clear hb1
  rw [H1.out]
  go_wp2_with fail
  refine (cssClean_any _ (by decide) _ HE1.out).mono ?_
  rintro e w2 ⟨rfl, hb2⟩
  have HE2 := hide (HE1.out.kept hb2)
  have HB2 := hide (HB1.out.trans (hb2.mono HB1.out.size))
  clear hb2
  rw [H2.out]
  go_wp2_with fail
  refine (cssSafe_any _ _ _ HE2.out (by decide)).mono ?_
  rintro e w3 ⟨rfl, rfl⟩
  rw [H3.out]
  go_wp2_with fail
  refine (cssSafe_any _ _ _ HE2.out (by decide)).mono ?_
  rintro e w3 ⟨rfl, rfl⟩
  rw [H4.out]
  go_wp2_with fail
  refine (cssCut_any _ _ (by decide)).mono ?_
  rintro e w4 ⟨v, rfl, hd⟩
  rw [H5.out] at hd
  have HB4 := hide (HB2.out.trans (hd.below.mono HB2.out.size))
  have HD := hide hd.in
  obtain ⟨A, c, rfl⟩ := hd.slice_len
  clear hd
  go_wp2_with fail
  refine (same17_any _ _ _ _ _ (HD.out.kept (Below.alloc (Below.refl _ _) (Nat.le_refl _) _)) (live17_lit _) (by decide)).mono ?_
  rintro e w5 ⟨rfl, hb5⟩
  go_wp2_with fail
  go_ret
  exact ⟨rfl, (HB4.out.alloc HB4.out.size _).trans (hb5.mono (HB4.out.alloc HB4.out.size _).size)⟩
theorem short17_any (s : ByteArray) (w : World) (hs : s.size ≤ maxLen) : Calls Tryd.prog 19 #[.string s] w fun e w' => e = .returned (.bool (decide (s.size ≤ 3000))) ∧ w = w' := by
  unfold maxLen at hs
  by_cases h : s.size ≤ 3000
  · have e : decide (s.size ≤ 3000) = true := decide_eq_true h
    rw [e]
    clear e
    go_enter Tryd.func19, Tryd.ntmps19
    go_wp2
    go_ret
    exact ⟨ret_bool (decide_eq_true (by omega)), rfl⟩
  · have e : decide (s.size ≤ 3000) = false := decide_eq_false h
    rw [e]
    clear e
    go_enter Tryd.func19, Tryd.ntmps19
    go_wp2
    go_ret
    exact ⟨ret_bool (decide_eq_false (by omega)), rfl⟩
end Go.Proofs.YtlhjdjjbmljilaaDoor
