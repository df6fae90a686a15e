/- WALK of fold.isFold. No statement is proved here. Own work of the verifier. -/
import Derived.Test.YtjaeheicndfdnaaDoorFoldG
import Derived.Test.YtjaeheicndfdnaaDoorFoldO
namespace Go.Proofs.YtjaeheicndfdnaaDoor
open Go.RowKit
set_option linter.unusedVariables false
set_option linter.unusedSimpArgs false
set_option maxRecDepth 100000
theorem eqAttr (a b c d : ByteArray) (w : World) : (Op.equalIn 10000 41 (.agg #[.string a, .string b]) (.agg #[.string c, .string d])).run Tryd.prog w = .ok (a.toList == c.toList && b.toList == d.toList) w := by
  have u3 := Tryd.underlying9
  have a3 := Tryd.isAgg9
  have z3 := Tryd.sizeOf9
  rw [show (10000 : Nat) = 9999 + 1 from rfl, Op.equalIn]
  simp only [Sem.run_bind, run_underlying Tryd.underlying41, Result.andThen_ok]
  go_simp
  by_cases h1 : a.toList = c.toList <;> by_cases h2 : b.toList = d.toList <;> simp [h1, h2]
attribute [local go_sem] eqAttr
def isFoldN (h : NdH) : Bool := decide (h.name = [100, 105, 118]) && decide (h.attrs = [([116, 105, 116, 108, 101], [113, 117, 111, 116, 101, 100])])
set_option maxHeartbeats 4000000 in
theorem isFold_any (h : NdH) (va : Value) (A2 : Option Addr) (n2 c2 : Nat) (w : World) (hA : AttrsIn w va h.attrs) (hl : h.attrs.length ≤ 1048576) :
    Calls Tryd.prog 27 #[.agg #[.string (str h.name), va, .string (str h.text), .slice A2 n2 c2]] w fun e w' => e = .returned (.bool (isFoldN h)) ∧ Below w.heap.size w w' := by
  obtain ⟨A1, c1, rfl⟩ := hA.form
  have hb1 := below_one w (Obj.cells #[.string (str h.name), .slice A1 h.attrs.length c1, .string (str h.text), .slice A2 n2 c2] 32)
  have hA1 := hA.kept hb1
  have HBK := hide hb1
  clear hb1
  obtain ⟨X, hX⟩ : ∃ X, X = str h.name := ⟨_, rfl⟩
  obtain ⟨Y, hY⟩ : ∃ X, X = str h.text := ⟨_, rfl⟩
  have hXL : X.toList = h.name := by rw [hX, str_list]
  rw [← hX, ← hY] at HBK hA1 ⊢
  by_cases hn : h.name = [100, 105, 118]
  · have t0 : (X.toList == [100, 105, 118]) = true := by rw [hXL, hn]; rfl
    by_cases h1 : h.attrs.length = 1
    · obtain ⟨q, hq⟩ : ∃ q, h.attrs = [q] := List.length_eq_one_iff.1 h1
      have t1 : ((h.attrs.length : Int) == 1) = true := by rw [h1]; rfl
      obtain ⟨b, hb, r1, r2⟩ := hA1.at 0 q (by rw [hq]; rfl)
      subst hb
      obtain ⟨P, hP⟩ : ∃ X, X = str q.1 := ⟨_, rfl⟩
      obtain ⟨Q, hQ⟩ : ∃ X, X = str q.2 := ⟨_, rfl⟩
      rw [← hP] at r1
      rw [← hQ] at r2
      have HF : Hid ((P.toList == [116, 105, 116, 108, 101] && Q.toList == [113, 117, 111, 116, 101, 100]) = isFoldN h) := hide (by
        unfold isFoldN
        rw [decide_eq_true hn, Bool.true_and, hP, hQ, str_list, str_list, hq]
        obtain ⟨q1, q2⟩ := q
        simp only [name_eq]
        rw [← Bool.decide_and]
        congr 1
        simp)
      rw [Nat.zero_mul, Addr.add_zero'] at r1 r2
      rw [h1] at HBK r1 r2 ⊢
      clear hX hY hP hQ hq hA hA1 hXL h1 t1
      go_enter Tryd.func27, Tryd.ntmps27
      go_wp2_with fail
      all_goals go_ret
      all_goals refine ⟨ret_bool ?_, HBK.out⟩
      all_goals (rw [← HF.out]; simp [*])
    · have t1 : ((h.attrs.length : Int) == 1) = false := by rw [beq_eq_false_iff_ne]; omega
      have HF : Hid (isFoldN h = false) := hide (by
        unfold isFoldN
        rw [Bool.and_eq_false_iff]
        exact .inr (decide_eq_false (fun e => h1 (by rw [e]; rfl))))
      clear hX hY hA hA1 hXL
      go_enter Tryd.func27, Tryd.ntmps27
      go_wp2_with fail
      go_ret
      exact ⟨ret_bool HF.out.symm, HBK.out⟩
  · have t0 : (X.toList == [100, 105, 118]) = false := by rw [hXL, name_eq]; exact decide_eq_false hn
    have HF : Hid (isFoldN h = false) := hide (by
      unfold isFoldN
      rw [Bool.and_eq_false_iff]
      exact .inl (decide_eq_false hn))
    clear hX hY hA hA1 hXL
    go_enter Tryd.func27, Tryd.ntmps27
    go_wp2_with fail
    go_ret
    exact ⟨ret_bool HF.out.symm, HBK.out⟩
end Go.Proofs.YtjaeheicndfdnaaDoor
