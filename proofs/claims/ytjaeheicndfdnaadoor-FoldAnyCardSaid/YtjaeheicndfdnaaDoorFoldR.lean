/- WALK of strings.IndexRune at the blanks (space, tab, line feed, carriage return, U+00A0). No statement is proved here. Own work of the verifier. -/
import Derived.Test.YtjaeheicndfdnaaDoorFoldM
import Derived.Test.YtjaeheicndfdnaaDoorShelf
import Derived.Laws.Runes
import Derived.WalkMore
import Derived.LoopN
import Derived.ScopeJumps
import Derived.Laws.RangeAny
namespace Go.Proofs.YtjaeheicndfdnaaDoor
open Go.RowKit
set_option linter.unusedVariables false
set_option linter.unusedSimpArgs false
set_option maxRecDepth 100000
def blankS : ByteArray := ⟨#[32, 9, 10, 13, 194, 160]⟩
/-- a quiet call behind a quiet region -/
theorem quiet_add_sameF {P : Program} {f : FuncId} {args : Array Value} {w : World} {a n : Nat} {v : Value}
    (h : Calls P f args (w.drewN (a + n)) fun e w' => e = .returned v ∧ w' = w.drewN (a + n)) :
    Calls P f args (w.drewN (a + n)) fun e w'' => e = .returned v ∧ ∃ m, w'' = w.drewN (a + m) :=
  h.mono fun _ _ ⟨he, hm⟩ => ⟨he, n, hm⟩
theorem below_drewN (w : World) (n : Nat) : Below w.heap.size w (w.drewN n) := ⟨rfl, rfl, rfl, Nat.le_refl _, fun _ _ => rfl⟩
set_option maxHeartbeats 1000000 in
/-- the last byte of a sign stands nowhere behind -/
theorem idxR_far (s E : ByteArray) (r : Int) (w : World) (hs : s.size = 6) (h1 : 128 ≤ r) (h2 : r ≤ 2147483647) (he : r ≠ 65533) (hv : Lib.validRune r = true)
    (hcv : ∀ w : World, (convert 21 9 (.int .i32 r)).run Tryd.prog w = .ok (.string E) w) (m : Nat) (hm : E.size = m + 1) (hm3 : m ≤ 3) (hne : (s[m]'(by omega)).toNat ≠ (E[m]'(by omega)).toNat)
    (hix : Lib.indexByte (s.extract (m + 1) s.size).data.toList (E[m]'(by omega)) = -1) :
    Calls Tryd.prog 47 #[.string s, .int .i32 r] w fun e w' => e = .returned (.int .i64 (-1)) ∧ Below w.heap.size w w' := by
  have h3 : ¬ r < 128 := by omega
  have h4 : 0 ≤ r := by omega
  have hner : (r == 65533) = false := by rw [beq_eq_false_iff_ne]; exact he
  have hm1 : m < E.size := by omega
  have hms : m < s.size := by omega
  have hmm : (m : Int) < (m : Int) + 1 := by omega
  have hw : IntKind.i64.wrap ((m : Int) + 1) = (m : Int) + 1 := IntWalk.i64_in _ (by omega)
  have hne2 : ((s[m].toNat : Int) != (E[m].toNat : Int)) = true := by rw [bne_iff_ne]; omega
  have hix2 : Lib.indexByte (s.extract (m + 1) s.size).data.toList (E[m].toNat : Int).toNat.toUInt8 = -1 := by
    rw [show ((E[m].toNat : Int).toNat.toUInt8) = E[m] by simp]; exact hix
  have HIX := hide hix2
  have HV := hide hv
  have o0 : (0 : Int) ≤ m := by omega
  have o1 : (m : Int) + 1 ≤ s.size := by omega
  have o3 : (0 : Int) ≤ (m : Int) + 1 := by omega
  have o4 : ((m : Int) + 1).toNat = m + 1 := by omega
  have HS := hide hs
  clear hix hix2 he hv hne hs
  go_enter Tryd.func47, Tryd.ntmps47
  go_wp2_with fail
  refine (Tryd.utf8_ValidRune r _).mono ?_
  rintro e w' ⟨rfl, hw⟩
  subst hw
  rw [HV.out]
  go_wp2_with fail
  go_step3
  go_wp2
  go_loop [9, 10, 11, 12] (fun i f _ _ => i = .int .i64 m ∧ f = .int .i64 0) (fun _ _ _ _ => 0)
  case atStart => exact ⟨rfl, rfl⟩
  case round =>
    obtain ⟨rfl, rfl⟩ := hrel
    go_wp2
    go_step3
    go_wp2
    go_quiet (fail)
    go_wp2
    go_quiet ((go_at_call 49; exact quiet_add_sameF (Tryd.strings_IndexByte _ _ _)))
    rw [HIX.out]
    go_wp2
    simp +zetaDelta only [Exit.noGoto_ret, go_sem]
    go_ret
    exact ⟨rfl, below_drewN _ _⟩
set_option maxHeartbeats 1000000 in
theorem idxR_hit (w : World) :
    Calls Tryd.prog 47 #[.string ⟨#[32, 9, 10, 13, 194, 160]⟩, .int .i32 160] w fun e w' => e = .returned (.int .i64 4) ∧ Below w.heap.size w w' := by
  have hv : Lib.validRune 160 = true := by decide
  have hcv : ∀ w : World, (convert 21 9 (.int .i32 160)).run Tryd.prog w = .ok (.string ⟨#[194, 160]⟩) w := fun w => by
    have := run_convert_int_string w 21 9 .i32 160 (by rw [Tryd.underlying21]; rfl) Tryd.underlying9
    rw [this]; rfl
  have HV := hide hv
  clear hv
  obtain ⟨S, hS⟩ : ∃ S : ByteArray, S = ⟨#[32, 9, 10, 13, 194, 160]⟩ := ⟨_, rfl⟩
  obtain ⟨E, hE⟩ : ∃ E : ByteArray, E = ⟨#[194, 160]⟩ := ⟨_, rfl⟩
  have hs : S.size = 6 := by rw [hS]; rfl
  have he : E.size = 2 := by rw [hE]; rfl
  have e0 : ((E[0]'(by omega)).toNat : Int) = 194 := by subst hE; rfl
  have e1 : ((E[1]'(by omega)).toNat : Int) = 160 := by subst hE; rfl
  have s1 : ((S[1]'(by omega)).toNat : Int) = 9 := by subst hS; rfl
  have s4 : ((S[4]'(by omega)).toNat : Int) = 194 := by subst hS; rfl
  have s5 : ((S[5]'(by omega)).toNat : Int) = 160 := by subst hS; rfl
  have hix : Lib.indexByte (S.extract 2 6).data.toList (Int.toNat 160).toUInt8 = 3 := by subst hS; decide +kernel
  rw [← hS]
  rw [← hE] at hcv
  clear hS hE
  go_enter Tryd.func47, Tryd.ntmps47
  go_wp2_with fail
  refine (Tryd.utf8_ValidRune 160 _).mono ?_
  rintro e w' ⟨rfl, hw⟩
  subst hw
  rw [HV.out]
  go_wp2_with fail
  have d5 : ((5 : Int) - 1) = 4 := rfl
  go_step3
  go_wp2
  refine wp_loop_rounds 2 ?_
  rw [rounds_succ]
  go_wp2
  go_step3
  go_wp2
  go_quiet (fail)
  go_wp2
  go_quiet ((go_at_call 49; exact quiet_add_sameF (Tryd.strings_IndexByte _ _ _)))
  rw [hix]
  go_wp2
  refine wp_loop_rounds 2 ?_
  rw [rounds_succ]
  go_wp2
  go_quiet (fail)
  go_wp2
  rw [rounds_succ]
  go_wp2
  simp +zetaDelta only [Exit.noGoto_ret, go_sem]
  go_ret
  exact ⟨rfl, below_drewN _ _⟩
def JumpAt (w0 : World) (A : Act) : Act → World → Prop := fun a w => a = A ∧ ∃ k, w = w0.drewN k
theorem scope_jump1 {P : Program} {a : Act} {w : World} {Q : Exit → Act → World → Prop} {c rest : Code} (l : Nat) (w0 : World) (hf : findLabel c l = some rest) {A : Act}
    (first : c.wp P (Exit.jump l (JumpAt w0 A) Q) a w) (pass : ∀ k, rest.wp P (Exit.jump l (fun _ _ => False) Q) A (w0.drewN k)) : (Code.scope c).wp P Q a w :=
  wp_scope_jumps l (JumpAt w0 A) (fun _ _ => 0) hf first fun a' w' ⟨h1, k, h2⟩ => by
    subst h1 h2
    exact wp_mono (pass k) fun e a1 w1 h => by
      cases e with
      | goto l' => exact h.2.elim
      | _ => exact h
theorem drewN_add (w : World) (a b : Nat) : (w.drewN a).drewN b = w.drewN (a + b) := by
  induction b with
  | zero => rfl
  | succ b ih => show ((w.drewN a).drewN b).drew = _; rw [ih]; rfl
set_option maxHeartbeats 2000000 in
theorem idxR_next (S E : ByteArray) (r : Int) (w : World) (hs : S.size = 6) (h1 : 128 ≤ r) (h2 : r ≤ 2147483647) (hr : r ≠ 65533) (hv : Lib.validRune r = true)
    (hcv : ∀ w : World, (convert 21 9 (.int .i32 r)).run Tryd.prog w = .ok (.string E) w) (m q : Nat) (hm1 : m < E.size) (hq1 : q < E.size) (hms : m < S.size) (he1 : ((E[m]'hm1).toNat : Int) = 160)
    (he0 : (((E[q]'hq1).toNat : Int) == 194) = false) (s4 : ((S[4]'(by omega)).toNat : Int) = 194) (sm : (((S[m]'hms).toNat : Int) == 160) = false) (hq : m = q + 1) (hm : E.size = m + 1) (hm3 : m ≤ 3)
    (hix : Lib.indexByte (S.extract (m + 1) 6).data.toList (Int.toNat 160).toUInt8 = 4 - (m : Int)) :
    Calls Tryd.prog 47 #[.string S, .int .i32 r] w fun e w' => e = .returned (.int .i64 (-1)) ∧ Below w.heap.size w w' := by
  have h3 : ¬ r < 128 := by omega
  have h4 : 0 ≤ r := by omega
  have hner : (r == 65533) = false := by rw [beq_eq_false_iff_ne]; exact hr
  have hmm : (m : Int) < (m : Int) + 1 := by omega
  have hm6 : (m : Int) < 6 := by omega
  have hw : IntKind.i64.wrap ((m : Int) + 1) = (m : Int) + 1 := IntWalk.i64_in _ (by omega)
  have hwa : IntKind.i64.wrap (4 - (m : Int) + 1) = 5 - (m : Int) := by rw [IntWalk.i64_in _ (by omega)]; omega
  have hwb : IntKind.i64.wrap ((m : Int) + (5 - (m : Int))) = 5 := by rw [IntWalk.i64_in _ (by omega)]; omega
  have hwc : IntKind.i64.wrap ((m : Int) - 1) = (q : Int) := by rw [IntWalk.i64_in _ (by omega)]; omega
  have hw4 : IntKind.i64.wrap 4 = 4 := rfl
  have hqi : (q : Int) < (m : Int) + 1 := by omega
  have hng : ¬ (4 - (m : Int)) < 0 := by omega
  have hj : (1 : Int) < (m : Int) + 1 := by omega
  have sn : (((S[m]'hms).toNat : Int) != 160) = true := by rw [bne, sm]; rfl
  have en : ((194 : Int) != ((E[q]'hq1).toNat : Int)) = true := by
    rw [bne_iff_ne]; intro e; rw [← e] at he0; cases he0
  have o0 : (0 : Int) ≤ m := by omega
  have o1 : (m : Int) + 1 ≤ 6 := by omega
  have o3 : (0 : Int) ≤ (m : Int) + 1 := by omega
  have o4 : ((m : Int) + 1).toNat = m + 1 := by omega
  have HV := hide hv
  clear hv hr he0 sm hq
  go_enter Tryd.func47, Tryd.ntmps47
  go_wp2_with fail
  refine (Tryd.utf8_ValidRune r _).mono ?_
  rintro e w' ⟨rfl, hw⟩
  subst hw
  rw [HV.out]
  go_wp2_with fail
  go_step3
  go_wp2
  refine wp_loop_rounds 2 ?_
  rw [rounds_succ]
  go_wp2
  apply scope_jump1 0 w' rfl
  case first =>
    go_wp2
    go_quiet (fail)
    go_wp2
    go_quiet ((go_at_call 49; exact quiet_add_sameF (Tryd.strings_IndexByte _ _ _)))
    rw [hix]
    go_wp2
    refine wp_loop_rounds 2 ?_
    rw [rounds_succ]
    go_wp2
    go_quiet (fail)
    go_wp2
    go_step3
    exact And.intro rfl (And.intro rfl (Exists.intro _ (drewN_add _ _ _)))
  case pass =>
    intro k
    go_wp2
    change Code.rounds Tryd.prog _ _ 1 _ _
    rw [rounds_succ]
    go_wp2
    try simp +zetaDelta only [Exit.noGoto_ret, go_sem]
    go_ret
    exact ⟨rfl, below_drewN _ _⟩
end Go.Proofs.YtjaeheicndfdnaaDoor
