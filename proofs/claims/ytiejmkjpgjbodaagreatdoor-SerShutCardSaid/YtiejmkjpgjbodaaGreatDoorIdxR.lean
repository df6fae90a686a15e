import Derived.Test.YtiejmkjpgjbodaaGreatDoorBaseM
import Derived.Test.YtiejmkjpgjbodaaGreatDoorWordE
import Derived.Test.YtiejmkjpgjbodaaGreatDoorShelf
import Derived.Laws.Runes
import Derived.WalkMore
import Derived.Laws.RangeAny
namespace Go.Proofs.YtiejmkjpgjbodaaGreatDoor
open Go.RowKit
set_option linter.unusedVariables false
set_option linter.unusedSimpArgs false
theorem indexByte_high (l : List UInt8) (c : UInt8) (h : ∀ x ∈ l, x.toNat < 128) (hc : 128 ≤ c.toNat) : Lib.indexByte l c = -1 := by
  induction l with
  | nil => rfl
  | cons a r ih =>
    have ha := h a (List.mem_cons_self ..)
    have hne : (a == c) = false := by
      rw [beq_eq_false_iff_ne]; rintro rfl; omega
    simp [Lib.indexByte, hne, ih (fun x hx => h x (List.mem_cons_of_mem _ hx))]
theorem quiet_add_same {P : Program} {f : FuncId} {args : Array Value} {w : World} {a n : Nat} {v : Value}
    (h : Calls P f args (w.drewN (a + n)) fun e w' => e = .returned v ∧ w' = w.drewN (a + n)) :
    Calls P f args (w.drewN (a + n)) fun e w'' => e = .returned v ∧ ∃ m, w'' = w.drewN (a + m) :=
  h.mono fun _ _ ⟨he, hm⟩ => ⟨he, n, hm⟩
set_option maxRecDepth 100000 in
set_option maxHeartbeats 1000000 in
theorem indexRune_high (s : ByteArray) (r : Int) (w : World) (hs : s.size ≤ 100) (ha : s.data.toList.all (fun c => decide (c.toNat < 128)) = true) (h1 : 128 ≤ r) (h2 : r ≤ 2147483647) :
    Calls Tryz.prog 231 #[.string s, .int .i32 r] w fun e w' => e = .returned (.int .i64 (-1)) ∧ Below w.heap.size w w' := by
  have h3 : ¬ r < 128 := by omega
  have h4 : 0 ≤ r := by omega
  by_cases he : r = 65533
  · subst he
    have HA := hide ha
    clear ha
    go_enter Tryz.func231, Tryz.ntmps231
    go_wp2
    go_loopw [5, 6] (fun _ _ wr => ∃ pos : Nat, pos ≤ s.size ∧ wr = w.iter s pos) (fun _ _ wr => s.size - wr.iterPos w.heap.size)
    case atStart => exact ⟨0, Nat.zero_le _, rfl⟩
    case round =>
      obtain ⟨pos, hp, rfl⟩ := hrel
      by_cases hlt : pos < s.size
      · obtain ⟨x, hx, hx1, hnx⟩ := next_ascii (P := Tryz.prog) w s pos hlt HA.out
        clear hx
        have hne : ((x.toNat : Int) == 65533) = false := by rw [beq_eq_false_iff_ne]; omega
        go_wp2
        go_roundw
        case rel => exact ⟨pos + 1, by omega, rfl⟩
        case measure => simp; omega
      · obtain rfl : pos = s.size := by omega
        have hnx := run_next_end (P := Tryz.prog) w s s.size
        go_wp2
        go_ret
        exact ⟨rfl, iter_below _ _ _⟩
  · have hne : (r == 65533) = false := by rw [beq_eq_false_iff_ne]; exact he
    cases hv : Utf8.valid r with
    | false =>
      have HV : Hid (Lib.validRune r = false) := hide (by rw [show Lib.validRune r = Go.validRune r from rfl, ← validRune_eq]; exact hv)
      clear hv he
      go_enter Tryz.func231, Tryz.ntmps231
      go_wp2_with fail
      refine (Tryz.utf8_ValidRune r _).mono ?_
      rintro e w' ⟨rfl, hw⟩
      subst hw
      rw [HV.out]
      go_wp2_with fail
      go_ret
      exact ⟨rfl, Below.refl _ _⟩
    | true =>
      obtain ⟨e1, e2, e3⟩ := encode_facts r hv h1
      have HV : Hid (Lib.validRune r = true) := hide (by rw [show Lib.validRune r = Go.validRune r from rfl, ← validRune_eq]; exact hv)
      clear hv he
      obtain ⟨E, hE⟩ : ∃ E, E = Utf8.encode r := ⟨_, rfl⟩
      rw [← hE] at e1 e2 e3
      have hcv : ∀ w : World, (convert 21 9 (.int .i32 r)).run Tryz.prog w = .ok (.string E) w := fun w => by
        rw [hE]; exact run_convert_int_string w 21 9 .i32 r (by rw [Tryz.underlying21]; rfl) Tryz.underlying9
      clear hE
      obtain ⟨m, hm⟩ : ∃ m : Nat, E.size = m + 1 := ⟨E.size - 1, by omega⟩
      have hm1 : m < E.size := by omega
      have hb : 128 ≤ (E[m]'hm1).toNat := by
        have : ∀ j (h : j < E.size), j = E.size - 1 → 128 ≤ (E[j]'h).toNat := fun j h e => by subst e; exact e3 h
        exact this m hm1 (by omega)
      have hmm : (m : Int) < (m : Int) + 1 := by omega
      have hw : IntKind.i64.wrap ((m : Int) + 1) = (m : Int) + 1 := IntWalk.i64_in _ (by omega)
      clear e3
      by_cases hlt : m < s.size
      · have hsm : (s[m]'hlt).toNat < 128 := by
          have := List.all_eq_true.1 ha s[m] (by rw [← Array.mem_def]; exact Array.getElem_mem (by exact hlt))
          simpa using this
        have hne2 : ((s[m].toNat : Int) != (E[m].toNat : Int)) = true := by
          rw [bne_iff_ne]; omega
        have hix : Lib.indexByte (s.extract (m + 1) s.size).data.toList (E[m].toNat : Int).toNat.toUInt8 = -1 := by
          refine indexByte_high _ _ (fun x hx => ?_) (by simp; exact hb)
          have := List.all_eq_true.1 ha x (mem_extract hx)
          simpa using this
        have HIX := hide hix
        have o0 : (0 : Int) ≤ m := by omega
        have o1 : (m : Int) + 1 ≤ s.size := by omega
        have o3 : (0 : Int) ≤ (m : Int) + 1 := by omega
        have o4 : ((m : Int) + 1).toNat = m + 1 := by omega
        clear ha hb hix
        go_enter Tryz.func231, Tryz.ntmps231
        go_wp2_with fail
        refine (Tryz.utf8_ValidRune r _).mono ?_
        rintro e w' ⟨rfl, hw⟩
        subst hw
        rw [HV.out]
        go_wp2_with fail
        go_step3
        go_wp2
        go_loop [9, 10, 11, 12] (fun i f _ _ => i = .int .i64 m ∧ f = .int .i64 0) (fun _ _ _ _ => 0)
        case atStart => exact ⟨rfl, rfl⟩
        case round =>
          obtain ⟨rfl, rfl⟩ := hrel
          go_wp2
          go_step3
          go_wp2
          go_quiet (fail)
          go_wp2
          go_quiet ((go_at_call 205; exact quiet_add_same (Tryz.strings_IndexByte _ _ _)))
          rw [HIX.out]
          go_wp2
          simp +zetaDelta only [Exit.noGoto_ret, go_sem]
          go_ret
          exact ⟨rfl, ⟨rfl, rfl, rfl, Nat.le_refl _, fun _ _ => rfl⟩⟩
      · have o4 : ((m : Int) + 1).toNat = m + 1 := by omega
        clear ha hb
        go_enter Tryz.func231, Tryz.ntmps231
        go_wp2_with fail
        refine (Tryz.utf8_ValidRune r _).mono ?_
        rintro e w' ⟨rfl, hw⟩
        subst hw
        rw [HV.out]
        go_wp2_with fail
        go_step3
        go_wp2
        go_loop [9, 10, 11, 12] (fun i f _ _ => i = .int .i64 m ∧ f = .int .i64 0) (fun _ _ _ _ => 0)
        case atStart => exact ⟨rfl, rfl⟩
        case round =>
          obtain ⟨rfl, rfl⟩ := hrel
          go_wp2
          try simp +zetaDelta only [Exit.noGoto_ret, go_sem]
          go_ret
          exact ⟨rfl, Below.refl _ _⟩
theorem decode_high_or (s : ByteArray) (pos : Nat) (h : pos < s.size) : (s[pos].toNat < 128 ∧ Utf8.decode s pos = (s[pos].toNat, 1)) ∨ (128 ≤ s[pos].toNat ∧ 128 ≤ (Utf8.decode s pos).1 ∧ 1 ≤ (Utf8.decode s pos).2) := by
  by_cases ha : s[pos].toNat < 128
  · refine .inl ⟨ha, ?_⟩
    simp only [Utf8.decode, get_at s pos h, ha, if_true]
  · exact .inr ⟨by omega, decode_high s pos h (by omega)⟩
theorem not_contains_high {l : List UInt8} (h : l.all (fun c => decide (c.toNat < 128)) = true) {c : UInt8} (hc : 128 ≤ c.toNat) : l.contains c = false := by
  cases hm : l.contains c with
  | false => rfl
  | true =>
    have := List.all_eq_true.1 h c (by simpa using hm)
    have h2 : c.toNat < 128 := by simpa using this
    omega
theorem decode_span (s : ByteArray) (pos : Nat) (h : pos < s.size) (ha : 128 ≤ s[pos].toNat) : ∀ j, pos ≤ j → j < pos + (Utf8.decode s pos).2 → ∀ b, s.data.toList[j]? = some b → 128 ≤ b.toNat := by
  intro j h1 h2 b hb
  rcases Nat.eq_or_lt_of_le h1 with rfl | h1
  · rw [List.getElem?_eq_getElem (by rw [toList_length]; exact h)] at hb
    rw [← Option.some.inj hb]; exact ha
  · have hj : j < s.size := by have := (List.getElem?_eq_some_iff.1 hb).1; rwa [toList_length] at this
    have e := decode_decL s pos h
    have hsp := decL_spec (s.data.toList.drop pos) (by rw [drop_cons s pos h]; simp)
    rw [e, hsp.2.1] at h2
    by_cases hz : wholeN (s.data.toList.drop pos) = 0
    · rw [vStep_zero hz] at h2
      simp at h2; omega
    · rw [vStep_pos rfl hz] at h2
      simp only at h2
      have hw := whole_first hz
      have := hw.2 (j - pos) (by omega) (by omega)
      rw [List.getD_eq_getElem?_getD, List.getElem?_drop, Nat.add_sub_cancel' (by omega), hb] at this
      have := (contB_iff b).1 this
      omega
theorem decode_end (s : ByteArray) (pos : Nat) (h : pos < s.size) : pos + (Utf8.decode s pos).2 ≤ s.size := by
  have hne : s.data.toList.drop pos ≠ [] := by rw [drop_cons s pos h]; simp
  have hsp := decL_spec _ hne
  have hst := vStep_pos' _ hne
  rw [List.length_drop, toList_length] at hst
  rw [decode_decL s pos h, hsp.2.1]; omega
end Go.Proofs.YtiejmkjpgjbodaaGreatDoor
