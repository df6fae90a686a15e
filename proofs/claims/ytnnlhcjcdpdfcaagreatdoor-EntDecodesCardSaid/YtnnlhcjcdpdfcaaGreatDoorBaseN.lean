/- More of the first texts of this claim in one: each with its own head. No statement is proved here. -/
import Derived.Test.YtnnlhcjcdpdfcaaGreatDoorBaseM
import Derived.Test.YtnnlhcjcdpdfcaaGreatDoorShelf
import Derived.Laws.Runes
import Derived.WalkMore
import Derived.Laws.RangeAny
import Derived.Shelf.Strings.IndexAnyAll
import Derived.Shelf.Strings.SlTrimAscii
import Derived.StillTailTactics
/- WALK of word.fromQ. No statement is proved here. -/
namespace Go.Proofs.YtnnlhcjcdpdfcaaGreatDoor
open Go.RowKit
set_option linter.unusedVariables false
set_option linter.unusedSimpArgs false

set_option maxRecDepth 100000 in
set_option maxHeartbeats 1000000 in
theorem fromQ_any (s : ByteArray) (w : World) (hs : s.size ≤ 70368744177664) :
    Calls Tryz.prog 215 #[.string s] w fun e w' => e = .returned (.string (str (qdec s.data.toList))) ∧ Below w.heap.size w w' := by
  go_enter Tryz.func215, Tryz.ntmps215
  go_wp2_with (refine wpList_buf_make rfl _ _ rfl w.heap.size w (Below.refl _ _) (Nat.le_refl _) s.size s.size rfl rfl rfl (by omega) ?_; intro v0 w0 hb0)
  go_loopw [3, 4] (fun v i wr => ∃ (k : Nat) (acc : List UInt8), k ≤ s.size ∧ i = .int .i64 k ∧ Buf w.heap.size v acc w wr ∧ acc.length ≤ k ∧ acc ++ qdec (s.data.toList.drop k) = qdec s.data.toList) (fun _ i _ => s.size - (intOf i).toNat)
  case atStart => exact ⟨0, [], Nat.zero_le _, rfl, hb0, Nat.zero_le _, rfl⟩
  case round =>
    obtain ⟨k, acc, hk, rfl, hb, hacc, hd⟩ := hrel
    have HB := hide hb
    clear hb
    by_cases hlt : k < s.size
    · have hne := drop_cons s k hlt
      have hR := qdec_round hd hne
      have hle := qStep_le s[k] (s.data.toList.drop (k + 1))
      rw [List.length_drop, toList_length] at hle
      have hdd : ∀ n, (s.data.toList.drop k).drop n = s.data.toList.drop (k + n) := fun n => by rw [List.drop_drop]
      rcases qStep_cases s[k] (s.data.toList.drop (k + 1)) with ⟨h95, hp⟩ | ⟨h61, b, hx, hp, hl⟩ | ⟨h61, hx, hp⟩ | ⟨h95, h61, hp⟩
      · rw [hp, hdd] at hR
        have HR := hide hR
        have t0 : ((s[k].toNat : Int) == 95) = true := tT 95 h95 (by omega)
        clear hR hp hne hd hle hdd h95
        go_wp2_with (refine wpList_buf_const rfl _ _ rfl w.heap.size u3 acc rfl w wr 32 32 rfl HB.out rfl (by omega) ?_; intro v2 w2 hb2 _; have HB2 := hide hb2; clear hb2)
        go_roundw
        case rel => exact ⟨k + 1, acc ++ [32], by omega, by go_num, HB2.out, by simp; omega, HR.out⟩
        case measure => simp [intOf]; omega
      · rw [hp, hdd] at hR
        rw [hp] at hle
        rw [List.length_drop, toList_length] at hl
        have HR := hide hR
        have t0 : ((s[k].toNat : Int) == 61) = true := tT 61 h61 (by omega)
        have t1 : ((s[k].toNat : Int) == 95) = false := tF 95 (by rw [h61]; decide) (by omega)
        have HV : Hid (fromHexV (s.data.toList.drop (k + 1)) = .tuple #[.int .u8 b.toNat, .bool true]) := by unfold fromHexV; rw [hx]; exact hide rfl
        have HX1 := hide (extract_end s (k + 1))
        have HX := hide (show (s.extract (k + 1) s.size).size ≤ maxLen by rw [ByteArray.size_extract]; unfold maxLen; omega)
        clear hR hp hne hd hle hdd h61 hx
        go_wp2_with fail
        refine (fromHex_any _ _ HX.out).mono ?_
        rintro e w1 ⟨rfl, hb1⟩
        rw [HX1.out, HV.out]
        have HB1 := hide (HB.out.kept hb1)
        go_wp2_with (refine wpList_buf_byte rfl _ _ rfl w.heap.size u3 acc rfl w w1 b HB1.out rfl (by omega) ?_; intro v2 w2 hb2; have HB2 := hide hb2; clear hb2)
        go_roundw
        case rel => exact ⟨k + 3, acc ++ [b], by omega, by go_num, HB2.out, by simp; omega, HR.out⟩
        case measure => simp [intOf]; omega
      · rw [hp, hdd] at hR
        have HR := hide hR
        have t0 : ((s[k].toNat : Int) == 61) = true := tT 61 h61 (by omega)
        have t1 : ((s[k].toNat : Int) == 95) = false := tF 95 (by rw [h61]; decide) (by omega)
        have HV : Hid (fromHexV (s.data.toList.drop (k + 1)) = .tuple #[.int .u8 0, .bool false]) := by unfold fromHexV; rw [hx]; exact hide rfl
        have HX1 := hide (extract_end s (k + 1))
        have HX := hide (show (s.extract (k + 1) s.size).size ≤ maxLen by rw [ByteArray.size_extract]; unfold maxLen; omega)
        have H61 := hide h61
        clear hR hp hne hd hle hdd h61 hx
        go_wp2_with fail
        refine (fromHex_any _ _ HX.out).mono ?_
        rintro e w1 ⟨rfl, hb1⟩
        rw [HX1.out, HV.out]
        have HB1 := hide (HB.out.kept hb1)
        go_wp2_with (refine wpList_buf_byte rfl _ _ rfl w.heap.size u3 acc rfl w w1 s[k] HB1.out rfl (by omega) ?_; intro v2 w2 hb2; have HB2 := hide hb2; clear hb2)
        go_roundw
        case rel => exact ⟨k + 1, acc ++ [s[k]], by omega, by go_num, HB2.out, by simp; omega, HR.out⟩
        case measure => simp [intOf]; omega
      · rw [hp, hdd] at hR
        have HR := hide hR
        have t0 : ((s[k].toNat : Int) == 61) = false := tF 61 h61 (by omega)
        have t1 : ((s[k].toNat : Int) == 95) = false := tF 95 h95 (by omega)
        clear hR hp hne hd hle hdd h61 h95
        go_wp2_with (refine wpList_buf_byte rfl _ _ rfl w.heap.size u3 acc rfl w wr s[k] HB.out rfl (by omega) ?_; intro v2 w2 hb2; have HB2 := hide hb2; clear hb2)
        go_roundw
        case rel => exact ⟨k + 1, acc ++ [s[k]], by omega, by go_num, HB2.out, by simp; omega, HR.out⟩
        case measure => simp [intOf]; omega
    · have hcv := HB.out.convert
      go_wp2
      go_ret
      refine ⟨?_, HB.out.below⟩
      rw [drop_nil s k (by omega), qdec_nil, List.append_nil] at hd
      exact ret_str (by rw [hd])
end Go.Proofs.YtnnlhcjcdpdfcaaGreatDoor

/- WALK of strings.IndexRune beyond ASCII; a sign's bytes. No statement is proved here. -/
namespace Go.Proofs.YtnnlhcjcdpdfcaaGreatDoor
open Go.RowKit
set_option linter.unusedVariables false
set_option linter.unusedSimpArgs false

theorem indexByte_high (l : List UInt8) (c : UInt8) (h : ∀ x ∈ l, x.toNat < 128) (hc : 128 ≤ c.toNat) : Lib.indexByte l c = -1 := by
  induction l with
  | nil => rfl
  | cons a r ih =>
    have ha := h a (List.mem_cons_self ..)
    have hne : (a == c) = false := by
      rw [beq_eq_false_iff_ne]; rintro rfl; omega
    simp [Lib.indexByte, hne, ih (fun x hx => h x (List.mem_cons_of_mem _ hx))]

/-- a quiet call behind a quiet region -/
theorem quiet_add_same {P : Program} {f : FuncId} {args : Array Value} {w : World} {a n : Nat} {v : Value}
    (h : Calls P f args (w.drewN (a + n)) fun e w' => e = .returned v ∧ w' = w.drewN (a + n)) :
    Calls P f args (w.drewN (a + n)) fun e w'' => e = .returned v ∧ ∃ m, w'' = w.drewN (a + m) :=
  h.mono fun _ _ ⟨he, hm⟩ => ⟨he, n, hm⟩

set_option maxRecDepth 100000 in
set_option maxHeartbeats 1000000 in
/-- a sign beyond ASCII is in no text of ASCII bytes -/
theorem indexRune_high (s : ByteArray) (r : Int) (w : World) (hs : s.size ≤ 100) (ha : s.data.toList.all (fun c => decide (c.toNat < 128)) = true) (h1 : 128 ≤ r) (h2 : r ≤ 2147483647) :
    Calls Tryz.prog 147 #[.string s, .int .i32 r] w fun e w' => e = .returned (.int .i64 (-1)) ∧ Below w.heap.size w w' := by
  have h3 : ¬ r < 128 := by omega
  have h4 : 0 ≤ r := by omega
  by_cases he : r = 65533
  · subst he
    have HA := hide ha
    clear ha
    go_enter Tryz.func147, Tryz.ntmps147
    go_wp2
    go_loopw [5, 6] (fun _ _ wr => ∃ pos : Nat, pos ≤ s.size ∧ wr = w.iter s pos) (fun _ _ wr => s.size - wr.iterPos w.heap.size)
    case atStart => exact ⟨0, Nat.zero_le _, rfl⟩
    case round =>
      obtain ⟨pos, hp, rfl⟩ := hrel
      by_cases hlt : pos < s.size
      · obtain ⟨x, hx, hx1, hnx⟩ := next_ascii (P := Tryz.prog) w s pos hlt HA.out
        clear hx
        have hne : ((x.toNat : Int) == 65533) = false := by rw [beq_eq_false_iff_ne]; omega
        go_wp2
        go_roundw
        case rel => exact ⟨pos + 1, by omega, rfl⟩
        case measure => simp; omega
      · obtain rfl : pos = s.size := by omega
        have hnx := run_next_end (P := Tryz.prog) w s s.size
        go_wp2
        go_ret
        exact ⟨rfl, iter_below _ _ _⟩
  · have hne : (r == 65533) = false := by rw [beq_eq_false_iff_ne]; exact he
    cases hv : Utf8.valid r with
    | false =>
      have HV : Hid (Lib.validRune r = false) := hide (by rw [show Lib.validRune r = Go.validRune r from rfl, ← validRune_eq]; exact hv)
      clear hv he
      go_enter Tryz.func147, Tryz.ntmps147
      go_wp2_with fail
      refine (Tryz.utf8_ValidRune r _).mono ?_
      rintro e w' ⟨rfl, hw⟩
      subst hw
      rw [HV.out]
      go_wp2_with fail
      go_ret
      exact ⟨rfl, Below.refl _ _⟩
    | true =>
      obtain ⟨e1, e2, e3⟩ := encode_facts r hv h1
      have HV : Hid (Lib.validRune r = true) := hide (by rw [show Lib.validRune r = Go.validRune r from rfl, ← validRune_eq]; exact hv)
      clear hv he
      obtain ⟨E, hE⟩ : ∃ E, E = Utf8.encode r := ⟨_, rfl⟩
      rw [← hE] at e1 e2 e3
      have hcv : ∀ w : World, (convert 21 9 (.int .i32 r)).run Tryz.prog w = .ok (.string E) w := fun w => by
        rw [hE]; exact run_convert_int_string w 21 9 .i32 r (by rw [Tryz.underlying21]; rfl) Tryz.underlying9
      clear hE
      obtain ⟨m, hm⟩ : ∃ m : Nat, E.size = m + 1 := ⟨E.size - 1, by omega⟩
      have hm1 : m < E.size := by omega
      have hb : 128 ≤ (E[m]'hm1).toNat := by
        have : ∀ j (h : j < E.size), j = E.size - 1 → 128 ≤ (E[j]'h).toNat := fun j h e => by subst e; exact e3 h
        exact this m hm1 (by omega)
      have hmm : (m : Int) < (m : Int) + 1 := by omega
      have hw : IntKind.i64.wrap ((m : Int) + 1) = (m : Int) + 1 := IntWalk.i64_in _ (by omega)
      clear e3
      by_cases hlt : m < s.size
      · have hsm : (s[m]'hlt).toNat < 128 := by
          have := List.all_eq_true.1 ha s[m] (by rw [← Array.mem_def]; exact Array.getElem_mem (by exact hlt))
          simpa using this
        have hne2 : ((s[m].toNat : Int) != (E[m].toNat : Int)) = true := by
          rw [bne_iff_ne]; omega
        have hix : Lib.indexByte (s.extract (m + 1) s.size).data.toList (E[m].toNat : Int).toNat.toUInt8 = -1 := by
          refine indexByte_high _ _ (fun x hx => ?_) (by simp; exact hb)
          have := List.all_eq_true.1 ha x (mem_extract hx)
          simpa using this
        have HIX := hide hix
        have o0 : (0 : Int) ≤ m := by omega
        have o1 : (m : Int) + 1 ≤ s.size := by omega
        have o3 : (0 : Int) ≤ (m : Int) + 1 := by omega
        have o4 : ((m : Int) + 1).toNat = m + 1 := by omega
        clear ha hb hix
        go_enter Tryz.func147, Tryz.ntmps147
        go_wp2_with fail
        refine (Tryz.utf8_ValidRune r _).mono ?_
        rintro e w' ⟨rfl, hw⟩
        subst hw
        rw [HV.out]
        go_wp2_with fail
        go_step3
        go_wp2
        go_loop [9, 10, 11, 12] (fun i f _ _ => i = .int .i64 m ∧ f = .int .i64 0) (fun _ _ _ _ => 0)
        case atStart => exact ⟨rfl, rfl⟩
        case round =>
          obtain ⟨rfl, rfl⟩ := hrel
          go_wp2
          go_step3
          go_wp2
          go_quiet (fail)
          go_wp2
          go_quiet ((go_at_call 122; exact quiet_add_same (Tryz.strings_IndexByte _ _ _)))
          rw [HIX.out]
          go_wp2
          simp +zetaDelta only [Exit.noGoto_ret, go_sem]
          go_ret
          exact ⟨rfl, ⟨rfl, rfl, rfl, Nat.le_refl _, fun _ _ => rfl⟩⟩
      · have o4 : ((m : Int) + 1).toNat = m + 1 := by omega
        clear ha hb
        go_enter Tryz.func147, Tryz.ntmps147
        go_wp2_with fail
        refine (Tryz.utf8_ValidRune r _).mono ?_
        rintro e w' ⟨rfl, hw⟩
        subst hw
        rw [HV.out]
        go_wp2_with fail
        go_step3
        go_wp2
        go_loop [9, 10, 11, 12] (fun i f _ _ => i = .int .i64 m ∧ f = .int .i64 0) (fun _ _ _ _ => 0)
        case atStart => exact ⟨rfl, rfl⟩
        case round =>
          obtain ⟨rfl, rfl⟩ := hrel
          go_wp2
          try simp +zetaDelta only [Exit.noGoto_ret, go_sem]
          go_ret
          exact ⟨rfl, Below.refl _ _⟩

theorem decode_high_or (s : ByteArray) (pos : Nat) (h : pos < s.size) : (s[pos].toNat < 128 ∧ Utf8.decode s pos = (s[pos].toNat, 1)) ∨ (128 ≤ s[pos].toNat ∧ 128 ≤ (Utf8.decode s pos).1 ∧ 1 ≤ (Utf8.decode s pos).2) := by
  by_cases ha : s[pos].toNat < 128
  · refine .inl ⟨ha, ?_⟩
    simp only [Utf8.decode, get_at s pos h, ha, if_true]
  · exact .inr ⟨by omega, decode_high s pos h (by omega)⟩

theorem not_contains_high {l : List UInt8} (h : l.all (fun c => decide (c.toNat < 128)) = true) {c : UInt8} (hc : 128 ≤ c.toNat) : l.contains c = false := by
  cases hm : l.contains c with
  | false => rfl
  | true =>
    have := List.all_eq_true.1 h c (by simpa using hm)
    have h2 : c.toNat < 128 := by simpa using this
    omega

/-- the bytes of a sign that is read are its first byte and bytes beyond ASCII -/
theorem decode_span (s : ByteArray) (pos : Nat) (h : pos < s.size) (ha : 128 ≤ s[pos].toNat) : ∀ j, pos ≤ j → j < pos + (Utf8.decode s pos).2 → ∀ b, s.data.toList[j]? = some b → 128 ≤ b.toNat := by
  intro j h1 h2 b hb
  rcases Nat.eq_or_lt_of_le h1 with rfl | h1
  · rw [List.getElem?_eq_getElem (by rw [toList_length]; exact h)] at hb
    rw [← Option.some.inj hb]; exact ha
  · have hj : j < s.size := by have := (List.getElem?_eq_some_iff.1 hb).1; rwa [toList_length] at this
    have e := decode_decL s pos h
    have hsp := decL_spec (s.data.toList.drop pos) (by rw [drop_cons s pos h]; simp)
    rw [e, hsp.2.1] at h2
    by_cases hz : wholeN (s.data.toList.drop pos) = 0
    · rw [vStep_zero hz] at h2
      simp at h2; omega
    · rw [vStep_pos rfl hz] at h2
      simp only at h2
      have hw := whole_first hz
      have := hw.2 (j - pos) (by omega) (by omega)
      rw [List.getD_eq_getElem?_getD, List.getElem?_drop, Nat.add_sub_cancel' (by omega), hb] at this
      have := (contB_iff b).1 this
      omega

theorem decode_end (s : ByteArray) (pos : Nat) (h : pos < s.size) : pos + (Utf8.decode s pos).2 ≤ s.size := by
  have hne : s.data.toList.drop pos ≠ [] := by rw [drop_cons s pos h]; simp
  have hsp := decL_spec _ hne
  have hst := vStep_pos' _ hne
  rw [List.length_drop, toList_length] at hst
  rw [decode_decL s pos h, hsp.2.1]; omega
end Go.Proofs.YtnnlhcjcdpdfcaaGreatDoor

/- WALKS of strings.IndexAny and ContainsAny at any text and a set of ASCII bytes. No statement is proved here. -/
namespace Go.Proofs.YtnnlhcjcdpdfcaaGreatDoor
open Go.RowKit
set_option linter.unusedVariables false
set_option linter.unusedSimpArgs false

/-- is one of the bytes of cs in l? -/
def hasAny (cs l : List UInt8) : Bool := l.any fun c => cs.contains c

theorem noAny_step {s : ByteArray} {cs : List UInt8} {pos n : Nat} (h : Lib.NoAny s.data.toList cs pos) (hn : ∀ j, pos ≤ j → j < pos + n → ∀ b, s.data.toList[j]? = some b → cs.contains b = false) : Lib.NoAny s.data.toList cs (pos + n) := by
  intro j b hj hb
  rcases Nat.lt_or_ge j pos with h1 | h1
  · exact h j b h1 hb
  · exact hn j h1 hj b hb
set_option maxRecDepth 100000 in
set_option maxHeartbeats 1000000 in
theorem indexAny_short (s cs : ByteArray) (w : World) (h2 : 2 ≤ cs.size) (hcs : cs.size ≤ 100) (h8 : s.size ≤ 8) (ha : cs.data.toList.all (fun c => decide (c.toNat < 128)) = true) :
    Calls Tryz.prog 114 #[.string s, .string cs] w fun e w' => e = .returned (.int .i64 (Lib.indexAny s.data.toList cs.data.toList)) ∧ Below w.heap.size w w' := by
  have hemp : cs.toList.isEmpty = false := by
    rw [Lib.toList_data]
    cases h : cs.data.toList with
    | nil => have := Lib.size_eq cs; rw [h, List.length_nil] at this; omega
    | cons _ _ => rfl
  have hn1 : ((cs.size : Int) == 1) = false := beq_eq_false_iff_ne.2 (by omega)
  have h8z : decide ((8 : Int) < (s.size : Int)) = false := decide_eq_false (by omega)
  have HA := hide ha
  clear ha
  go_enter Tryz.func114, Tryz.ntmps114
  go_wp2_with fail
  refine (Tryz.strings_shouldUseASCIISet _ _).mono ?_
  rintro e w1 ⟨rfl, hw1⟩
  subst hw1
  rw [h8z]
  go_wp2_with fail
  have hit : (w1.iter s 0).heap[w1.heap.size]? = some (Obj.stringIter s 0) := heap_alloc_new w1 _
  have hb0 : Below w1.heap.size w1 (w1.iter s 0) := iter_below w1 s 0
  have hg0 : w1.heap.size < (w1.iter s 0).heap.size := (Array.getElem?_eq_some_iff.1 hit).1
  go_loopw [9, 10] (fun _ _ wr => ∃ pos : Nat, pos ≤ s.size ∧ wr.heap[w1.heap.size]? = some (Obj.stringIter s pos) ∧ Below w1.heap.size w1 wr ∧ Lib.NoAny s.data.toList cs.data.toList pos) (fun _ _ wr => s.size - wr.iterPos w1.heap.size)
  case atStart => exact ⟨0, Nat.zero_le _, hit, hb0, Lib.NoAny.zero _ _⟩
  case round =>
    obtain ⟨pos, hpos, hk, hb, hno⟩ := hrel
    have HK := hide hk
    have HB := hide hb
    have HN := hide hno
    have hsz : w1.heap.size < wr.heap.size := (Array.getElem?_eq_some_iff.1 hk).1
    clear hk hb hno
    by_cases hlt : pos < s.size
    · have hnx := fun ty => Lib.run_next_any_at (P := Tryz.prog) wr w1.heap.size s pos ty HK.out hlt
      have hle := decode_le s pos
      rcases decode_high_or s pos hlt with ⟨hx, hdec⟩ | ⟨hx, hd1, hd2⟩
      · rw [hdec] at hnx
        have hg : s.data.toList[pos]? = some s[pos] := by rw [List.getElem?_eq_getElem (by rw [toList_length]; exact hlt)]; rfl
        have hcon := Lib.contains_iff_indexByte cs.data.toList s[pos]
        have hback : ((s[pos].toNat : Int)).toNat.toUInt8 = s[pos] := by simp
        have HI := hide (Lib.iterAt_heap wr w1.heap.size s pos (pos + 1) HK.out)
        have HB1 := hide (Lib.below_iterAt HB.out (Nat.le_refl _) s (pos + 1))
        have HG := hide hg
        clear hdec hg
        cases hin : cs.data.toList.contains s[pos]
        · rw [hin] at hcon
          have hlt2 : ¬ ((0 : Int) ≤ Lib.indexByte cs.data.toList s[pos]) := of_decide_eq_false hcon.symm
          have HIN := hide hin
          clear hcon hin
          go_wp2_with fail
          refine (Tryz.strings_IndexRune_ascii _ _ _ (by omega) (by omega)).mono ?_
          rintro e w2 ⟨rfl, hw2⟩
          subst hw2
          rw [hback]
          go_wp2_with fail
          go_roundw
          case rel => exact ⟨pos + 1, by omega, HI.out, HB1.out, HN.out.succ HG.out HIN.out⟩
          case measure =>
            rw [show World.iterPos (World.iterAt wr w1.heap.size s (pos + 1)) w1.heap.size = pos + 1 by unfold World.iterPos; rw [HI.out], show World.iterPos wr w1.heap.size = pos by unfold World.iterPos; rw [HK.out]]
            omega
        · rw [hin] at hcon
          have hge : (0 : Int) ≤ Lib.indexByte cs.data.toList s[pos] := of_decide_eq_true hcon.symm
          have HIN := hide hin
          clear hcon hin
          go_wp2_with fail
          refine (Tryz.strings_IndexRune_ascii _ _ _ (by omega) (by omega)).mono ?_
          rintro e w2 ⟨rfl, hw2⟩
          subst hw2
          rw [hback]
          go_wp2_with fail
          go_ret
          exact ⟨ret_int (by rw [Lib.indexAny_hit HN.out HG.out HIN.out]), HB1.out⟩
      · have hsp := decode_span s pos hlt hx
        have hle2 := decode_end s pos hlt
        generalize Utf8.decode s pos = dl at hnx hd1 hd2 hle hsp hle2
        obtain ⟨r, n⟩ := dl
        simp only at hnx hd1 hd2 hle hsp hle2
        have HI := hide (Lib.iterAt_heap wr w1.heap.size s pos (pos + n) HK.out)
        have HB1 := hide (Lib.below_iterAt HB.out (Nat.le_refl _) s (pos + n))
        have HN2 := hide (noAny_step HN.out fun j h1 h2 b hb => not_contains_high HA.out (hsp j h1 h2 b hb))
        clear hsp
        go_wp2_with fail
        refine (indexRune_high cs (r : Int) _ (by omega) HA.out (by omega) (by omega)).mono ?_
        rintro e w2 ⟨rfl, hb2⟩
        have HI2 := hide ((hb2.block _ (by rw [Lib.iterAt_size]; exact hsz)).trans HI.out)
        have HB2 := hide (HB1.out.trans (hb2.mono (by rw [Lib.iterAt_size]; exact HB.out.size)))
        clear hb2
        go_wp2_with fail
        go_roundw
        case rel => exact ⟨pos + n, by omega, HI2.out, HB2.out, HN2.out⟩
        case measure =>
          have e1 : World.iterPos w2 w1.heap.size = pos + n := by unfold World.iterPos; rw [HI2.out]
          have e2 : World.iterPos wr w1.heap.size = pos := by unfold World.iterPos; rw [HK.out]
          rw [e1, e2]; omega
    · have hnx := fun ty => Lib.run_next_end_at (P := Tryz.prog) wr w1.heap.size s pos ty HK.out hlt
      go_wp2
      go_ret
      exact ⟨ret_int (by rw [Lib.indexAny_none (by rw [← Lib.size_eq]; exact fun j b hj => HN.out j b (by omega))]), HB.out⟩
theorem hasAny_index (cs l : List UInt8) : Lib.containsAny l cs = hasAny cs l := by
  unfold Lib.containsAny hasAny
  induction l with
  | nil => rfl
  | cons a r ih =>
    rw [List.any_cons, ← ih]
    have hge := Lib.indexAny_ge cs r
    by_cases h : cs.contains a = true
    · have e : Lib.indexAny (a :: r) cs = 0 := by simp only [Lib.indexAny]; exact if_pos h
      rw [decide_eq_true (show 0 ≤ Lib.indexAny (a :: r) cs by omega), h]; rfl
    · have hf : cs.contains a = false := by simpa using h
      rw [hf, Bool.false_or]
      have e : Lib.indexAny (a :: r) cs = if (Lib.indexAny r cs == -1) = true then -1 else Lib.indexAny r cs + 1 := by simp only [Lib.indexAny]; exact if_neg h
      by_cases h0 : Lib.indexAny r cs = -1
      · rw [if_pos (beq_iff_eq.2 h0)] at e
        rw [decide_eq_false (show ¬ 0 ≤ Lib.indexAny (a :: r) cs by omega), decide_eq_false (show ¬ 0 ≤ Lib.indexAny r cs by omega)]
      · rw [if_neg (fun x => h0 (beq_iff_eq.1 x))] at e
        rw [decide_eq_true (show 0 ≤ Lib.indexAny (a :: r) cs by omega), decide_eq_true (show 0 ≤ Lib.indexAny r cs by omega)]

set_option maxRecDepth 100000 in
set_option maxHeartbeats 1000000 in
theorem containsAny_any (s cs : ByteArray) (w : World) (h2 : 2 ≤ cs.size) (hcs : cs.size ≤ 100) (hs : s.size ≤ 1048576) (ha : cs.data.toList.all (fun c => decide (c.toNat < 128)) = true) :
    Calls Tryz.prog 80 #[.string s, .string cs] w fun e w' => e = .returned (.bool (hasAny cs.data.toList s.data.toList)) ∧ Below w.heap.size w w' := by
  have key : Calls Tryz.prog 114 #[.string s, .string cs] w fun e w' => e = .returned (.int .i64 (Lib.indexAny s.data.toList cs.data.toList)) ∧ Below w.heap.size w w' := by
    by_cases h8 : s.size ≤ 8
    · exact indexAny_short s cs w h2 hcs h8 ha
    · exact (Tryz.strings_IndexAny_long (zero_of_info (n := 256) (by kernel_rfl)).1 s cs w h2 (by omega) (by omega) (by omega) (ascii_of_all ha)).mono fun e w' ⟨he, hw⟩ => ⟨he, by rw [hw]; exact ((Below.refl _ _).alloc (Nat.le_refl _) _).alloc (by simp) _⟩
  have HK := hide key
  have HR := hide (hasAny_index cs.data.toList s.data.toList)
  clear key ha
  go_enter Tryz.func80, Tryz.ntmps80
  go_wp2_with fail
  refine HK.out.mono ?_
  rintro e w1 ⟨rfl, hb1⟩
  go_wp2_with fail
  go_ret
  exact ⟨ret_bool (by rw [← HR.out]; rfl), hb1⟩
end Go.Proofs.YtnnlhcjcdpdfcaaGreatDoor

/- WALK of strings.Cut at a text of one byte. No statement is proved here. -/
namespace Go.Proofs.YtnnlhcjcdpdfcaaGreatDoor
open Go.RowKit
set_option linter.unusedVariables false
set_option linter.unusedSimpArgs false

theorem index_cut (c : UInt8) (l : List UInt8) : (Lib.indexByte l c = -1 ∧ c ∉ l ∧ beforeC c l = l ∧ afterC c l = []) ∨ ∃ o : Nat, Lib.indexByte l c = o ∧ o < l.length ∧ c ∈ l ∧ beforeC c l = l.take o ∧ afterC c l = l.drop (o + 1) := by
  induction l with
  | nil => exact .inl ⟨rfl, by simp, rfl, rfl⟩
  | cons a r ih =>
    by_cases h : a = c
    · subst h
      have := cut_at a (a :: r) 0 (by simp) rfl (fun j hj => absurd hj (by omega))
      exact .inr ⟨0, by simp [Lib.indexByte], by simp, this.1, this.2.1, this.2.2⟩
    · have h1 : (a == c) = false := by simp [h]
      have h2 : (a != c) = true := by simp [h]
      have eb : beforeC c (a :: r) = a :: beforeC c r := by simp [beforeC, List.takeWhile_cons, h2]
      have ea : afterC c (a :: r) = afterC c r := by simp [afterC, List.dropWhile_cons, h2]
      rcases ih with ⟨i1, i2, i3, i4⟩ | ⟨o, i1, i2, i3, i4, i5⟩
      · refine .inl ⟨by simp [Lib.indexByte, h1, i1], ?_, by rw [eb, i3], by rw [ea, i4]⟩
        intro hm
        rcases List.mem_cons.1 hm with e | e
        · exact h e.symm
        · exact i2 e
      · have hne : ((o : Int) == -1) = false := by rw [beq_eq_false_iff_ne]; omega
        refine .inr ⟨o + 1, by simp [Lib.indexByte, h1, i1, hne], by simp; omega, List.mem_cons_of_mem _ i3, by rw [eb, i4]; rfl, by rw [ea, i5]; rfl⟩

/-- what Cut answers -/
def cutV (c : UInt8) (l : List UInt8) : Value := .tuple #[.string (str (beforeC c l)), .string (str (afterC c l)), .bool (hasC c l)]
theorem ret_cut {a b x y : ByteArray} {d e : Bool} (h : a = b) (h' : x = y) (h'' : d = e) : Ending.returned (.tuple #[.string a, .string x, .bool d]) = .returned (.tuple #[.string b, .string y, .bool e]) := by rw [h, h', h'']
set_option maxHeartbeats 1000000 in
theorem cut_any (s : ByteArray) (c : UInt8) (w : World) (hs : s.size ≤ 70368744177664) :
    Calls Tryz.prog 88 #[.string s, .string ⟨#[c]⟩] w fun e w' => e = .returned (cutV c s.data.toList) ∧ Below w.heap.size w w' := by
  have hz : (⟨#[c]⟩ : ByteArray).size = 1 := rfl
  rcases index_cut c s.data.toList with ⟨i1, i2, i3, i4⟩ | ⟨o, i1, i2, i3, i4, i5⟩
  · have I1 := hide i1
    have I2 := hide i2
    have I3 := hide i3
    have I4 := hide i4
    clear i1 i2 i3 i4
    go_enter Tryz.func88, Tryz.ntmps88
    go_wp2_with fail
    refine (Tryz.stringslite_Index_one s c _).mono ?_
    rintro e w1 ⟨rfl, hw⟩
    subst hw
    rw [I1.out]
    go_wp2_with fail
    go_ret3
    exact ⟨ret_cut (by rw [I3.out, str_of]) (by rw [I4.out]; rfl) (by rw [hasC_false I2.out]), Below.refl _ _⟩
  · have I1 := hide i1
    have I3 := hide i3
    have I4 := hide i4
    have I5 := hide i5
    rw [toList_length] at i2
    have o1 : (o : Int) + 1 ≤ s.size := by omega
    have o0 : (0 : Int) ≤ o := by omega
    have o2 : (o : Int) ≤ s.size := by omega
    have o3 : (0 : Int) ≤ (o : Int) + 1 := by omega
    have o4 : ((o : Int) + 1).toNat = o + 1 := by omega
    clear i1 i3 i4 i5
    go_enter Tryz.func88, Tryz.ntmps88
    go_wp2_with fail
    refine (Tryz.stringslite_Index_one s c _).mono ?_
    rintro e w1 ⟨rfl, hw⟩
    subst hw
    rw [I1.out]
    go_wp2_with fail
    go_region
    all_goals (try go_wp2)
    all_goals
      go_ret3
      exact ⟨ret_cut (ext_list (by rw [extract_list, List.drop_zero, str_toList, I4.out])) (ext_list (by rw [extract_end, str_toList, I5.out])) (by rw [hasC_true I3.out]), (Below.refl _ _).drew⟩

set_option maxHeartbeats 1000000 in
theorem strCut_any (s : ByteArray) (c : UInt8) (w : World) (hs : s.size ≤ 70368744177664) :
    Calls Tryz.prog 58 #[.string s, .string ⟨#[c]⟩] w fun e w' => e = .returned (cutV c s.data.toList) ∧ Below w.heap.size w w' := by
  go_enter Tryz.func58, Tryz.ntmps58
  go_wp2_with fail
  refine (cut_any s c _ hs).mono ?_
  rintro e w1 ⟨rfl, hb⟩
  unfold cutV
  go_wp2_with fail
  go_ret3
  exact ⟨rfl, hb⟩
end Go.Proofs.YtnnlhcjcdpdfcaaGreatDoor

/- WALK of the closure of package b64 that gathers bits. No statement is proved here. -/
namespace Go.Proofs.YtnnlhcjcdpdfcaaGreatDoor
open Go.RowKit
set_option linter.unusedVariables false
set_option maxRecDepth 100000
set_option linter.unusedSimpArgs false

namespace WalkArithU64
theorem u64_in' (n : Nat) (h : n < 18446744073709551616) : IntKind.u64.wrap (n : Int) = n := by rw [IntKind.wrap_u64]; omega
end WalkArithU64
/-- where the gathering closure keeps its variables, and what they hold -/
structure Gat (size : Nat) (hf : FuncId) (B bw bh bs bd bo : Nat) (h wv : Nat) (w : World) : Prop where
  w1 : Box w bw 123 (.int .u64 wv)
  h1 : Box w bh 3 (.int .i64 h)
  s1 : Box w bs 3 (.int .i64 size)
  d1 : Box w bd 140 (.func (.func hf) #[] #[.pointer (some ⟨bo, 0, none⟩)])
  hs : bh ≠ bs
  lw : B ≤ bw
  lh : B ≤ bh
  no : bh ≠ bo
  wo : bw ≠ bo
  so : bs ≠ bo
  eo : bd ≠ bo

/-- pieces are handed on as long as there are enough bits -/
def runBits (size : Nat) (f : Nat → UInt8) (h wv : Nat) (acc : List UInt8) : Nat × Nat × List UInt8 :=
  if h0 : 0 < size ∧ size ≤ h then runBits size f (h - size) (wv % 2 ^ (h - size)) (acc ++ [f (wv / 2 ^ (h - size))]) else (h, wv, acc)
termination_by h
decreasing_by omega

theorem Gat.bw_bh {size : Nat} {hf : FuncId} {B bw bh bs bd bo h wv : Nat} {w : World} (g : Gat size hf B bw bh bs bd bo h wv w) : bw ≠ bh ∧ bw ≠ bs ∧ bw ≠ bd ∧ bh ≠ bd :=
  ⟨g.w1.ne g.h1 (by decide), g.w1.ne g.s1 (by decide), g.w1.ne g.d1 (by decide), g.h1.ne g.d1 (by decide)⟩
theorem Gat.setW {size : Nat} {hf : FuncId} {B bw bh bs bd bo h wv : Nat} {w : World} (g : Gat size hf B bw bh bs bd bo h wv w) (x : Nat) : Gat size hf B bw bh bs bd bo h x (w.setCell ⟨bw, 0, none⟩ (.int .u64 x)) := by
  obtain ⟨n1, n2, n3, n4⟩ := g.bw_bh
  exact ⟨g.w1.set _, g.h1.far (Ne.symm n1) _, g.s1.far (Ne.symm n2) _, g.d1.far (Ne.symm n3) _, g.hs, g.lw, g.lh, g.no, g.wo, g.so, g.eo⟩
theorem Gat.setH {size : Nat} {hf : FuncId} {B bw bh bs bd bo h wv : Nat} {w : World} (g : Gat size hf B bw bh bs bd bo h wv w) (x : Nat) : Gat size hf B bw bh bs bd bo x wv (w.setCell ⟨bh, 0, none⟩ (.int .i64 x)) := by
  obtain ⟨n1, n2, n3, n4⟩ := g.bw_bh
  exact ⟨g.w1.far n1 _, g.h1.set _, g.s1.far (Ne.symm g.hs) _, g.d1.far (Ne.symm n4) _, g.hs, g.lw, g.lh, g.no, g.wo, g.so, g.eo⟩
theorem Gat.drew {size : Nat} {hf : FuncId} {B bw bh bs bd bo h wv : Nat} {w : World} (g : Gat size hf B bw bh bs bd bo h wv w) : Gat size hf B bw bh bs bd bo h wv w.drew :=
  ⟨g.w1, g.h1, g.s1, g.d1, g.hs, g.lw, g.lh, g.no, g.wo, g.so, g.eo⟩
theorem Gat.drewN {size : Nat} {hf : FuncId} {B bw bh bs bd bo h wv : Nat} {w : World} (g : Gat size hf B bw bh bs bd bo h wv w) (n : Nat) : Gat size hf B bw bh bs bd bo h wv (w.drewN n) :=
  ⟨g.w1, g.h1, g.s1, g.d1, g.hs, g.lw, g.lh, g.no, g.wo, g.so, g.eo⟩
theorem Gat.kept {size : Nat} {hf : FuncId} {B bw bh bs bd bo h wv : Nat} {w w' : World} (g : Gat size hf B bw bh bs bd bo h wv w) (k : KeptBut bo w w') : Gat size hf B bw bh bs bd bo h wv w' :=
  ⟨k _ _ _ (by decide) g.wo g.w1, k _ _ _ (by decide) g.no g.h1, k _ _ _ (by decide) g.so g.s1, k _ _ _ (by decide) g.eo g.d1, g.hs, g.lw, g.lh, g.no, g.wo, g.so, g.eo⟩
theorem Gat.alloc {size : Nat} {hf : FuncId} {B bw bh bs bd bo h wv : Nat} {w : World} (g : Gat size hf B bw bh bs bd bo h wv w) (o : Obj) : Gat size hf B bw bh bs bd bo h wv (w.alloc o) :=
  ⟨g.w1.alloc o, g.h1.alloc o, g.s1.alloc o, g.d1.alloc o, g.hs, g.lw, g.lh, g.no, g.wo, g.so, g.eo⟩
theorem Out.setW {size : Nat} {hf : FuncId} {B bw bh bs bd bo h wv : Nat} {l : List UInt8} {W0 w : World} (o : Out B bo l W0 w) (g : Gat size hf B bw bh bs bd bo h wv w) (x : Value) : Out B bo l W0 (w.setCell ⟨bw, 0, none⟩ x) := o.set g.w1 (by decide) g.wo g.lw x
theorem Out.setH {size : Nat} {hf : FuncId} {B bw bh bs bd bo h wv : Nat} {l : List UInt8} {W0 w : World} (o : Out B bo l W0 w) (g : Gat size hf B bw bh bs bd bo h wv w) (x : Value) : Out B bo l W0 (w.setCell ⟨bh, 0, none⟩ x) := o.set g.h1 (by decide) g.no g.lh x

theorem or_low (k a n : Nat) (hn : n < 2 ^ k) (h : a * 2 ^ k + n < 18446744073709551616) : bits .or .u64 ((a : Int) * 2 ^ k) (n : Int) = ((a * 2 ^ k + n : Nat) : Int) := by
  have e : ((a : Int) * 2 ^ k) = ((a * 2 ^ k : Nat) : Int) := by simp
  rw [e, bits_or_u64_nat _ _ (by omega) (by omega)]
  congr 1
  rw [Nat.mul_comm, Nat.two_pow_add_eq_or_of_lt hn]
theorem wrap_shl (k a : Nat) (h : a * 2 ^ k < 18446744073709551616) : IntKind.u64.wrap ((a : Int) * 2 ^ k) = (a : Int) * 2 ^ k := by
  have e : ((a : Int) * 2 ^ k) = ((a * 2 ^ k : Nat) : Int) := by simp
  rw [e]
  exact WalkArithU64.u64_in' _ (by omega)
theorem and_low (k a : Nat) (hk : k < 60) (ha : a < 18446744073709551616) : bits .and .u64 (a : Int) (IntKind.u64.wrap (IntKind.u64.wrap (2 ^ k) - 1)) = ((a % 2 ^ k : Nat) : Int) := by
  have hp := Nat.two_pow_pos k
  have hp2 : 2 ^ k < 18446744073709551616 := Nat.lt_of_lt_of_le (Nat.pow_lt_pow_right (by omega) hk) (by decide)
  have e : ((2 : Int) ^ k) = ((2 ^ k : Nat) : Int) := by simp
  rw [e, WalkArithU64.u64_in' _ hp2]
  have e2 : (((2 ^ k : Nat) : Int) - 1) = ((2 ^ k - 1 : Nat) : Int) := by omega
  rw [e2, WalkArithU64.u64_in' _ (by omega), bits_and_u64_nat _ _ ha (by omega), Nat.and_two_pow_sub_one_eq_mod]

set_option maxHeartbeats 2000000 in
theorem gatDec (B bw bh bs bd bo : Nat) (b h wv n : Nat) (acc : List UInt8) (W0 w : World) (hhb : h + b ≤ 13) (hw : wv < 2 ^ h) (hn : n < 2 ^ b)
    (hg : Gat 8 227 B bw bh bs bd bo h wv w) (ho : Out B bo acc W0 w) (hl : acc.length ≤ 1048576) :
    Calls Tryz.prog 179 #[.int .u64 n, .int .i64 b, .pointer (some ⟨bw, 0, none⟩), .pointer (some ⟨bh, 0, none⟩), .pointer (some ⟨bs, 0, none⟩), .pointer (some ⟨bd, 0, none⟩)] w fun e w' =>
      ∃ h' wv' acc', runBits 8 UInt8.ofNat (h + b) (wv * 2 ^ b + n) acc = (h', wv', acc') ∧ e = .returned (.int .i64 h') ∧ Gat 8 227 B bw bh bs bd bo h' wv' w' ∧ Out B bo acc' W0 w' := by
  have hm2 : wv * 2 ^ b + n < 2 ^ (h + b) := by
    rw [Nat.pow_add]
    have h1 : (wv + 1) * 2 ^ b ≤ 2 ^ h * 2 ^ b := Nat.mul_le_mul_right _ hw
    rw [Nat.add_mul] at h1
    omega
  have hm3 : 2 ^ (h + b) ≤ 8192 := Nat.pow_le_pow_right (n := 2) (i := h + b) (j := 13) (by omega) hhb
  have hor := or_low b wv n hn (by omega)
  have hwr := wrap_shl b wv (by omega)
  have hb0 : (0 : Int) ≤ b := by omega
  obtain ⟨m, hm⟩ : ∃ m, m = wv * 2 ^ b + n := ⟨_, rfl⟩
  rw [← hm] at hm2 hor ⊢
  have c1 := hg.w1.cell
  have f1 := hg.w1.free
  have hg1 := hg.setW m
  have ho1 := ho.setW hg (.int .u64 m)
  have c2 := hg1.h1.cell
  have f2 := hg1.h1.free
  have hg2 := hg1.setH (h + b)
  have ho2 := ho1.setH hg1 (.int .i64 (h + b : Nat))
  have HG := hide hg2
  have HO := hide ho2
  have HM := hide hm
  have HM2 := hide hm2
  clear hg ho hg1 ho1 hg2 ho2 hm hm2 hm3
  go_enter Tryz.func179, Tryz.ntmps179
  go_wp2_with fail
  go_loopw [17] (fun _ wr => ∃ (h' wv' : Nat) (acc' : List UInt8), runBits 8 UInt8.ofNat (h + b) m acc = runBits 8 UInt8.ofNat h' wv' acc' ∧ Gat 8 227 B bw bh bs bd bo h' wv' wr ∧ Out B bo acc' W0 wr ∧ h' ≤ 13 ∧ wv' < 2 ^ h' ∧ acc'.length + h' ≤ acc.length + h + b) (fun _ wr => (intOf ((wr.cell? ⟨bh, 0, none⟩).getD undef)).toNat)
  case atStart => exact ⟨h + b, m, acc, rfl, by simpa using HG.out, by simpa using HO.out, by omega, HM2.out, by omega⟩
  case round =>
    obtain ⟨h', wv', acc', hr, hg, ho, hh', hw', hl'⟩ := hrel
    have HR := hide hr
    clear hr
    have c1 := hg.w1.cell
    have c2 := hg.h1.cell
    have c3 := hg.s1.cell
    have c4 := hg.d1.cell
    have f2 := hg.h1.free
    by_cases h8 : 8 ≤ h'
    · obtain ⟨k, rfl⟩ : ∃ k, h' = k + 8 := ⟨h' - 8, by omega⟩
      have hg1 := hg.setH k
      have ho1 := ho.setH hg (.int .i64 k)
      have d1 := hg1.w1.cell
      have d2 := hg1.h1.cell
      have d4 := hg1.d1.cell
      have HG1 := hide hg1
      have HO1 := hide ho1
      have hp13 : wv' < 8192 := Nat.lt_of_lt_of_le hw' (Nat.pow_le_pow_right (n := 2) (j := 13) (by omega) hh')
      have HAND := hide (and_low k wv' (by omega) (by omega))
      have hmod : wv' % 2 ^ k < 2 ^ k := Nat.mod_lt _ (Nat.two_pow_pos k)
      have hq : wv' / 2 ^ k < 256 := by rw [Nat.div_lt_iff_lt_mul (Nat.two_pow_pos k)]; rw [Nat.pow_add] at hw'; omega
      have HMOD := hide hmod
      clear hg ho hg1 ho1 hmod
      go_wp2_with fail
      generalize wr.setCell ⟨bh, 0, none⟩ (.int .i64 k) = wx at *
      have k0 : (0 : Int) ≤ k := by omega
      have hpc : ((wv' : Int) / 2 ^ k) = ((UInt8.ofNat (wv' / 2 ^ k)).toNat : Int) := by
        rw [UInt8.toNat_ofNat', Nat.mod_eq_of_lt hq]
        simp
      have HPC := hide hpc
      clear hpc
      go_still_tail 4, (by kernel_rfl)
      change wpList _ _ _ _ _ wx.drew
      go_wp2_with fail
      rw [HPC.out]
      refine (decHand_any B bo acc' W0 wx.drew (UInt8.ofNat (wv' / 2 ^ k)) HO1.out.drew (by omega)).mono ?_
      rintro e w3 ⟨rfl, ho3, hk3⟩
      have hg3 := (HG1.out.drew).kept hk3
      have g1 := hg3.w1.cell
      have g2 := hg3.h1.cell
      have g3 := hg3.w1.free
      have HG4 := hide (hg3.setW (wv' % 2 ^ k))
      have HO4 := hide (ho3.setW hg3 (.int .u64 (wv' % 2 ^ k : Nat)))
      have hd4 : (w3.setCell ⟨bw, 0, none⟩ (.int .u64 (wv' % 2 ^ k : Nat))).cell? ⟨bh, 0, none⟩ = some (.int .i64 k) := HG4.out.h1.cell
      have HD4 := hide hd4
      clear hg3 ho3 hk3 d1 d2 d4 c1 c3 c4 f2 hd4
      have C2 := hide c2
      clear c2
      go_wp2_with fail
      have hand := HAND.out
      go_still_tail 5, (by kernel_rfl)
      change wpList _ _ _ _ _ w3.drew
      clear hand
      go_wp2_with fail
      go_roundw
      case rel => exact ⟨k, wv' % 2 ^ k, acc' ++ [UInt8.ofNat (wv' / 2 ^ k)], by rw [HR.out, runBits, dif_pos (by omega)]; simp, by simpa using HG4.out.drew, by simpa using HO4.out.drew, by omega, HMOD.out, by simp; omega⟩
      case measure =>
        have h1 := HD4.out
        have h2 := C2.out
        simp at h1
        simp [h1, h2, intOf]
        omega
    · have HG1 := hide hg
      have HO1 := hide ho
      clear hg ho
      go_wp2_with fail
      go_ret
      exact ⟨h', wv', acc', by rw [HR.out, runBits, dif_neg (by omega)], rfl, HG1.out, HO1.out⟩

set_option maxHeartbeats 2000000 in
theorem gatEnc (B bw bh bs bd bo : Nat) (b h wv n : Nat) (acc : List UInt8) (W0 w : World) (hhb : h + b ≤ 13) (hw : wv < 2 ^ h) (hn : n < 2 ^ b)
    (hg : Gat 6 151 B bw bh bs bd bo h wv w) (ho : Out B bo acc W0 w) (hl : acc.length ≤ 1048576) :
    Calls Tryz.prog 179 #[.int .u64 n, .int .i64 b, .pointer (some ⟨bw, 0, none⟩), .pointer (some ⟨bh, 0, none⟩), .pointer (some ⟨bs, 0, none⟩), .pointer (some ⟨bd, 0, none⟩)] w fun e w' =>
      ∃ h' wv' acc', runBits 6 letter (h + b) (wv * 2 ^ b + n) acc = (h', wv', acc') ∧ e = .returned (.int .i64 h') ∧ Gat 6 151 B bw bh bs bd bo h' wv' w' ∧ Out B bo acc' W0 w' := by
  have hm2 : wv * 2 ^ b + n < 2 ^ (h + b) := by
    rw [Nat.pow_add]
    have h1 : (wv + 1) * 2 ^ b ≤ 2 ^ h * 2 ^ b := Nat.mul_le_mul_right _ hw
    rw [Nat.add_mul] at h1
    omega
  have hm3 : 2 ^ (h + b) ≤ 8192 := Nat.pow_le_pow_right (n := 2) (i := h + b) (j := 13) (by omega) hhb
  have hor := or_low b wv n hn (by omega)
  have hwr := wrap_shl b wv (by omega)
  have hb0 : (0 : Int) ≤ b := by omega
  obtain ⟨m, hm⟩ : ∃ m, m = wv * 2 ^ b + n := ⟨_, rfl⟩
  rw [← hm] at hm2 hor ⊢
  have c1 := hg.w1.cell
  have f1 := hg.w1.free
  have hg1 := hg.setW m
  have ho1 := ho.setW hg (.int .u64 m)
  have c2 := hg1.h1.cell
  have f2 := hg1.h1.free
  have hg2 := hg1.setH (h + b)
  have ho2 := ho1.setH hg1 (.int .i64 (h + b : Nat))
  have HG := hide hg2
  have HO := hide ho2
  have HM := hide hm
  have HM2 := hide hm2
  clear hg ho hg1 ho1 hg2 ho2 hm hm2 hm3
  go_enter Tryz.func179, Tryz.ntmps179
  go_wp2_with fail
  go_loopw [17] (fun _ wr => ∃ (h' wv' : Nat) (acc' : List UInt8), runBits 6 letter (h + b) m acc = runBits 6 letter h' wv' acc' ∧ Gat 6 151 B bw bh bs bd bo h' wv' wr ∧ Out B bo acc' W0 wr ∧ h' ≤ 13 ∧ wv' < 2 ^ h' ∧ acc'.length + h' ≤ acc.length + h + b) (fun _ wr => (intOf ((wr.cell? ⟨bh, 0, none⟩).getD undef)).toNat)
  case atStart => exact ⟨h + b, m, acc, rfl, by simpa using HG.out, by simpa using HO.out, by omega, HM2.out, by omega⟩
  case round =>
    obtain ⟨h', wv', acc', hr, hg, ho, hh', hw', hl'⟩ := hrel
    have HR := hide hr
    clear hr
    have c1 := hg.w1.cell
    have c2 := hg.h1.cell
    have c3 := hg.s1.cell
    have c4 := hg.d1.cell
    have f2 := hg.h1.free
    by_cases h8 : 6 ≤ h'
    · obtain ⟨k, rfl⟩ : ∃ k, h' = k + 6 := ⟨h' - 6, by omega⟩
      have hg1 := hg.setH k
      have ho1 := ho.setH hg (.int .i64 k)
      have d1 := hg1.w1.cell
      have d2 := hg1.h1.cell
      have d4 := hg1.d1.cell
      have HG1 := hide hg1
      have HO1 := hide ho1
      have hp13 : wv' < 8192 := Nat.lt_of_lt_of_le hw' (Nat.pow_le_pow_right (n := 2) (j := 13) (by omega) hh')
      have HAND := hide (and_low k wv' (by omega) (by omega))
      have hmod : wv' % 2 ^ k < 2 ^ k := Nat.mod_lt _ (Nat.two_pow_pos k)
      have hq : wv' / 2 ^ k < 64 := by rw [Nat.div_lt_iff_lt_mul (Nat.two_pow_pos k)]; rw [Nat.pow_add] at hw'; omega
      have HMOD := hide hmod
      clear hg ho hg1 ho1 hmod
      go_wp2_with fail
      generalize wr.setCell ⟨bh, 0, none⟩ (.int .i64 k) = wx at *
      have k0 : (0 : Int) ≤ k := by omega
      have hpc : ((wv' : Int) / 2 ^ k) = ((wv' / 2 ^ k : Nat) : Int) := by simp
      have HPC := hide hpc
      clear hpc
      go_still_tail 4, (by kernel_rfl)
      change wpList _ _ _ _ _ wx.drew
      go_wp2_with fail
      rw [HPC.out]
      refine (encHand_any B bo acc' W0 wx.drew (wv' / 2 ^ k) hq HO1.out.drew (by omega)).mono ?_
      rintro e w3 ⟨rfl, ho3, hk3⟩
      have hg3 := (HG1.out.drew).kept hk3
      have g1 := hg3.w1.cell
      have g2 := hg3.h1.cell
      have g3 := hg3.w1.free
      have HG4 := hide (hg3.setW (wv' % 2 ^ k))
      have HO4 := hide (ho3.setW hg3 (.int .u64 (wv' % 2 ^ k : Nat)))
      have hd4 : (w3.setCell ⟨bw, 0, none⟩ (.int .u64 (wv' % 2 ^ k : Nat))).cell? ⟨bh, 0, none⟩ = some (.int .i64 k) := HG4.out.h1.cell
      have HD4 := hide hd4
      clear hg3 ho3 hk3 d1 d2 d4 c1 c3 c4 f2 hd4
      have C2 := hide c2
      clear c2
      go_wp2_with fail
      have hand := HAND.out
      go_still_tail 5, (by kernel_rfl)
      change wpList _ _ _ _ _ w3.drew
      clear hand
      go_wp2_with fail
      go_roundw
      case rel => exact ⟨k, wv' % 2 ^ k, acc' ++ [letter (wv' / 2 ^ k)], by rw [HR.out, runBits, dif_pos (by omega)]; simp, by simpa using HG4.out.drew, by simpa using HO4.out.drew, by omega, HMOD.out, by simp; omega⟩
      case measure =>
        have h1 := HD4.out
        have h2 := C2.out
        simp at h1
        simp [h1, h2, intOf]
        omega
    · have HG1 := hide hg
      have HO1 := hide ho
      clear hg ho
      go_wp2_with fail
      go_ret
      exact ⟨h', wv', acc', by rw [HR.out, runBits, dif_neg (by omega)], rfl, HG1.out, HO1.out⟩
end Go.Proofs.YtnnlhcjcdpdfcaaGreatDoor

/- WALKS of b64.gather and b64.Encode. No statement is proved here. -/
namespace Go.Proofs.YtnnlhcjcdpdfcaaGreatDoor
open Go.RowKit
set_option linter.unusedVariables false
set_option maxRecDepth 100000
set_option linter.unusedSimpArgs false

theorem makeFunc_run (fn : Fn) (first cap : Array Value) (w : World) : (Instr.makeFunc fn first cap).run Tryz.prog w = .ok (.func fn first cap) w := rfl

set_option maxHeartbeats 1000000 in
theorem gather_any (size : Nat) (hf : FuncId) (B bo : Nat) (acc : List UInt8) (W0 w : World) (ho : Out B bo acc W0 w) :
    Calls Tryz.prog 150 #[.int .i64 size, .func (.func hf) #[] #[.pointer (some ⟨bo, 0, none⟩)]] w fun e w' =>
      e = .returned (.func (.func 179) #[] #[.pointer (some ⟨w.heap.size + 2, 0, none⟩), .pointer (some ⟨w.heap.size + 3, 0, none⟩), .pointer (some ⟨w.heap.size, 0, none⟩), .pointer (some ⟨w.heap.size + 1, 0, none⟩)]) ∧
      Gat size hf B (w.heap.size + 2) (w.heap.size + 3) w.heap.size (w.heap.size + 1) bo 0 0 w' ∧ Out B bo acc W0 w' := by
  have hmf := makeFunc_run
  have hB : B ≤ w.heap.size := by obtain ⟨v, _, h, _⟩ := ho; exact h.2.2
  have hbo : bo < w.heap.size := by obtain ⟨v, h, _⟩ := ho; exact h.lt
  go_enter Tryz.func150, Tryz.ntmps150
  go_wp2_with fail
  go_ret
  refine ⟨rfl, ⟨?_, ?_, ?_, ?_, by omega, by omega, by omega, by omega, by omega, by omega, by omega⟩, (((ho.alloc _).alloc _).alloc _).alloc _⟩
  · have h := Box.new ((w.alloc (Obj.cells #[Value.int IntKind.i64 ↑size] 3)).alloc (Obj.cells #[Value.func (Fn.func hf) #[] #[Value.pointer (some ⟨bo, 0, none⟩)]] 140)) 123 (.int .u64 0)
    rw [show ((w.alloc (Obj.cells #[Value.int IntKind.i64 ↑size] 3)).alloc (Obj.cells #[Value.func (Fn.func hf) #[] #[Value.pointer (some ⟨bo, 0, none⟩)]] 140)).heap.size = w.heap.size + 2 by simp] at h
    exact h.alloc _
  · have h := Box.new (((w.alloc (Obj.cells #[Value.int IntKind.i64 ↑size] 3)).alloc (Obj.cells #[Value.func (Fn.func hf) #[] #[Value.pointer (some ⟨bo, 0, none⟩)]] 140)).alloc (Obj.cells #[Value.int IntKind.u64 0] 123)) 3 (.int .i64 0)
    rw [show (((w.alloc (Obj.cells #[Value.int IntKind.i64 ↑size] 3)).alloc (Obj.cells #[Value.func (Fn.func hf) #[] #[Value.pointer (some ⟨bo, 0, none⟩)]] 140)).alloc (Obj.cells #[Value.int IntKind.u64 0] 123)).heap.size = w.heap.size + 3 by simp] at h
    exact h
  · exact (((Box.new w 3 (.int .i64 size)).alloc _).alloc _).alloc _
  · have h := Box.new (w.alloc (Obj.cells #[Value.int IntKind.i64 ↑size] 3)) 140 (Value.func (Fn.func hf) #[] #[Value.pointer (some ⟨bo, 0, none⟩)])
    rw [show (w.alloc (Obj.cells #[Value.int IntKind.i64 ↑size] 3)).heap.size = w.heap.size + 1 by simp] at h
    exact (h.alloc _).alloc _

theorem gather_ex (size : Nat) (hf : FuncId) (B bo : Nat) (acc : List UInt8) (W0 w : World) (ho : Out B bo acc W0 w) :
    Calls Tryz.prog 150 #[.int .i64 size, .func (.func hf) #[] #[.pointer (some ⟨bo, 0, none⟩)]] w fun e w' => ∃ bw bh bs bd : Nat,
      e = .returned (.func (.func 179) #[] #[.pointer (some ⟨bw, 0, none⟩), .pointer (some ⟨bh, 0, none⟩), .pointer (some ⟨bs, 0, none⟩), .pointer (some ⟨bd, 0, none⟩)]) ∧
      Gat size hf B bw bh bs bd bo 0 0 w' ∧ Out B bo acc W0 w' :=
  (gather_any size hf B bo acc W0 w ho).mono fun _ _ h => ⟨_, _, _, _, h⟩

/-! ### what one byte brings, three times in turn -/
theorem run_stop (size : Nat) (f : Nat → UInt8) (h wv : Nat) (acc : List UInt8) (hs : h < size) : runBits size f h wv acc = (h, wv, acc) := by
  rw [runBits, dif_neg (by omega)]
theorem run_go (size : Nat) (f : Nat → UInt8) (k wv : Nat) (acc : List UInt8) (hs : 0 < size) : runBits size f (k + size) wv acc = runBits size f k (wv % 2 ^ k) (acc ++ [f (wv / 2 ^ k)]) := by
  rw [runBits, dif_pos (by omega), Nat.add_sub_cancel]
theorem enc0 (c : Nat) (acc : List UInt8) : runBits 6 letter (0 + 8) (0 * 2 ^ 8 + c) acc = (2, c % 4, acc ++ [letter (c / 4)]) := by
  rw [show 0 + 8 = 2 + 6 from rfl, run_go 6 letter 2 _ _ (by omega), run_stop _ _ _ _ _ (by omega)]
  simp
theorem enc2 (w c : Nat) (acc : List UInt8) : runBits 6 letter (2 + 8) (w * 2 ^ 8 + c) acc = (4, c % 16, acc ++ [letter (w * 16 + c / 16)]) := by
  rw [show 2 + 8 = 4 + 6 from rfl, run_go 6 letter 4 _ _ (by omega), run_stop _ _ _ _ _ (by omega)]
  have e1 : (w * 2 ^ 8 + c) % 2 ^ 4 = c % 16 := by omega
  have e2 : (w * 2 ^ 8 + c) / 2 ^ 4 = w * 16 + c / 16 := by omega
  rw [e1, e2]
theorem enc4 (w c : Nat) (acc : List UInt8) : runBits 6 letter (4 + 8) (w * 2 ^ 8 + c) acc = (0, 0, acc ++ [letter (w * 4 + c / 64), letter (c % 64)]) := by
  rw [show 4 + 8 = 6 + 6 from rfl, run_go 6 letter 6 _ _ (by omega), show runBits 6 letter 6 = runBits 6 letter (0 + 6) from rfl, run_go 6 letter 0 _ _ (by omega), run_stop _ _ _ _ _ (by omega)]
  have e1 : (w * 2 ^ 8 + c) % 2 ^ 6 = c % 64 := by omega
  have e2 : (w * 2 ^ 8 + c) / 2 ^ 6 = w * 4 + c / 64 := by omega
  rw [e1, e2]
  simp
  omega
theorem encEnd2 (w : Nat) (acc : List UInt8) : runBits 6 letter (2 + 4) (w * 2 ^ 4 + 0) acc = (0, 0, acc ++ [letter (w * 16)]) := by
  rw [show 2 + 4 = 0 + 6 from rfl, run_go 6 letter 0 _ _ (by omega), run_stop _ _ _ _ _ (by omega)]
  simp
  omega
theorem encEnd4 (w : Nat) (acc : List UInt8) : runBits 6 letter (4 + 2) (w * 2 ^ 2 + 0) acc = (0, 0, acc ++ [letter (w * 4)]) := by
  rw [show 4 + 2 = 0 + 6 from rfl, run_go 6 letter 0 _ _ (by omega), run_stop _ _ _ _ _ (by omega)]
  simp
  omega

/-- how many signs of the end fill up -/
def pads (n : Nat) : Nat := (4 - n % 4) % 4
/-- how long the slice in a box is -/
def lenAt (w : World) (b : Nat) : Nat := match w.cell? ⟨b, 0, none⟩ with
  | some (.slice _ n _) => n
  | _ => 0
theorem lenAt_box {w : World} {b n c : Nat} {A : Option Addr} (h : Box w b 52 (.slice A n c)) : lenAt w b = n := by unfold lenAt; rw [h.cell]

/-- the state of Encode: how many bits wait, what they are, how long the letters are -/
def EncSt (h wv : Nat) (acc : List UInt8) : Prop := (h = 0 ∧ wv = 0 ∧ acc.length % 4 = 0) ∨ (h = 2 ∧ wv < 4 ∧ acc.length % 4 = 1) ∨ (h = 4 ∧ wv < 16 ∧ acc.length % 4 = 2)
theorem EncSt.lt {h wv : Nat} {acc : List UInt8} (s : EncSt h wv acc) : wv < 2 ^ h ∧ h ≤ 4 := by
  rcases s with ⟨rfl, rfl, _⟩ | ⟨rfl, h1, _⟩ | ⟨rfl, h1, _⟩
  · exact ⟨by decide, by omega⟩
  · exact ⟨h1, by omega⟩
  · exact ⟨h1, by omega⟩
theorem EncSt.step {h wv h' wv' : Nat} {acc acc' r R : List UInt8} {c : UInt8} (s : EncSt h wv acc) (hr : runBits 6 letter (h + 8) (wv * 2 ^ 8 + c.toNat) acc = (h', wv', acc')) (hR : acc ++ encFrom h wv (c :: r) = R) :
    EncSt h' wv' acc' ∧ acc' ++ encFrom h' wv' r = R ∧ acc'.length ≤ acc.length + 2 := by
  have hc := byte_lt c
  rcases s with ⟨rfl, rfl, hl⟩ | ⟨rfl, hw, hl⟩ | ⟨rfl, hw, hl⟩
  · rw [enc0] at hr
    injection hr with h1 hr; injection hr with h2 h3
    subst h1; subst h2; subst h3; subst hR
    exact ⟨.inr (.inl ⟨rfl, by omega, by simp; omega⟩), by simp [encFrom], by simp⟩
  · rw [enc2] at hr
    injection hr with h1 hr; injection hr with h2 h3
    subst h1; subst h2; subst h3; subst hR
    exact ⟨.inr (.inr ⟨rfl, by omega, by simp; omega⟩), by simp [encFrom], by simp⟩
  · rw [enc4] at hr
    injection hr with h1 hr; injection hr with h2 h3
    subst h1; subst h2; subst h3; subst hR
    exact ⟨.inl ⟨rfl, rfl, by simp; omega⟩, by simp [encFrom], by simp⟩

set_option maxHeartbeats 2000000 in
theorem encode64_any (s : ByteArray) (w : World) (hs : s.size ≤ 100000) :
    Calls Tryz.prog 118 #[.string s] w fun e w' => e = .returned (.string (str (encB s.data.toList))) ∧ Below w.heap.size w w' := by
  have hmf := makeFunc_run
  have hc8 : (0 : Int) ≤ s.size := by omega
  go_enter Tryz.func118, Tryz.ntmps118
  go_wp2_with (refine wpList_buf_make rfl _ _ rfl w.heap.size w (Below.refl _ _) (Nat.le_refl _) ((s.size + 2) / 3 * 4) (((s.size : Int) + 2) / 3 * 4) rfl rfl (by omega) (by omega) ?_; intro v0 w0 hb0; obtain ⟨A0, c0, rfl⟩ := hb0.slice_len; have HB0 := hide hb0; clear hb0)
  have ho0 : Out w.heap.size w0.heap.size [] w (w0.alloc (Obj.cells #[Value.slice A0 0 c0] 52)) := ⟨_, Box.new w0 _ _, HB0.out.alloc _, HB0.out.2.2⟩
  refine (gather_ex 6 151 w.heap.size w0.heap.size [] w _ ho0).mono ?_
  rintro e w1 ⟨bw, bh, bs, bd, rfl, hg, ho⟩
  clear ho0
  have HG := hide hg
  have HO := hide ho
  clear hg ho
  generalize w0.heap.size = bo at *
  go_wp2_with fail
  go_loopw [5, 17] (fun n i wr => ∃ (k h wv : Nat) (acc : List UInt8), k ≤ s.size ∧ i = .int .i64 k ∧ n = .int .i64 h ∧ Gat 6 151 w.heap.size bw bh bs bd bo h wv wr ∧ Out w.heap.size bo acc w wr ∧ EncSt h wv acc ∧ acc ++ encFrom h wv (s.data.toList.drop k) = encB s.data.toList ∧ acc.length ≤ 2 * k) (fun _ i _ => s.size - (intOf i).toNat)
  case atStart => exact ⟨0, 0, 0, [], Nat.zero_le _, rfl, rfl, HG.out, HO.out, .inl ⟨rfl, rfl, rfl⟩, by simp [encB], Nat.le_refl _⟩
  case round =>
    obtain ⟨k, h, wv, acc, hk, rfl, rfl, hg, ho, hst, hR, hl⟩ := hrel
    have HG1 := hide hg
    have HO1 := hide ho
    have HS := hide hst
    have HR := hide hR
    clear hg ho hst hR
    by_cases hlt : k < s.size
    · have HD := hide (drop_cons s k hlt)
      obtain ⟨c, hc⟩ : ∃ c, c = s[k] := ⟨_, rfl⟩
      have HC := hide hc
      have hcb := byte_lt s[k]
      clear hc
      go_wp2_with fail
      refine (gatEnc w.heap.size bw bh bs bd bo 8 h wv s[k].toNat acc w _ (by have := HS.out.lt.2; omega) HS.out.lt.1 hcb HG1.out HO1.out (by omega)).mono ?_
      rintro e w2 ⟨h', wv', acc', hr, rfl, hg2, ho2⟩
      have hstep := EncSt.step (r := s.data.toList.drop (k + 1)) (R := encB s.data.toList) HS.out hr (by rw [← HD.out]; exact HR.out)
      obtain ⟨s1, s2, s3⟩ := hstep
      have HG2 := hide hg2
      have HO2 := hide ho2
      have HS1 := hide s1
      have HS2 := hide s2
      clear hr hg2 ho2 s1 s2
      go_wp2_with fail
      go_roundw
      case rel => exact ⟨k + 1, h', wv', acc', by omega, by go_num, rfl, HG2.out, HO2.out, HS1.out, HS2.out, by omega⟩
      case measure => simp [intOf]; omega
    · have hend : ∃ h2 : s.data.toList.drop k = [], True := ⟨drop_nil s k (by omega), trivial⟩
      obtain ⟨hdn, -⟩ := hend
      have hR := HR.out
      rw [hdn] at hR
      have HR2 := hide hR
      clear hdn hR
      rcases HS.out with ⟨rfl, rfl, h3⟩ | ⟨rfl, h2, h3⟩ | ⟨rfl, h2, h3⟩
      all_goals first
        | (have g0 : acc.length % 4 = 0 := h3
           rw [show (((0 : Nat)) : Int) = 0 from rfl]
           have hfin : acc ++ List.replicate (pads acc.length) 61 = encB s.data.toList := by
             have := HR2.out
             rw [show encFrom 0 0 [] = [] from rfl] at this
             rw [← this, pads, h3]
             rfl
           have HF := hide hfin
           have HO4 := HO1
           have hl4 : acc.length ≤ 500000 := by omega
           obtain ⟨l4, hl5⟩ : ∃ l, l = acc := ⟨_, rfl⟩
           rw [← hl5] at HF HO4 hl4
           clear hfin hl5
           go_wp2_with fail)
        | (have g0 : acc.length % 4 = 1 := h3
           rw [show (((2 : Nat)) : Int) = 2 from rfl]
           go_wp2_with fail
           refine (gatEnc w.heap.size bw bh bs bd bo 4 2 wv 0 acc w _ (by omega) h2 (by decide) HG1.out HO1.out (by omega)).mono ?_
           rintro e w2 ⟨h', wv', acc', hr, rfl, hg2, ho2⟩
           rw [encEnd2] at hr
           injection hr with e1 hr
           injection hr with e2 e3
           have hfin : acc' ++ List.replicate (pads acc'.length) 61 = encB s.data.toList := by
             have := HR2.out
             rw [show encFrom 2 wv [] = [letter (wv * 16), 61, 61] from rfl] at this
             have hlen : acc'.length = acc.length + 1 := by rw [← e3]; simp
             have hp : pads acc'.length = 2 := by rw [hlen, pads]; omega
             rw [hp, ← this, ← e3]; simp [List.replicate_succ]
           have HF : Hid (acc' ++ List.replicate (pads acc'.length) 61 = encB s.data.toList) := hfin
           have HO4 : Hid (Out w.heap.size bo acc' w w2) := ho2
           have hl4 : acc'.length ≤ 500000 := by rw [← e3]; simp; omega
           obtain ⟨l4, hl5⟩ : ∃ l, l = acc' := ⟨_, rfl⟩
           rw [← hl5] at HF HO4 hl4
           clear hfin e1 e2 e3 ho2 hg2 hl5
           go_wp2_with fail)
        | (have g0 : acc.length % 4 = 2 := h3
           rw [show (((4 : Nat)) : Int) = 4 from rfl]
           go_wp2_with fail
           refine (gatEnc w.heap.size bw bh bs bd bo 2 4 wv 0 acc w _ (by omega) h2 (by decide) HG1.out HO1.out (by omega)).mono ?_
           rintro e w2 ⟨h', wv', acc', hr, rfl, hg2, ho2⟩
           rw [encEnd4] at hr
           injection hr with e1 hr
           injection hr with e2 e3
           have hfin : acc' ++ List.replicate (pads acc'.length) 61 = encB s.data.toList := by
             have := HR2.out
             rw [show encFrom 4 wv [] = [letter (wv * 4), 61] from rfl] at this
             have hlen : acc'.length = acc.length + 1 := by rw [← e3]; simp
             have hp : pads acc'.length = 1 := by rw [hlen, pads]; omega
             rw [hp, ← this, ← e3]; simp [List.replicate_succ]
           have HF : Hid (acc' ++ List.replicate (pads acc'.length) 61 = encB s.data.toList) := hfin
           have HO4 : Hid (Out w.heap.size bo acc' w w2) := ho2
           have hl4 : acc'.length ≤ 500000 := by rw [← e3]; simp; omega
           obtain ⟨l4, hl5⟩ : ∃ l, l = acc' := ⟨_, rfl⟩
           rw [← hl5] at HF HO4 hl4
           clear hfin e1 e2 e3 ho2 hg2 hl5
           go_wp2_with fail)
      all_goals
        go_loopw [37] (fun _ wr => ∃ l : List UInt8, Out w.heap.size bo l w wr ∧ l ++ List.replicate (pads l.length) 61 = encB s.data.toList ∧ l.length ≤ l4.length + 4 - pads l.length) (fun _ wr => pads (lenAt wr bo))
        case atStart => exact ⟨l4, HO4.out, HF.out, (by unfold pads; omega)⟩
        case round =>
          obtain ⟨l, ⟨v, hbx, hbf, hB⟩, hfin, hll⟩ := hrel
          obtain ⟨A, cc, rfl⟩ := hbf.slice_len
          have HBX := hide hbx
          have HBF := hide hbf
          have HFI := hide hfin
          have c1 := hbx.cell
          have f1 := hbx.free
          have hla := lenAt_box hbx
          have HLA := hide hla
          clear hbx hbf hfin hla
          by_cases h0 : l.length % 4 = 0
          · have t : (((l.length : Int) % 4) != 0) = false := by simp; omega
            have H0 := hide h0
            have hcv := HBF.out.convert
            clear h0
            go_wp2_with fail
            go_ret
            refine ⟨ret_str ?_, HBF.out.below⟩
            have := HFI.out
            rw [show pads l.length = 0 by unfold pads; rw [H0.out]] at this
            simp at this
            rw [this]
          · have t : (((l.length : Int) % 4) != 0) = true := by simp; omega
            have H0 := hide h0
            clear h0
            go_wp2_with (refine wpList_buf_const rfl _ _ rfl w.heap.size (.slice A l.length cc) l rfl w _ 61 61 rfl HBF.out rfl (by omega) ?_; intro v2 w2 hb2 hk2; obtain ⟨A2, c2, rfl⟩ := hb2.slice_len; have hx2 := hk2 _ _ _ (by decide) HBX.out; have d2 := hx2.cell; have g2 := hx2.free; have HB2 := hide hb2; have HX2 := hide hx2; clear hb2 hx2 hk2)
            go_roundw
            case rel => 
              have hp : pads l.length = pads (l.length + 1) + 1 := by have := H0.out; unfold pads; omega
              have hp3 : pads (l.length + 1) ≤ 3 := by unfold pads; omega
              have hB2 := HB2.out
              rw [show (l ++ [(61 : UInt8)]).length = l.length + 1 by simp] at hB2
              refine ⟨l ++ [61], ⟨_, HX2.out.set _, hB2.setBox HX2.out (by decide) hB _, hB⟩, ?_, ?_⟩
              · rw [← HFI.out, List.length_append, hp, List.replicate_succ]; simp
              · simp; omega
            case measure =>
              have hp : pads l.length = pads (l.length + 1) + 1 := by have := H0.out; unfold pads; omega
              have e1 := HLA.out
              have e2 := lenAt_box (HX2.out.set (.slice A2 (l ++ [61]).length c2))
              simp at e2 ⊢
              rw [e1, e2]
              omega
end Go.Proofs.YtnnlhcjcdpdfcaaGreatDoor

/- WALKS of b64.number, the reference's place and bit. No statement is proved here. -/
namespace Go.Proofs.YtnnlhcjcdpdfcaaGreatDoor
open Go.RowKit
set_option linter.unusedVariables false
set_option linter.unusedSimpArgs false

/-- what 'number' answers -/
def numV (n : Nat) : Value := .tuple #[.int .u64 (if n < 64 then n else 0 : Nat), .bool (decide (n < 64))]
theorem numV_yes {n : Nat} (h : n < 64) : numV n = .tuple #[.int .u64 n, .bool true] := by simp [numV, h]
theorem numV_no {n : Nat} (h : ¬ n < 64) : numV n = .tuple #[.int .u64 0, .bool false] := by simp [numV, h]
theorem ret_num {a : Int} {b : Bool} {n : Nat} (h : n < 64 ∧ a = n ∧ b = true ∨ ¬ n < 64 ∧ a = 0 ∧ b = false) : Ending.returned (.tuple #[.int .u64 a, .bool b]) = .returned (numV n) := by
  rcases h with ⟨h, rfl, rfl⟩ | ⟨h, rfl, rfl⟩
  · rw [numV_yes h]
  · rw [numV_no h]

set_option maxHeartbeats 2000000 in
theorem number64_any (c : UInt8) (w : World) :
    Calls Tryz.prog 228 #[.int .u8 c.toNat] w fun e w' => e = .returned (numV (val c)) ∧ w = w' := by
  have hc := byte_lt c
  have hv := val_ranges c
  generalize val c = v at hv
  have hcase : (65 ≤ c.toNat ∧ c.toNat ≤ 90) ∨ (97 ≤ c.toNat ∧ c.toNat ≤ 122) ∨ (48 ≤ c.toNat ∧ c.toNat ≤ 57) ∨ c.toNat = 43 ∨ c.toNat = 47 ∨
      (c.toNat < 43) ∨ (43 < c.toNat ∧ c.toNat < 47) ∨ (57 < c.toNat ∧ c.toNat < 65) ∨ (90 < c.toNat ∧ c.toNat < 97) ∨ 122 < c.toNat := by omega
  have HV := hide hv
  clear hv
  rcases hcase with ⟨h1, h2⟩ | ⟨h1, h2⟩ | ⟨h1, h2⟩ | h1 | h1 | h1 | ⟨h1, h2⟩ | ⟨h1, h2⟩ | ⟨h1, h2⟩ | h1
  · go_enter Tryz.func228, Tryz.ntmps228
    go_wp2
    go_ret2
    refine ⟨ret_num (.inl ?_), rfl⟩
    have hv := HV.out
    rw [if_pos ⟨h1, h2⟩] at hv
    exact ⟨by omega, by omega, rfl⟩
  · go_enter Tryz.func228, Tryz.ntmps228
    go_wp2
    go_ret2
    refine ⟨ret_num (.inl ?_), rfl⟩
    have hv := HV.out
    rw [if_neg (by omega), if_pos ⟨h1, h2⟩] at hv
    exact ⟨by omega, by omega, rfl⟩
  · go_enter Tryz.func228, Tryz.ntmps228
    go_wp2
    go_ret2
    refine ⟨ret_num (.inl ?_), rfl⟩
    have hv := HV.out
    rw [if_neg (by omega), if_neg (by omega), if_pos ⟨h1, h2⟩] at hv
    exact ⟨by omega, by omega, rfl⟩
  · have t1 : ((c.toNat : Int) == 43) = true := by rw [beq_iff_eq]; omega
    have H1 := hide h1
    have h2 : c.toNat < 48 := by omega
    clear h1
    go_enter Tryz.func228, Tryz.ntmps228
    go_wp2
    go_ret2
    refine ⟨ret_num (.inl ?_), rfl⟩
    have hv := HV.out
    have h1 := H1.out
    rw [if_neg (by omega), if_neg (by omega), if_neg (by omega), if_pos h1] at hv
    exact ⟨by omega, by omega, rfl⟩
  · have t1 : ((c.toNat : Int) == 43) = false := by rw [beq_eq_false_iff_ne]; omega
    have t2 : ((c.toNat : Int) == 47) = true := by rw [beq_iff_eq]; omega
    have H1 := hide h1
    have h2 : c.toNat < 48 := by omega
    clear h1
    go_enter Tryz.func228, Tryz.ntmps228
    go_wp2
    go_ret2
    refine ⟨ret_num (.inl ?_), rfl⟩
    have hv := HV.out
    have h1 := H1.out
    rw [if_neg (by omega), if_neg (by omega), if_neg (by omega), if_neg (by omega), if_pos h1] at hv
    exact ⟨by omega, by omega, rfl⟩
  all_goals
    have t1 : ((c.toNat : Int) == 43) = false := by rw [beq_eq_false_iff_ne]; omega
    have t2 : ((c.toNat : Int) == 47) = false := by rw [beq_eq_false_iff_ne]; omega
    go_enter Tryz.func228, Tryz.ntmps228
    go_wp2
    go_ret2
    refine ⟨ret_num (.inr ?_), rfl⟩
    have hv := HV.out
    rw [if_neg (by omega), if_neg (by omega), if_neg (by omega), if_neg (by omega), if_neg (by omega)] at hv
    exact ⟨by omega, by omega, rfl⟩

/-- what the reference's place answers -/
def placeI (c : UInt8) : Int := if val c < 64 then val c else -1
theorem idx64_eq {x : UInt8} {l r : List UInt8} (h : l = x :: r) : l.idxOf x = 0 := by
  subst h; simp
theorem idx64_ne {d x : UInt8} {l r : List UInt8} (h : l = x :: r) (e : x ≠ d) : l.idxOf d = r.idxOf d + 1 := by
  subst h
  rw [List.idxOf_cons]
  have : (x == d) = false := by simp [e]
  rw [this]; rfl

set_option maxHeartbeats 1000000 in
theorem place_any (c : UInt8) (w : World) :
    Calls Tryz.prog 177 #[.int .u8 c.toNat] w fun e w' => e = .returned (.int .i64 (placeI c)) ∧ w = w' := by
  have hc := byte_lt c
  obtain ⟨L, hL⟩ : ∃ L : ByteArray, L = ⟨#[65, 66, 67, 68, 69, 70, 71, 72, 73, 74, 75, 76, 77, 78, 79, 80, 81, 82, 83, 84, 85, 86, 87, 88, 89, 90, 97, 98, 99, 100, 101, 102, 103, 104, 105, 106, 107, 108, 109, 110, 111, 112, 113, 114, 115, 116, 117, 118, 119, 120, 121, 122, 48, 49, 50, 51, 52, 53, 54, 55, 56, 57, 43, 47]⟩ := ⟨_, rfl⟩
  have hz : L.size = 64 := by rw [hL]; rfl
  have hd : letters64 = L.data.toList := by rw [hL]; rfl
  have HL := hide hL
  have HD := hide hd
  clear hL hd
  go_enter Tryz.func177, Tryz.ntmps177
  go_wp2
  go_loop [3] (fun i => ∃ k : Nat, k ≤ 64 ∧ i = .int .i64 k ∧ val c = k + (letters64.drop k).idxOf c) (fun i => 64 - (intOf i).toNat)
  case atStart => exact ⟨0, by omega, rfl, by simp [val]⟩
  case round =>
    obtain ⟨k, hk, rfl, hi⟩ := hrel
    have HI := hide hi
    clear hi
    by_cases hlt : k < 64
    · have hkz : k < L.size := by omega
      have HX := hide (drop_cons L k hkz)
      obtain ⟨x, hx⟩ : ∃ x, x = L[k] := ⟨_, rfl⟩
      have HX2 := hide hx
      have hidx : ∀ h, (⟨#[65, 66, 67, 68, 69, 70, 71, 72, 73, 74, 75, 76, 77, 78, 79, 80, 81, 82, 83, 84, 85, 86, 87, 88, 89, 90, 97, 98, 99, 100, 101, 102, 103, 104, 105, 106, 107, 108, 109, 110, 111, 112, 113, 114, 115, 116, 117, 118, 119, 120, 121, 122, 48, 49, 50, 51, 52, 53, 54, 55, 56, 57, 43, 47]⟩ : ByteArray)[k]'h = x := by
        intro h
        have h1 := HL.out
        subst h1
        exact hx.symm
      rw [← HX2.out] at HX
      clear hx
      by_cases he : x = c
      · have t : ((x.toNat : Int) == c.toNat) = true := by rw [he]; simp
        have HE := hide he
        clear he
        go_wp2
        go_ret
        refine ⟨ret_int ?_, rfl⟩
        have h1 := HI.out
        rw [HD.out] at h1
        rw [idx64_eq (x := c) (by rw [HX.out, HE.out])] at h1
        unfold placeI
        rw [h1, if_pos (by omega)]
        rfl
      · have t : ((x.toNat : Int) == c.toNat) = false := by
          rw [beq_eq_false_iff_ne]; intro e; exact he (UInt8.toNat_inj.1 (by omega))
        have HE := hide he
        clear he
        go_wp2
        go_round
        case rel =>
          refine ⟨k + 1, by omega, by go_num, ?_⟩
          have h1 := HI.out
          rw [HD.out] at h1 ⊢
          rw [idx64_ne HX.out HE.out] at h1
          omega
        case measure => simp [intOf]; omega
    · go_wp2
      go_ret
      refine ⟨ret_int ?_, rfl⟩
      have h1 := HI.out
      unfold placeI
      rw [if_neg (by omega)]
end Go.Proofs.YtnnlhcjcdpdfcaaGreatDoor

