/- WALK of strings.ContainsRune and strings.Trim at the blanks (space, tab, line feed, carriage return, U+00A0). No statement is proved here. Own work of the verifier. -/
import Derived.Test.YtjaeheicndfdnaaDoorFoldR
import Derived.Lib.TrimU
import Derived.Laws.Rows
import Derived.Laws.ResultCell
import Derived.Deep.WholeRow
namespace Go.Proofs.YtjaeheicndfdnaaDoor
open Go.RowKit
set_option linter.unusedVariables false
set_option linter.unusedSimpArgs false
set_option maxRecDepth 100000
theorem blank_size : blankS.size = 6 := rfl
def blankR (r : Nat) : Bool := r == 32 || (r == 9 || (r == 10 || (r == 13 || r == 160)))
theorem blank_ascii : ∀ n : Nat, n < 128 → decide (0 ≤ Lib.indexByte blankS.data.toList n.toUInt8) = blankR n := by decide +kernel
theorem far_ix (X : UInt8) (h : (decide (128 ≤ X.toNat) && (decide (X.toNat < 192) && decide (X.toNat ≠ 160))) = true) : Lib.indexByte (blankS.extract 2 blankS.size).data.toList X = -1 ∧ Lib.indexByte (blankS.extract 3 blankS.size).data.toList X = -1 ∧ Lib.indexByte (blankS.extract 4 blankS.size).data.toList X = -1 :=
  u8_all (p := fun X => (decide (128 ≤ X.toNat) && (decide (X.toNat < 192) && decide (X.toNat ≠ 160))) = true → (Lib.indexByte (blankS.extract 2 blankS.size).data.toList X = -1 ∧ Lib.indexByte (blankS.extract 3 blankS.size).data.toList X = -1 ∧ Lib.indexByte (blankS.extract 4 blankS.size).data.toList X = -1)) (by decide +kernel) X h
theorem near_ix : Lib.indexByte (blankS.extract 2 6).data.toList (Int.toNat 160).toUInt8 = 4 - ((1 : Nat) : Int) ∧ Lib.indexByte (blankS.extract 3 6).data.toList (Int.toNat 160).toUInt8 = 4 - ((2 : Nat) : Int) ∧ Lib.indexByte (blankS.extract 4 6).data.toList (Int.toNat 160).toUInt8 = 4 - ((3 : Nat) : Int) := by decide +kernel
set_option maxHeartbeats 1000000 in
theorem idxR_err (w : World) :
    Calls Tryd.prog 47 #[.string blankS, .int .i32 65533] w fun e w' => e = .returned (.int .i64 (-1)) ∧ Below w.heap.size w w' := by
  have hd : ∀ pos, (pos = 0 ∨ pos = 1 ∨ pos = 2 ∨ pos = 3 ∨ pos = 4) → (((Utf8.decode blankS pos).1 : Int) == 65533) = false ∧ (pos + (Utf8.decode blankS pos).2 = pos + 1 ∧ pos < 4 ∨ pos + (Utf8.decode blankS pos).2 = 6) ∧ pos < pos + (Utf8.decode blankS pos).2 := by
    rintro pos (rfl | rfl | rfl | rfl | rfl) <;> decide +kernel
  obtain ⟨S, hS⟩ : ∃ S, S = blankS := ⟨_, rfl⟩
  have hs : S.size = 6 := by rw [hS]; rfl
  rw [← hS] at hd ⊢
  clear hS
  have HD := hide hd
  have HS := hide hs
  clear hd hs
  go_enter Tryd.func47, Tryd.ntmps47
  go_wp2
  have hit : (w.iter S 0).heap[w.heap.size]? = some (Obj.stringIter S 0) := by show (w.heap.push _)[w.heap.size]? = _; exact Array.getElem?_push_size
  have hb0 : Below w.heap.size w (w.iter S 0) := iter_below w S 0
  go_loopw [5, 6] (fun _ _ wr => ∃ pos : Nat, Hid ((pos = 0 ∨ pos = 1 ∨ pos = 2 ∨ pos = 3 ∨ pos = 4) ∨ pos = 6) ∧ Hid (wr.heap[w.heap.size]? = some (Obj.stringIter S pos)) ∧ Hid (Below w.heap.size w wr)) (fun _ _ wr => 6 - wr.iterPos w.heap.size)
  case atStart => exact ⟨0, hide (.inl (.inl rfl)), hide hit, hide hb0⟩
  case round =>
    obtain ⟨pos, HP, HK, HB⟩ := hrel
    have hsz : w.heap.size < wr.heap.size := lt_of_block HK.out
    rcases HP.out with hp | rfl
    · obtain ⟨h1, h2, h3⟩ := HD.out pos hp
      have hlt : pos < S.size := by have := HS.out; omega
      have hnx := fun ty => Lib.run_next_any_at (P := Tryd.prog) wr w.heap.size S pos ty HK.out hlt
      generalize Utf8.decode S pos = dl at hnx h1 h2 h3
      obtain ⟨r, n⟩ := dl
      simp only at hnx h1 h2 h3
      have HI := hide (Lib.iterAt_heap wr w.heap.size S pos (pos + n) HK.out)
      have HB1 := hide (Lib.below_iterAt HB.out (Nat.le_refl _) S (pos + n))
      have HP2 : Hid ((pos + n = 0 ∨ pos + n = 1 ∨ pos + n = 2 ∨ pos + n = 3 ∨ pos + n = 4) ∨ pos + n = 6) := hide (by omega)
      have HP3 : Hid (pos < pos + n ∧ pos < 6) := hide ⟨h3, by omega⟩
      clear hp h2 h3
      go_wp2
      go_roundw
      case rel => exact ⟨pos + n, HP2, HI, HB1⟩
      case measure =>
        rw [show World.iterPos (World.iterAt wr w.heap.size S (pos + n)) w.heap.size = pos + n by unfold World.iterPos; rw [HI.out], show World.iterPos wr w.heap.size = pos by unfold World.iterPos; rw [HK.out]]
        have := HP3.out
        omega
    · have hge : ¬ 6 < S.size := by have := HS.out; omega
      have hnx := fun ty => Lib.run_next_end_at (P := Tryd.prog) wr w.heap.size S 6 ty HK.out hge
      go_wp2
      go_ret
      exact ⟨rfl, HB.out⟩
theorem blankR_high {r : Nat} (h : 128 ≤ r) : blankR r = decide (r = 160) := by
  unfold blankR
  rw [show (r == 32) = false from beq_eq_false_iff_ne.2 (by omega), show (r == 9) = false from beq_eq_false_iff_ne.2 (by omega), show (r == 10) = false from beq_eq_false_iff_ne.2 (by omega), show (r == 13) = false from beq_eq_false_iff_ne.2 (by omega)]
  simp only [Bool.false_or]
  rfl
theorem u8_of (n : Nat) (h : n < 256) : (UInt8.ofNat n).toNat = n := by simp; omega
/-- a sign's bytes beyond ASCII: the last one, and the one ahead of it -/
theorem enc_last (r : Int) (hv : Utf8.valid r = true) (h1 : 128 ≤ r) (E : ByteArray) (hE : E = Utf8.encode r) : ∃ q : Nat, ∃ h1' : q + 1 < E.size, E.size = q + 1 + 1 ∧ q + 1 ≤ 3 ∧ (E[q + 1]'h1').toNat = 128 + r.toNat % 64 ∧
    (r ≠ 160 → r.toNat % 64 = 32 → ((E[q]'(by omega)).toNat ≠ 194)) := by
  have hc : ¬ r.toNat < 128 := by omega
  have e0 : Utf8.encode r = if r.toNat < 2048 then ⟨#[UInt8.ofNat (192 + r.toNat / 64), UInt8.ofNat (128 + r.toNat % 64)]⟩
      else if r.toNat < 65536 then ⟨#[UInt8.ofNat (224 + r.toNat / 4096), UInt8.ofNat (128 + r.toNat / 64 % 64), UInt8.ofNat (128 + r.toNat % 64)]⟩
      else ⟨#[UInt8.ofNat (240 + r.toNat / 262144), UInt8.ofNat (128 + r.toNat / 4096 % 64), UInt8.ofNat (128 + r.toNat / 64 % 64), UInt8.ofNat (128 + r.toNat % 64)]⟩ := by
    unfold Utf8.encode
    simp only [hv, if_true, hc, if_false]
  rw [e0] at hE
  split at hE
  · subst hE
    refine ⟨0, by show 0 + 1 < 2; omega, rfl, by omega, ?_, fun hr hm => ?_⟩
    · show (UInt8.ofNat (128 + r.toNat % 64)).toNat = _
      exact u8_of _ (by omega)
    · show (UInt8.ofNat (192 + r.toNat / 64)).toNat ≠ _
      rw [u8_of _ (by omega)]; omega
  · split at hE
    · subst hE
      refine ⟨1, by show 1 + 1 < 3; omega, rfl, by omega, ?_, fun hr hm => ?_⟩
      · show (UInt8.ofNat (128 + r.toNat % 64)).toNat = _
        exact u8_of _ (by omega)
      · show (UInt8.ofNat (128 + r.toNat / 64 % 64)).toNat ≠ _
        rw [u8_of _ (by omega)]; omega
    · subst hE
      refine ⟨2, by show 2 + 1 < 4; omega, rfl, by omega, ?_, fun hr hm => ?_⟩
      · show (UInt8.ofNat (128 + r.toNat % 64)).toNat = _
        exact u8_of _ (by omega)
      · show (UInt8.ofNat (128 + r.toNat / 64 % 64)).toNat ≠ _
        rw [u8_of _ (by omega)]; omega
theorem blank_cells : (∀ m (h : m < blankS.size), m = 1 ∨ m = 2 ∨ m = 3 → (blankS[m]'h).toNat < 128) ∧ (((blankS[4]'(by decide)).toNat : Int) = 194) := by
  refine ⟨?_, rfl⟩
  rintro m h (rfl | rfl | rfl)
  · show (9 : UInt8).toNat < 128; decide
  · show (10 : UInt8).toNat < 128; decide
  · show (13 : UInt8).toNat < 128; decide
set_option maxHeartbeats 1000000 in
theorem idxR_any (r : Nat) (hr : r ≤ 1114111) (w : World) :
    Calls Tryd.prog 47 #[.string blankS, .int .i32 r] w fun e w' => ∃ i : Int, e = .returned (.int .i64 i) ∧ decide (0 ≤ i) = blankR r ∧ Below w.heap.size w w' := by
  by_cases ha : r < 128
  · refine (Tryd.strings_IndexRune_ascii blankS r w (by omega) (by omega)).mono ?_
    rintro e w' ⟨rfl, rfl⟩
    exact ⟨_, rfl, by rw [← blank_ascii r ha]; rfl, Below.refl _ _⟩
  by_cases he : r = 65533
  · subst he
    refine (idxR_err w).mono ?_
    rintro e w' ⟨rfl, hb⟩
    exact ⟨_, rfl, by decide, hb⟩
  cases hv : Utf8.valid (r : Int) with
  | false =>
    have HV : Hid (Lib.validRune (r : Int) = false) := hide (by rw [show Lib.validRune (r : Int) = Go.validRune (r : Int) from rfl, ← validRune_eq]; exact hv)
    have hb : blankR r = false := by
      rw [blankR_high (by omega)]
      refine decide_eq_false ?_
      rintro rfl
      exact absurd hv (by decide)
    rw [hb]
    have h3 : ¬ (r : Int) < 128 := by omega
    have h4 : (0 : Int) ≤ r := by omega
    have hne : ((r : Int) == 65533) = false := by rw [beq_eq_false_iff_ne]; omega
    clear hv he hb ha
    go_enter Tryd.func47, Tryd.ntmps47
    go_wp2_with fail
    refine (Tryd.utf8_ValidRune (r : Int) _).mono ?_
    rintro e w' ⟨rfl, hw⟩
    subst hw
    rw [HV.out]
    go_wp2_with fail
    go_ret
    exact ⟨-1, rfl, by decide, Below.refl _ _⟩
  | true =>
    by_cases h160 : r = 160
    · subst h160
      refine (idxR_hit w).mono ?_
      rintro e w' ⟨rfl, hb⟩
      exact ⟨_, rfl, by decide, hb⟩
    have hb : blankR r = false := by rw [blankR_high (by omega)]; exact decide_eq_false h160
    rw [hb]
    have hval : Lib.validRune (r : Int) = true := by rw [show Lib.validRune (r : Int) = Go.validRune (r : Int) from rfl, ← validRune_eq]; exact hv
    have hcv : ∀ w : World, (convert 21 9 (.int .i32 r)).run Tryd.prog w = .ok (.string (Utf8.encode r)) w := fun w => run_convert_int_string w 21 9 .i32 r (by rw [Tryd.underlying21]; rfl) Tryd.underlying9
    obtain ⟨E, hE⟩ : ∃ E, E = Utf8.encode (r : Int) := ⟨_, rfl⟩
    obtain ⟨q, h1, h2, h3, h4, h5⟩ := enc_last (r : Int) hv (by omega) E hE
    rw [← hE] at hcv
    clear hE
    have g1 : (128 : Int) ≤ r := by omega
    have g2 : (r : Int) ≤ 2147483647 := by omega
    have g3 : (r : Int) ≠ 65533 := by omega
    have hq3 : q + 1 = 1 ∨ q + 1 = 2 ∨ q + 1 = 3 := by omega
    have hb6 : q + 1 < blankS.size := by rw [blank_size]; omega
    have hqE : q < E.size := by omega
    rw [Int.toNat_natCast] at h4 h5
    by_cases hm : r % 64 = 32
    · have he1 : ((E[q + 1]'h1).toNat : Int) = 160 := by rw [h4]; omega
      have he0 : (((E[q]'hqE).toNat : Int) == 194) = false := by
        have := h5 (by omega) hm
        rw [beq_eq_false_iff_ne]; omega
      refine (idxR_next blankS E r w blank_size g1 g2 g3 hval hcv (q + 1) q h1 hqE hb6 he1 he0 blank_cells.2 ?_ rfl h2 h3 ?_).mono ?_
      · have hsm := blank_cells.1 (q + 1) hb6 hq3
        generalize (blankS[q + 1]'hb6).toNat = z at hsm ⊢
        rw [beq_eq_false_iff_ne]; omega
      · rcases hq3 with e | e | e <;> rw [e]
        · exact near_ix.1
        · exact near_ix.2.1
        · exact near_ix.2.2
      · rintro e w' ⟨rfl, hb⟩
        exact ⟨_, rfl, by decide, hb⟩
    · have g4 : (blankS[q + 1]'hb6).toNat ≠ (E[q + 1]'h1).toNat := by rw [h4]; exact Nat.ne_of_lt (Nat.lt_of_lt_of_le (blank_cells.1 (q + 1) hb6 hq3) (Nat.le_add_right _ _))
      refine (idxR_far blankS E r w blank_size g1 g2 g3 hval hcv (q + 1) h2 h3 g4 ?_).mono ?_
      · have hx : (decide (128 ≤ (E[q + 1]'h1).toNat) && (decide ((E[q + 1]'h1).toNat < 192) && decide ((E[q + 1]'h1).toNat ≠ 160))) = true := by
          rw [h4]
          simp only [Bool.and_eq_true, decide_eq_true_eq]
          omega
        obtain ⟨f1, f2, f3⟩ := far_ix _ hx
        have key : ∀ X : UInt8, (Lib.indexByte (blankS.extract 2 blankS.size).data.toList X = -1 ∧ Lib.indexByte (blankS.extract 3 blankS.size).data.toList X = -1 ∧ Lib.indexByte (blankS.extract 4 blankS.size).data.toList X = -1) → Lib.indexByte (blankS.extract (q + 1 + 1) blankS.size).data.toList X = -1 := fun X ⟨f1, f2, f3⟩ => by
          rcases hq3 with e | e | e <;> rw [e]
          · exact f1
          · exact f2
          · exact f3
        exact key _ ⟨f1, f2, f3⟩
      · rintro e w' ⟨rfl, hb⟩
        exact ⟨_, rfl, by decide, hb⟩
set_option maxHeartbeats 1000000 in
theorem contR_any (r : Nat) (hr : r ≤ 1114111) (w : World) :
    Calls Tryd.prog 44 #[.string blankS, .int .i32 r] w fun e w' => e = .returned (.bool (blankR r)) ∧ Below w.heap.size w w' := by
  have HI := hide (idxR_any r hr w)
  obtain ⟨S, hS⟩ : ∃ S, S = blankS := ⟨_, rfl⟩
  rw [← hS] at HI ⊢
  clear hS
  go_enter Tryd.func44, Tryd.ntmps44
  go_wp2_with fail
  refine HI.out.mono ?_
  rintro e w1 ⟨i, rfl, hi, hb⟩
  have HB := hide hb
  clear hb
  go_wp2_with fail
  go_ret
  exact ⟨rfl, HB.out⟩
set_option maxHeartbeats 4000000 in
set_option maxRecDepth 1000000 in
/-- the set of the blanks is none of ASCII -/
theorem makeSet_blank (w : World) :
    Calls Tryd.prog 37 #[.string blankS] w fun e w' => ∃ cs : Array Value, cs.size = 256 ∧ cs.all (·.oneCell') = true ∧ e = .returned (.tuple #[.agg cs, .bool false]) ∧ Below w.heap.size w w' := by
  have hi116 : (Tryd.prog.info? 51).map (·.size) = some 256 := by kernel_rfl
  have hv116 : ∀ w, (zeroValue 51).run Tryd.prog w = .ok (.agg (Array.replicate 256 (.bool false))) w := fun w => by kernel_rfl
  obtain ⟨S, hS⟩ : ∃ S, S = blankS := ⟨_, rfl⟩
  have hs : S.size = 6 := by rw [hS]; rfl
  have hx : ∀ i (h : i < S.size), i < 4 → (S[i]'h).toNat < 128 := by
    rintro i h hi
    subst hS
    match i, hi with
    | 0, _ => show (32 : UInt8).toNat < 128; decide
    | 1, _ => show (9 : UInt8).toNat < 128; decide
    | 2, _ => show (10 : UInt8).toNat < 128; decide
    | 3, _ => show (13 : UInt8).toNat < 128; decide
  have h4 : ((S[4]'(by omega)).toNat : Int) = 194 := by subst hS; rfl
  rw [← hS]
  clear hS
  have HX : Hid (∀ i (h : i < S.size), i < 4 → (S[i]'h).toNat < 128) := hide hx
  clear hx
  have t116 : Tryd.prog.underlying 51 = some (.array 256 4) := Tryd.underlying51
  go_enter Tryd.func37, Tryd.ntmps37
  go_wp2
  rw [← Lib.setCells_nil]
  go_loopw [4] (fun s4 wx => ∃ i : Nat, i ≤ 4 ∧ s4 = .int .i64 i ∧ ∃ l, wx = w.alloc (.cells (Lib.setCells l) 51)) (fun i _ => 4 - (intOf i).toNat)
  case atStart => exact ⟨0, by omega, rfl, [], rfl⟩
  case round =>
    obtain ⟨i, hi4, rfl, l, rfl⟩ := hrel
    rcases Nat.lt_or_ge i 4 with hlt | hge
    · have hi : i < S.size := by omega
      have hiz : (i : Int) < 6 := by omega
      have hxx := HX.out i hi hlt
      obtain ⟨x, hx⟩ : ∃ x : UInt8, S[i]'hi = x := ⟨_, rfl⟩
      rw [hx] at hxx
      have hx128 : ¬ ((128 : Int) ≤ (x.toNat : Int)) := by omega
      have hx256 : (x.toNat : Int) < 256 := by omega
      have hcell := Lib.setCells_at l x
      go_wp2
      go_roundw
      case rel => exact ⟨i + 1, by omega, by go_num, l ++ [x], by rw [Lib.setCells_snoc]⟩
      case measure => simp [intOf]; omega
    · obtain rfl : i = 4 := by omega
      have hiz : (4 : Int) < 6 := by omega
      have hsz := Lib.setCells_size l
      have hone := Lib.setCells_one l
      have hld := run_loadVar_new (P := Tryd.prog) w 51 (Lib.setCells l) 256 4 t116 (by rw [hsz]; exact hi116)
      have hlc := run_loadCellsFrom_new (P := Tryd.prog) w 51 (Lib.setCells l) 256 hsz
      have hsc := run_storeCells_new (P := Tryd.prog) w 51 (Lib.setCells l) (Lib.setCells l) (by rw [hsz]; exact hi116) rfl hone
      have a116 : ∀ w, (isAgg 51).run Tryd.prog w = .ok true w := (Tryd.lays227).a116
      have z116 : ∀ w, (Go.sizeOf 51).run Tryd.prog w = .ok 256 w := (Tryd.lays227).z116
      have hblk : (w.alloc (Obj.cells (Lib.setCells l) 51)).heap[w.heap.size]? = some (.cells (Lib.setCells l) 51 (0, 0)) := heap_alloc_new w _
      have HA := hide a116
      have HZ := hide z116
      clear a116 z116
      go_wp2
      refine wp_load_row 51 _ rfl w.heap.size rfl _ (Lib.setCells l) (0, 0) _ hblk t116 rfl (by rw [hsz]; exact hi116) ?_
      go_wp2
      refine bodyPost_ret (v := .tuple #[.agg (Lib.setCells l), .bool false]) ?_ rfl ⟨_, hsz, hone, rfl, below_one _ _⟩
      rw [results_cell_tmp rfl]
      simp [asAddr, Result.andThen, hld]
end Go.Proofs.YtjaeheicndfdnaaDoor
