import Derived.Test.YtiejmkjpgjbodaaGreatDoorBaseO
import Derived.Lib.AppendStr
namespace Go.Proofs.YtiejmkjpgjbodaaGreatDoor
open Go.RowKit
set_option linter.unusedVariables false
set_option linter.unusedSimpArgs false
set_option maxRecDepth 100000
theorem inner_at (C : Nat → Prop) (B b g cap : Nat) (p : PartV) (rest : List PartV) (n : Nat) (W0 w : World) (h : BS C B b (.slice (some ⟨g, 0, none⟩) (rest.length + 1) cap) (p :: rest) n W0 w) (hl : rest.length ≤ 1000000) :
    Calls Tryz.prog 39 #[.pointer (some ⟨b, 0, none⟩)] w fun e w' => e = .returned (.pointer (some ⟨g, rest.length * 5, none⟩)) ∧ BS C B b (.slice (some ⟨g, 0, none⟩) (rest.length + 1) cap) (p :: rest) n W0 w' := by
  refine (inner14_any C B b _ (p :: rest) n W0 w h (by simp) (by simp only [List.length_cons]; omega)).mono ?_
  rintro e w' ⟨⟨g2, c2, he, rfl⟩, m, rfl⟩
  injection he with he _ _
  injection he with he
  injection he with he
  subst he
  exact ⟨rfl, h.kept ⟨rfl, rfl, rfl, Nat.le_refl _, fun _ _ => rfl⟩⟩
theorem inner_at2 (C : Nat → Prop) (B b g cap : Nat) (p : PartV) (rest : List PartV) (n : Nat) (W0 w : World) (h : BS C B b (.slice (some ⟨g, 0, none⟩) (rest.length + 1) cap) (p :: rest) n W0 w) (hl : rest.length ≤ 1000000) :
    Calls Tryz.prog 39 #[.pointer (some ⟨b, 0, none⟩)] w fun e w' => e = .returned (.pointer (some ⟨g, rest.length * 5, none⟩)) ∧ BS C B b (.slice (some ⟨g, 0, none⟩) (rest.length + 1) cap) (p :: rest) n W0 w' ∧ ∃ m, w' = w.drewN m := by
  refine (inner14_any C B b _ (p :: rest) n W0 w h (by simp) (by simp only [List.length_cons]; omega)).mono ?_
  rintro e w' ⟨⟨g2, c2, he, rfl⟩, m, rfl⟩
  injection he with he _ _
  injection he with he
  injection he with he
  subst he
  exact ⟨rfl, h.kept ⟨rfl, rfl, rfl, Nat.le_refl _, fun _ _ => rfl⟩, m, rfl⟩
def toLs (st : List PartV) : List PartL := st.map PartV.toL
def Left (B b : Nat) (s : BsL) (W0 w : World) : Prop := ∃ C r st, BS C B b r st s.2 W0 w ∧ toLs st = s.1
set_option maxHeartbeats 4000000 in
theorem charsTail_any (C : Nat → Prop) (B b g cap : Nat) (p : PartV) (rest : List PartV) (n : Nat) (W0 w : World) (h : BS C B b (.slice (some ⟨g, 0, none⟩) (rest.length + 1) cap) (p :: rest) n W0 w) (hl : rest.length ≤ 1000000) (x : ByteArray) (hx : x.data.toList ≠ []) (hz : p.tail.length + x.size ≤ 140737488355328) (ht : p.tail ≠ []) :
    Calls Tryz.prog 34 #[.pointer (some ⟨b, 0, none⟩), .string x] w fun e w' => e = .returned (.tuple #[]) ∧ ∃ p', BS C B b (.slice (some ⟨g, 0, none⟩) (rest.length + 1) cap) (p' :: rest) n W0 w' ∧ p'.toL = { p.toL with tail := p.tail ++ x.data.toList } := by
  obtain ⟨i0, hi, hz0, hz1, hz2⟩ := info_parts info_u8
  obtain ⟨gt, ct, htv⟩ : ∃ gt ct, p.tv = .slice (some ⟨gt, 0, none⟩) p.tail.length ct := by
    rcases (h.tails p (List.mem_cons_self ..)).1.2 with ⟨_, h0⟩ | ⟨g', cap', cur, hv, _⟩
    · exact absurd (List.eq_nil_of_length_eq_zero h0) ht
    · exact ⟨g', cap', hv⟩
  have hlt : 0 < p.tail.length := List.length_pos_iff.2 ht
  have t0 : ((p.tail.length : Int) == 0) = false := beq_eq_false_iff_ne.2 (by omega)
  have HH := hide h
  have HI := hide (inner_at C B b g cap p rest n W0 w h hl)
  have HTV := hide htv
  have HX := hide hx
  have HI1 := hide hi
  have HZ0 := hide hz0
  have HZ1 := hide hz1
  have HZ2 := hide hz2
  clear h htv hx hi hz0 hz1 hz2 ht
  go_enter Tryz.func34, Tryz.ntmps34
  go_wp2_with fail
  refine HI.out.mono ?_
  rintro e w1 ⟨rfl, hb⟩
  obtain ⟨e0, e1, e2, e3, e4, ef⟩ := hb.cells
  rw [HTV.out] at e4
  have HB := hide hb
  clear hb e0 e1 e2 e3
  go_wp2_with (refine Lib.wpList_append_own_string _ rfl _ _ 56 9 rfl B 5 i0 Tryz.underlying56 Tryz.underlying9 HI1.out HZ0.out HZ1.out HZ2.out (.slice (some ⟨gt, 0, none⟩) p.tail.length ct) p.tail.length (cellsOf p.tail) rfl (by have := (HB.out.tails p (List.mem_cons_self ..)).1; rw [HTV.out] at this; exact this) x rfl (by unfold maxLen; omega) (by omega) HB.out.size ?_
               intro v' w2 hown' hgrow _
               obtain ⟨ao, n', c', rfl⟩ : ∃ ao n' c', v' = .slice ao n' c' := by
                 rcases hown'.2 with ⟨hv, _⟩ | ⟨g0, c0, cur, hv, _⟩
                 · exact ⟨_, _, _, hv⟩
                 · exact ⟨_, _, _, hv⟩
               have hgt := hgrow
               rw [← HTV.out] at hgt
               have hlg : g < w1.heap.size := World.block_lt_of_cell? _ _ e4
               have hne : (Value.slice (some ⟨gt, 0, none⟩) p.tail.length ct).ownBlock ≠ some g := by
                 have := ownsRow_other (HB.out.tails p (List.mem_cons_self ..)).1 (r := g) (fun cur => HB.out.rowOut.2.2.2 cur _ (by decide))
                 rw [HTV.out] at this; exact this
               have hgg : w2.heap[g]? = w1.heap[g]? := hgrow.block g hlg (fun e => hne e.symm)
               have d4 : w2.cell? ⟨g, rest.length * 5 + 4, none⟩ = some (.slice (some ⟨gt, 0, none⟩) p.tail.length ct) := (World.cell?_of_block hgg).trans e4
               have f4 : w2.frozen? ⟨g, rest.length * 5 + 4, none⟩ = false := (World.frozen?_of_block hgg).trans (ef _)
               have HO2 : Hid (w2.ownsRow B 5 1 (.slice ao n' c') (p.tail ++ x.data.toList).length (cellsOf (p.tail ++ x.data.toList))) := hide (by
                 rw [List.length_append, toList_length, cellsOf, List.map_append]
                 exact hown')
               have HG2 := hide hgt
               clear hown' hgrow hgt hlg hne hgg)
  go_end0
  have := HB.out.moreTail HO2.out HG2.out (fun e => absurd (List.append_eq_nil_iff.1 e).2 HX.out)
  exact ⟨rfl, _, this, rfl⟩
set_option maxHeartbeats 4000000 in
theorem charsNew_any (C : Nat → Prop) (B b g cap : Nat) (p : PartV) (rest : List PartV) (n : Nat) (W0 w : World) (h : BS C B b (.slice (some ⟨g, 0, none⟩) (rest.length + 1) cap) (p :: rest) n W0 w) (hl : rest.length ≤ 1000000) (x : ByteArray) (hx : x.data.toList ≠ []) (hz : x.size ≤ 140737488355328) (ht : p.tail = []) (hn : n < 5000) :
    Calls Tryz.prog 34 #[.pointer (some ⟨b, 0, none⟩), .string x] w fun e w' => e = .returned (.tuple #[]) ∧ ∃ p', BS C B b (.slice (some ⟨g, 0, none⟩) (rest.length + 1) cap) (p' :: rest) (n + 1) W0 w' ∧ p'.toL = { p.toL with tail := x.data.toList } := by
  obtain ⟨i0, hi, hz0, hz1, hz2⟩ := info_parts info_u8
  obtain ⟨A, N, ct, htv, hN⟩ : ∃ A N ct, p.tv = .slice A N ct ∧ N = 0 := ⟨_, _, _, (h.tails p (List.mem_cons_self ..)).2 ht, rfl⟩
  have t0 : ((N : Int) == 0) = true := by rw [beq_iff_eq]; omega
  have HT0 : Hid (∀ W, Below w.heap.size w W → True) := hide fun _ _ => trivial
  have HTL := hide ht
  have HN0 := hide hN
  have HH := hide h
  have HI := hide (inner_at C B b g cap p rest n W0 w h hl)
  have HTV := hide htv
  have HX := hide hx
  have HN := hide hn
  have HI1 := hide hi
  have HZ0 := hide hz0
  have HZ1 := hide hz1
  have HZ2 := hide hz2
  clear h htv hx hi hz0 hz1 hz2 ht hn hN HT0
  go_enter Tryz.func34, Tryz.ntmps34
  go_wp2_with fail
  refine HI.out.mono ?_
  rintro e w0 ⟨rfl, hb0⟩
  obtain ⟨e0, e1, e2, e3, e4, ef⟩ := hb0.cells
  rw [HTV.out] at e4
  have HT := hide (take_yes C B b _ (p :: rest) n W0 w0 hb0 HN.out)
  clear hb0 e0 e1 e2 e3 ef
  go_wp2_with fail
  refine HT.out.mono ?_
  rintro e w1 ⟨rfl, hb⟩
  clear e4
  obtain ⟨e0, e1, e2, e3, e4, ef⟩ := hb.cells
  rw [HTV.out] at e4
  have HB := hide hb
  clear hb e0 e1 e2 e3
  go_wp2_with (refine Lib.wpList_append_own_string _ rfl _ _ 56 9 rfl B 5 i0 Tryz.underlying56 Tryz.underlying9 HI1.out HZ0.out HZ1.out HZ2.out (.slice A N ct) 0 [] rfl (by have := (HB.out.tails p (List.mem_cons_self ..)).1; rw [HTV.out, HTL.out] at this; exact this) x rfl (by unfold maxLen; omega) (by omega) HB.out.size ?_
               intro v' w2 hown' hgrow _
               obtain ⟨ao, n', c', rfl⟩ : ∃ ao n' c', v' = .slice ao n' c' := by
                 rcases hown'.2 with ⟨hv, _⟩ | ⟨g0, c0, cur, hv, _⟩
                 · exact ⟨_, _, _, hv⟩
                 · exact ⟨_, _, _, hv⟩
               have hgt := hgrow
               rw [← HTV.out] at hgt
               have hlg : g < w1.heap.size := World.block_lt_of_cell? _ _ e4
               have hne : (Value.slice A N ct).ownBlock ≠ some g := by
                 have := ownsRow_other (HB.out.tails p (List.mem_cons_self ..)).1 (r := g) (fun cur => HB.out.rowOut.2.2.2 cur _ (by decide))
                 rw [HTV.out] at this; exact this
               have hgg : w2.heap[g]? = w1.heap[g]? := hgrow.block g hlg (fun e => hne e.symm)
               have d4 : w2.cell? ⟨g, rest.length * 5 + 4, none⟩ = some (.slice A N ct) := (World.cell?_of_block hgg).trans e4
               have f4 : w2.frozen? ⟨g, rest.length * 5 + 4, none⟩ = false := (World.frozen?_of_block hgg).trans (ef _)
               have HO2 : Hid (w2.ownsRow B 5 1 (.slice ao n' c') x.data.toList.length (cellsOf x.data.toList)) := hide (by
                 have h9 := hown'
                 rw [Nat.zero_add, List.nil_append] at h9
                 rw [toList_length]
                 exact h9)
               have HG2 := hide hgt
               clear hown' hgrow hgt hlg hgg hne)
  go_end0
  have := HB.out.moreTail HO2.out HG2.out (fun e => absurd e HX.out)
  exact ⟨rfl, _, this, rfl⟩
set_option maxHeartbeats 4000000 in
theorem charsFull_any (C : Nat → Prop) (B b g cap : Nat) (p : PartV) (rest : List PartV) (W0 w : World) (h : BS C B b (.slice (some ⟨g, 0, none⟩) (rest.length + 1) cap) (p :: rest) 5000 W0 w) (hl : rest.length ≤ 1000000) (x : ByteArray) (ht : p.tail = []) :
    Calls Tryz.prog 34 #[.pointer (some ⟨b, 0, none⟩), .string x] w fun e w' => e = .returned (.tuple #[]) ∧ BS C B b (.slice (some ⟨g, 0, none⟩) (rest.length + 1) cap) (p :: rest) 5000 W0 w' := by
  have htv := (h.tails p (List.mem_cons_self ..)).2 ht
  have HI := hide (inner_at C B b g cap p rest 5000 W0 w h hl)
  have HTV := hide htv
  clear h htv ht
  go_enter Tryz.func34, Tryz.ntmps34
  go_wp2_with fail
  refine HI.out.mono ?_
  rintro e w0 ⟨rfl, hb0⟩
  obtain ⟨e0, e1, e2, e3, e4, ef⟩ := hb0.cells
  rw [HTV.out] at e4
  have HT := hide (take_no C B b _ (p :: rest) W0 w0 hb0)
  have HB := hide hb0
  clear hb0 e0 e1 e2 e3 ef
  go_wp2_with fail
  refine HT.out.mono ?_
  rintro e w1 ⟨rfl, rfl⟩
  go_wp2_with fail
  try simp only [Exit.inBlock, Exit.then]
  refine bodyPost_ret (results_none rfl _ _ _) rfl ?_
  exact ⟨rfl, HB.out⟩
theorem chars_any (C : Nat → Prop) (B b g cap : Nat) (p : PartV) (rest : List PartV) (n : Nat) (W0 w : World) (h : BS C B b (.slice (some ⟨g, 0, none⟩) (rest.length + 1) cap) (p :: rest) n W0 w) (hl : rest.length ≤ 1000000) (hn : n ≤ 5000) (x : ByteArray) (hx : x.data.toList ≠ []) (hz : p.tail.length + x.size ≤ 140737488355328) :
    Calls Tryz.prog 34 #[.pointer (some ⟨b, 0, none⟩), .string x] w fun e w' => e = .returned (.tuple #[]) ∧ Left B b (charsP x.data.toList (toLs (p :: rest), n)) W0 w' := by
  have hc : charsP x.data.toList (toLs (p :: rest), n) = if p.tail = [] then (if n = 5000 then (toLs (p :: rest), n) else ({ p.toL with tail := x.data.toList } :: toLs rest, n + 1)) else ({ p.toL with tail := p.tail ++ x.data.toList } :: toLs rest, n) := rfl
  rw [hc]
  by_cases ht : p.tail = []
  · rw [if_pos ht]
    by_cases h5 : n = 5000
    · subst h5
      rw [if_pos rfl]
      refine (charsFull_any C B b g cap p rest W0 w h hl x ht).mono ?_
      rintro e w' ⟨rfl, hb⟩
      exact ⟨rfl, C, _, _, hb, rfl⟩
    · rw [if_neg h5]
      refine (charsNew_any C B b g cap p rest n W0 w h hl x hx (by omega) ht (by omega)).mono ?_
      rintro e w' ⟨rfl, p', hb, he⟩
      exact ⟨rfl, C, _, _, hb, by show p'.toL :: toLs rest = _; rw [he]⟩
  · rw [if_neg ht]
    refine (charsTail_any C B b g cap p rest n W0 w h hl x hx hz ht).mono ?_
    rintro e w' ⟨rfl, p', hb, he⟩
    exact ⟨rfl, C, _, _, hb, by show p'.toL :: toLs rest = _; rw [he]⟩
end Go.Proofs.YtiejmkjpgjbodaaGreatDoor
