/- WALK of addr.Parse. No statement is proved here. -/
import Derived.Test.YtnckbdkofbhilaaGreatDoorAddrB
import Derived.Test.YtnckbdkofbhilaaGreatDoorAddrT
import Derived.Test.YtnckbdkofbhilaaGreatDoorBBuf
namespace Go.Proofs.YtnckbdkofbhilaaGreatDoor
open Go.RowKit
set_option linter.unusedVariables false
set_option linter.unusedSimpArgs false
set_option maxRecDepth 100000
/-- a box that tells something -/
def tells (b : BoxL) : Bool := !(b.1.isEmpty && b.2.isEmpty)
def boxesOf (l : List ByteArray) : List BoxL := (l.map readBoxL).filter tells
theorem boxesOf_cons (t : ByteArray) (l : List ByteArray) : boxesOf (t :: l) = (if tells (readBoxL t) then [readBoxL t] else []) ++ boxesOf l := by
  unfold boxesOf
  rw [List.map_cons, List.filter_cons]
  split <;> rfl
def parseL (s : ByteArray) : List BoxL := boxesOf (boxL s)
theorem bxAt_sizes (s : ByteArray) (k : Nat) : ∀ t ∈ (bxAt s k).2.1, t.size ≤ s.size := by
  induction k with
  | zero => intro t ht; cases ht
  | succ k ih =>
    by_cases hk : k < s.size
    · rw [bxAt_succ s k hk]
      unfold bxStep
      split
      · exact ih
      · split
        · exact ih
        · split
          · exact ih
          · split
            · split
              · exact ih
              · intro t ht
                rcases List.mem_append.1 ht with ht | ht
                · exact ih t ht
                · simp at ht; rw [ht, ByteArray.size_extract]; omega
            · exact ih
    · have e : bxAt s (k + 1) = bxAt s k := by show (if h : k < s.size then _ else _) = _; rw [dif_neg hk]
      rw [e]; exact ih
theorem boxL_sizes (s : ByteArray) : ∀ t ∈ boxL s, t.size ≤ s.size := by
  intro t ht
  rcases List.mem_append.1 ht with ht | ht
  · exact bxAt_sizes s _ t ht
  · simp at ht; rw [ht, ByteArray.size_extract]; omega
theorem boxL_length (s : ByteArray) : (boxL s).length ≤ s.size + 1 ∧ boxL s ≠ [] := by
  unfold boxL
  refine ⟨?_, by simp⟩
  rw [List.length_append]; simp; exact (bxAt_bd s s.size).1
theorem two_box (w : World) (x y : Value) (t : TypeId) : (w.alloc (.cells #[x, y] t)).cell? ((⟨w.heap.size, 0, none⟩ : Addr).add 0) = some x ∧ (w.alloc (.cells #[x, y] t)).cell? ((⟨w.heap.size, 0, none⟩ : Addr).add 1) = some y := by
  have e0 : (⟨w.heap.size, 0, none⟩ : Addr).add 0 = ⟨w.heap.size, 0, none⟩ := by rw [Addr.add_lit]
  have e1 : (⟨w.heap.size, 0, none⟩ : Addr).add 1 = ⟨w.heap.size, 1, none⟩ := by rw [Addr.add_lit]
  rw [e0, e1, World.cell?_alloc_at _ _ _ _ rfl, World.cell?_alloc_at _ _ _ _ rfl]
  exact ⟨rfl, rfl⟩
theorem BBuf.lower {v : Value} {l : List BoxL} {w w1 w' : World} (h : BBuf w1.heap.size v l w1 w') (hb : Below w.heap.size w w1) : BBuf w.heap.size v l w w' := by
  obtain ⟨⟨h1, h2⟩, hB, hs⟩ := h
  refine ⟨⟨h1, ?_⟩, hb.trans (hB.mono hb.size), Nat.le_trans hb.size hs⟩
  rcases h2 with h2 | ⟨g, cap, cur, e1, hg, e2⟩
  · exact .inl h2
  · exact .inr ⟨g, cap, cur, e1, Nat.le_trans hb.size hg, e2⟩
set_option maxHeartbeats 1600000 in
theorem addrParse_any (s : ByteArray) (w : World) (hs : s.size ≤ 1048576) (hT : Tab w) :
    Calls Tryz.prog 18 #[.string s] w fun e w' => ∃ v, e = .returned v ∧ BBuf w.heap.size v (parseL s) w w' := by
  have CT := hide (boxTexts_any s w hs)
  have HT := hide hT
  have HZ := hide (boxL_sizes s)
  have HS := hide hs
  obtain ⟨zl, zn⟩ := boxL_length s
  have HP : Hid (parseL s = boxesOf (boxL s)) := hide rfl
  obtain ⟨L, hL⟩ : ∃ L, boxL s = L := ⟨_, rfl⟩
  rw [hL] at CT HZ zl zn HP
  obtain ⟨n, hn⟩ : ∃ n, L.length = n := ⟨_, rfl⟩
  have hn2 : n ≤ 1048577 := by omega
  clear hL hs hT zl
  go_enter Tryz.func18, Tryz.ntmps18
  go_wp2_with (go_at_call 35; refine CT.out.mono ?_; rintro e w1 ⟨v, rfl, hv⟩; rcases hv.form with ⟨_, h0⟩ | ⟨g, cap, rfl, hc1, hc2, hg1, hg2, hcell⟩; (exact absurd h0 zn); rw [hn] at hc1 ⊢; have HV := hide hv.below; have HG := hide hg2; have HC := hide hcell; clear hv hg1 hcell hc2)
  go_loopw [3, 10] (fun o i wr => ∃ (k : Nat) (acc : List BoxL), k ≤ n ∧ i = .int .i64 k ∧ acc.length ≤ k ∧ Hid (BBuf w1.heap.size o acc w1 wr) ∧ Hid (acc ++ boxesOf (L.drop k) = boxesOf L)) (fun _ i _ => n - (intOf i).toNat)
  case atStart => exact ⟨0, [], Nat.zero_le _, rfl, Nat.le_refl _, hide (BBuf.nil (Below.refl _ _) (Nat.le_refl _)), hide rfl⟩
  case round =>
    obtain ⟨k, acc, hk, rfl, hal, HB, HE⟩ := hrel
    by_cases hlt : k < n
    · have hl : k < L.length := by omega
      have hd : L.drop k = L[k] :: L.drop (k + 1) := List.drop_eq_getElem_cons hl
      have zt := HZ.out L[k] (List.getElem_mem hl)
      have c1 : wr.cell? ⟨g, k, none⟩ = some (.string L[k]) := by
        have := HC.out k L[k] (List.getElem?_eq_getElem hl)
        rw [Nat.zero_add] at this
        exact (World.cell?_of_block (w := w1) (HB.out.below.block g HG.out)).trans this
      obtain ⟨T, hTT⟩ : ∃ T, L[k] = T := ⟨_, rfl⟩
      rw [hTT] at hd zt c1
      have CB := hide (readBox_any T wr (Nat.le_trans zt HS.out) ((HT.out.below HV.out HT.out.lt).below HB.out.below (Tab.lt (HT.out.below HV.out HT.out.lt))))
      simp only [boxV] at CB
      have HN0 : Hid (acc ++ ((if tells (readBoxL T) then [readBoxL T] else []) ++ boxesOf (L.drop (k + 1))) = boxesOf L) := hide (by rw [← boxesOf_cons, ← hd]; exact HE.out)
      obtain ⟨⟨bn, bm⟩, hb⟩ : ∃ b, readBoxL T = b := ⟨_, rfl⟩
      rw [hb] at CB HN0
      have i0 : (k : Int) < n := by omega
      have HAL : Hid (acc.length + 1 ≤ 4398046511104) := hide (by omega)
      clear hd hb hTT zt
      by_cases g1 : bn = []
      · have s1 : (str bn).toList = [] := by rw [str_list, g1]
        by_cases g2 : bm = []
        · have s2 : (str bm).toList = [] := by rw [str_list, g2]
          have HN : Hid (acc ++ boxesOf (L.drop (k + 1)) = boxesOf L) := hide (by have ht : tells (bn, bm) = false := (by rw [g1, g2]; rfl); have := HN0.out; rw [ht, if_neg (by decide)] at this; exact this)
          clear HN0 g1 g2
          go_wp2_with (go_at_call 36; refine CB.out.mono ?_; rintro e w2 ⟨rfl, hb2⟩; have HB2 := hide (HB.out.kept hb2); have TN := two_box (w2.alloc (.cells #[.string (str bn), .string (str bm)] 32)) (.string (str bn)) (.string (str bm)) 32; rw [World.size_alloc] at TN; have TN2 := hide TN; clear hb2 TN)
          go_roundw
          case rel => exact ⟨k + 1, acc, by omega, by go_num, by omega, hide (HB2.out.alloc _), HN⟩
          case measure => simp [intOf]; omega
        · have s2 : ¬ (str bm).toList = [] := by rw [str_list]; exact g2
          have ht : tells (bn, bm) = true := by cases bm with | nil => exact absurd rfl g2 | cons x r => rw [g1]; rfl
          clear g1 g2
          have HN : Hid ((acc ++ [(bn, bm)]) ++ boxesOf (L.drop (k + 1)) = boxesOf L) := hide (by rw [List.append_assoc]; have := HN0.out; rw [ht, if_pos rfl] at this; exact this)
          clear ht HN0
          go_wp2_with (first
            | (go_at_call 36; refine CB.out.mono ?_; rintro e w2 ⟨rfl, hb2⟩; have HB2 := hide (HB.out.kept hb2); have TN := two_box (w2.alloc (.cells #[.string (str bn), .string (str bm)] 32)) (.string (str bn)) (.string (str bm)) 32; rw [World.size_alloc] at TN; have TN2 := hide TN; clear hb2 TN)
            | (at_builtin; go_must (refine wpList_boxes rfl _ _ rfl w1.heap.size u3 acc rfl w1 (bn, bm) ((HB2.out.alloc _).alloc _) ⟨w2.heap.size + 1, 0, none⟩ rfl TN2.out.1 TN2.out.2 HAL.out ?_; intro v4 w4 hb4; have HB4 := hide hb4; clear hb4)))
          go_roundw
          case rel => exact ⟨k + 1, acc ++ [(bn, bm)], by omega, by go_num, by simp; omega, HB4, HN⟩
          case measure => simp [intOf]; omega
      · have s1 : ¬ (str bn).toList = [] := by rw [str_list]; exact g1
        have ht : tells (bn, bm) = true := by cases bn with | nil => exact absurd rfl g1 | cons x r => rfl
        clear g1
        have HN : Hid ((acc ++ [(bn, bm)]) ++ boxesOf (L.drop (k + 1)) = boxesOf L) := hide (by rw [List.append_assoc]; have := HN0.out; rw [ht, if_pos rfl] at this; exact this)
        clear ht HN0
        go_wp2_with (first
          | (go_at_call 36; refine CB.out.mono ?_; rintro e w2 ⟨rfl, hb2⟩; have HB2 := hide (HB.out.kept hb2); have TN := two_box (w2.alloc (.cells #[.string (str bn), .string (str bm)] 32)) (.string (str bn)) (.string (str bm)) 32; rw [World.size_alloc] at TN; have TN2 := hide TN; clear hb2 TN)
          | (at_builtin; go_must (refine wpList_boxes rfl _ _ rfl w1.heap.size u3 acc rfl w1 (bn, bm) ((HB2.out.alloc _).alloc _) ⟨w2.heap.size + 1, 0, none⟩ rfl TN2.out.1 TN2.out.2 HAL.out ?_; intro v4 w4 hb4; have HB4 := hide hb4; clear hb4)))
        go_roundw
        case rel => exact ⟨k + 1, acc ++ [(bn, bm)], by omega, by go_num, by simp; omega, HB4, HN⟩
        case measure => simp [intOf]; omega
    · have hk2 : k = n := by omega
      have HE2 : Hid (acc = parseL s) := hide (by rw [HP.out, ← HE.out, List.drop_eq_nil_of_le (by omega : L.length ≤ k)]; exact (List.append_nil acc).symm)
      clear hlt
      go_wp2_with fail
      go_ret
      exact ⟨_, rfl, by rw [← HE2.out]; exact HB.out.lower HV.out⟩
end Go.Proofs.YtnckbdkofbhilaaGreatDoor
