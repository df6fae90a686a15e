/- WALK of addr.Write. No statement is proved here. -/
import Derived.Test.YtcmmbceacjechaaGreatDoorAddrN
import Derived.Test.YtcmmbceacjechaaGreatDoorBaseN
import Derived.Test.YtcmmbceacjechaaGreatDoorBaseO
namespace Go.Proofs.YtcmmbceacjechaaGreatDoor
open Go.RowKit
set_option linter.unusedVariables false
set_option linter.unusedSimpArgs false
set_option maxRecDepth 100000
/-- a []api.Box that is given -/
def BoxesIn (w : World) (v : Value) (l : List BoxL) : Prop :=
  (v = .slice none 0 0 ∧ l = []) ∨ ∃ a cap, v = .slice (some a) l.length cap ∧ l.length ≤ cap ∧ cap ≤ maxLen ∧
    ∀ j (h : j < l.length), w.cell? (a.add (j * 2)) = some (.string (str (l[j]'h).1)) ∧ w.cell? (a.add (j * 2 + 1)) = some (.string (str (l[j]'h).2))
theorem BoxesIn.kept {w w' : World} {v : Value} {l : List BoxL} (h : BoxesIn w v l) (hb : Below w.heap.size w w') : BoxesIn w' v l := by
  rcases h with h | ⟨a, cap, h1, h2, h3, h4⟩
  · exact .inl h
  · refine .inr ⟨a, cap, h1, h2, h3, fun j hj => ?_⟩
    obtain ⟨c1, c2⟩ := h4 j hj
    exact ⟨(hb.cell (World.block_lt_of_cell? _ _ c1)).trans c1, (hb.cell (World.block_lt_of_cell? _ _ c2)).trans c2⟩
theorem BoxesIn.form {w : World} {v : Value} {l : List BoxL} (h : BoxesIn w v l) : ∃ a cap, v = .slice a l.length cap := by
  rcases h with ⟨rfl, rfl⟩ | ⟨a, cap, rfl, _⟩
  · exact ⟨_, _, rfl⟩
  · exact ⟨_, _, rfl⟩
theorem BoxesIn.cells {w : World} {A : Option Addr} {n cap : Nat} {l : List BoxL} (h : BoxesIn w (.slice A n cap) l) (k : Nat) (f : BoxL) (hk : l[k]? = some f) :
    ∃ a, A = some a ∧ w.cell? (a.add (k * 2)) = some (.string (str f.1)) ∧ w.cell? (a.add (k * 2 + 1)) = some (.string (str f.2)) := by
  obtain ⟨hlt, rfl⟩ := List.getElem?_eq_some_iff.1 hk
  rcases h with ⟨_, rfl⟩ | ⟨a, cap', h1, _, _, h4⟩
  · cases hlt
  · injection h1 with h1 _ _
    exact ⟨a, h1, h4 k hlt⟩
def okBox (b : BoxL) : Bool := goodL b.2 && !ctlL b.1
def wBox (b : BoxL) : List UInt8 := writeBoxL b.1 b.2
def writeAll (l : List BoxL) : List UInt8 × Int := if l.all okBox then (Lib.join (l.map wBox) [44, 32], 0) else ([], 1)
theorem all_bad {l : List BoxL} {k : Nat} {f : BoxL} (hk : l[k]? = some f) (hf : okBox f = false) : writeAll l = ([], 1) := by
  unfold writeAll
  have : l.all okBox = false := by
    rw [List.all_eq_false]
    exact ⟨f, List.mem_of_getElem? hk, by rw [hf]; decide⟩
  rw [this]; rfl
set_option maxHeartbeats 1600000 in
theorem addrWrite_any (v : Value) (l : List BoxL) (m : Int) (w : World) (hl : BoxesIn w v l) (hz : ∀ b ∈ l, b.1.length ≤ 100000 ∧ (encodeL b.1).length ≤ 100000000 ∧ b.2.length ≤ 1048576) (hn : l.length ≤ 1048576)
    (hj : (Lib.join (l.map wBox) [44, 32]).length ≤ 140737488355328) (hm : w.cell? ⟨0, 0, none⟩ = some (.int .i64 m)) :
    Calls Tryz.prog 69 #[v] w fun e w' => e = .returned (.tuple #[.string (str (writeAll l).1), .int .i64 (writeAll l).2]) ∧ Below w.heap.size w w' := by
  have hlt0 : 0 < w.heap.size := by
    rcases Nat.lt_or_ge 0 w.heap.size with h1 | h1
    · exact h1
    · simp [World.cell?, Array.getElem?_eq_none h1] at hm
  have HM : Hid (∀ w2, Below w.heap.size w w2 → w2.cell? ⟨0, 0, none⟩ = some (.int .i64 m)) := hide fun w2 h => (h.cell hlt0).trans hm
  obtain ⟨A, cap, rfl⟩ := hl.form
  have HL := hide hl
  have HZ := hide hz
  have HJ := hide hj
  obtain ⟨n, hnn⟩ : ∃ n, l.length = n := ⟨_, rfl⟩
  rw [hnn] at HL hn ⊢
  clear hl hz hj hm hlt0
  go_enter Tryz.func69, Tryz.ntmps69
  go_wp2_with fail
  go_loopw [4, 9] (fun o i wr => ∃ k : Nat, k ≤ n ∧ i = .int .i64 k ∧ Hid (SBuf w.heap.size o (((l.take k).map wBox).map str) w wr) ∧ Hid ((l.take k).all okBox = true)) (fun _ i _ => n - (intOf i).toNat)
  case atStart => exact ⟨0, Nat.zero_le _, rfl, hide (SBuf.nil (Below.refl _ _) (Nat.le_refl _)), hide rfl⟩
  case round =>
    obtain ⟨k, hk, rfl, HB, HA⟩ := hrel
    by_cases hlt : k < n
    · have hlk : k < l.length := by omega
      obtain ⟨f, hf⟩ : ∃ f, l[k]? = some f := ⟨_, List.getElem?_eq_getElem hlk⟩
      obtain ⟨a, ha, hc1, hc2⟩ := (HL.out.kept HB.out.below).cells k f hf
      subst ha
      have e3 : ({ block := (a.add (k * 2)).block, off := (a.add (k * 2)).off + 1 } : Addr) = a.add (k * 2 + 1) := by rw [← Addr.add_add]; rfl
      have hc3 : wr.cell? { block := (a.add (k * 2)).block, off := (a.add (k * 2)).off + 1 } = some (.string (str f.2)) := by rw [e3]; exact hc2
      obtain ⟨z1, z2, z3⟩ := HZ.out f (List.mem_of_getElem? hf)
      have CG := fun w1 => hide (good_any (str f.2) w1 (by rw [str_size]; exact z3))
      have CC := fun w1 => hide (control_any (str f.1) w1 (by rw [str_size]; exact Nat.le_trans z1 (by decide)))
      have CW := fun w1 h => hide (writeBox_any f.1 f.2 m w1 z1 z2 z3 h)
      simp only [str_toList] at CG CC
      have HW : Hid (∀ w2, Below (wr.alloc (.cells #[.string (str f.1), .string (str f.2)] 79)).heap.size (wr.alloc (.cells #[.string (str f.1), .string (str f.2)] 79)) w2 → Below w.heap.size w w2 ∧ w2.heap[wr.heap.size]? = some (.cells #[.string (str f.1), .string (str f.2)] 79)) :=
        hide fun w2 h => ⟨(HB.out.below.alloc HB.out.2.2 _).trans (h.mono (by rw [World.size_alloc]; exact Nat.le_succ_of_le HB.out.2.2)), (h.block wr.heap.size (by rw [World.size_alloc]; exact Nat.lt_succ_self _)).trans (heap_alloc_new wr _)⟩
      have HF := hide hf
      have hal : ((l.take k).map wBox).length ≤ 1048576 := by rw [List.length_map, List.length_take]; omega
      have HAL : Hid ((((l.take k).map wBox).map str).length + 1 ≤ 8796093022208) := hide (by rw [List.length_map]; omega)
      have HT : Hid (((l.take k).map wBox).map str ++ [str (writeBoxL f.1 f.2)] = ((l.take (k + 1)).map wBox).map str) := hide (by
        rw [List.take_add_one, hf]; simp [wBox])
      have HA2 : okBox f = true → Hid ((l.take (k + 1)).all okBox = true) := fun h => hide (by
        rw [List.take_add_one, hf, List.all_append, HA.out]; simp [h])
      obtain ⟨acc, hacc⟩ : ∃ acc, ((l.take k).map wBox).map str = acc := ⟨_, rfl⟩
      rw [hacc] at HB HAL HT
      clear hf z1 z2 z3 e3 hc2 hal hacc
      cases hg : goodL f.2 with
      | false =>
        have HR : Hid (writeAll l = ([], 1)) := hide (all_bad HF.out (by unfold okBox; rw [hg]; rfl))
        rw [hg] at CG
        clear hg
        go_wp2_with (go_at_call 31; refine (CG _).out.mono ?_; rintro e w2 ⟨rfl, h2⟩; have K2 := hide (HW.out w2 h2); clear h2)
        go_ret2
        exact ⟨by rw [HR.out]; rfl, K2.out.1⟩
      | true =>
        rw [hg] at CG
        cases hc : ctlL f.1 with
        | true =>
          have HR : Hid (writeAll l = ([], 1)) := hide (all_bad HF.out (by unfold okBox; rw [hg, hc]; rfl))
          rw [hc] at CC
          clear hg hc
          go_wp2_with (first
            | (go_at_call 31; refine (CG _).out.mono ?_; rintro e w2 ⟨rfl, h2⟩; have K2 := hide (HW.out w2 h2); have k0 := cell_of_row w2 wr.heap.size 0 _ _ _ K2.out.2; have k1 := cell_of_row w2 wr.heap.size 1 _ _ _ K2.out.2; clear h2)
            | (go_at_call 62; refine (CC _).out.mono ?_; rintro e w3 ⟨rfl, rfl⟩))
          go_ret2
          exact ⟨by rw [HR.out]; rfl, K2.out.1⟩
        | false =>
          have HA3 := HA2 (by unfold okBox; rw [hg, hc]; rfl)
          rw [hc] at CC
          clear hg hc
          go_wp2_with (first
            | (go_at_call 31; refine (CG _).out.mono ?_; rintro e w2 ⟨rfl, h2⟩; have K2 := hide (HW.out w2 h2); have HB2 := hide ((HB.out.alloc (.cells #[.string (str f.1), .string (str f.2)] 79)).kept h2); have k0 := cell_of_row w2 wr.heap.size 0 _ _ _ K2.out.2; have k1 := cell_of_row w2 wr.heap.size 1 _ _ _ K2.out.2; clear h2)
            | (go_at_call 62; refine (CC _).out.mono ?_; rintro e w3 ⟨rfl, rfl⟩)
            | (go_at_call 110; refine (CW _ (HM.out _ K2.out.1)).out.mono ?_; rintro e w4 ⟨rfl, h4⟩; have HB4 := hide (HB2.out.kept h4); clear h4)
            | (at_builtin; go_must (refine wpList_strs rfl _ _ rfl w.heap.size u4 acc rfl w w4 (str (writeBoxL f.1 f.2)) HB4.out rfl HAL.out ?_; intro v5 w5 hb5; have HB5 := hide hb5; clear hb5)))
          go_roundw
          case rel => exact ⟨k + 1, by omega, by go_num, by rw [← HT.out]; exact HB5, HA3⟩
          case measure => simp [intOf]; omega
    · have hk2 : k = n := by omega
      subst hk2
      have hall : l.take k = l := by rw [← hnn, List.take_length]
      rw [hall] at HB HA
      have HR : Hid (writeAll l = (Lib.join (l.map wBox) [44, 32], 0)) := hide (by unfold writeAll; rw [HA.out]; rfl)
      have HJJ : Hid (Lib.join (((l.map wBox).map str).map (·.data.toList)) [44, 32] = Lib.join (l.map wBox) [44, 32]) := hide (by
        rw [List.map_map]
        congr 1
        exact (List.map_congr_left (fun x _ => rfl)).trans (List.map_id _))
      have hll : ((l.map wBox).map str).length = k := by rw [List.length_map, List.length_map]; exact hnn
      obtain ⟨acc, hacc⟩ : ∃ acc, (l.map wBox).map str = acc := ⟨_, rfl⟩
      rw [hacc] at HB HJJ hll
      clear hall hacc hlt
      rcases HB.out.form with ⟨rfl, h0⟩ | ⟨g, cp, rfl, hc1, hc2, hg1, hg2, hcell⟩
      · go_wp2_with (go_at_call 111; refine (Tryz.strings_Join_none _ _ _ _).mono ?_; rintro e w2 ⟨rfl, rfl⟩)
        go_ret2
        exact ⟨by rw [HR.out, ← HJJ.out, h0]; rfl, HB.out.below⟩
      · have HCL := hide hcell
        have HG2 := hide hg2
        have HC1 := hide hc1
        have HLN : Hid (acc.length ≤ 140737488355328) := hide (by omega)
        have HJ2 : Hid ((Lib.join (acc.map (·.data.toList)) (⟨#[44, 32]⟩ : ByteArray).data.toList).length ≤ 140737488355328) := hide (Nat.le_trans (Nat.le_of_eq (congrArg List.length HJJ.out)) HJ.out)
        clear hcell hg2 hc1 hc2 hg1 hll
        go_wp2_with (go_at_call 111; with_reducible refine (Tryz.strings_Join g 0 cp acc ⟨#[44, 32]⟩ _ HCL.out HG2.out HLN.out HC1.out HJ2.out).mono ?_; rintro e w2 ⟨rfl, hb2⟩; have HB6 := hide hb2; clear hb2)
        go_ret2
        refine ⟨?_, HB.out.below.trans (HB6.out.mono HB.out.2.2)⟩
        rw [HR.out]
        show Ending.returned (.tuple #[.string (str (Lib.join (acc.map (·.data.toList)) [44, 32])), .int .i64 0]) = _
        rw [HJJ.out]
end Go.Proofs.YtcmmbceacjechaaGreatDoor
