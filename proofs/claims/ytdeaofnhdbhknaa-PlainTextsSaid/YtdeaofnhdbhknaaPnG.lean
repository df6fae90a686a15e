/- WALK of plain.Tree. No statement is proved here. Own work of the verifier. -/
import Derived.Test.YtdeaofnhdbhknaaPnF
import Derived.Test.YtdeaofnhdbhknaaLinesC
namespace Go.Proofs.Ytdeaofnhdbhknaa
open Go.RowKit
set_option linter.unusedVariables false
set_option linter.unusedSimpArgs false
set_option maxRecDepth 100000
theorem cutL_size (l : List UInt8) : ∀ x ∈ cutL l, x.length ≤ l.length := fun x hx => by
  have h := (cutL_sizes l).2
  have h2 : ∀ (L : List (List UInt8)), x ∈ L → x.length ≤ (L.map List.length).sum := fun L hL => by
    induction L with
    | nil => cases hL
    | cons y r ih =>
      simp only [List.map_cons, List.sum_cons]
      rcases List.mem_cons.1 hL with rfl | hL
      · omega
      · have := ih hL; omega
  exact Nat.le_trans (h2 _ hx) h
set_option maxHeartbeats 2000000 in
theorem plainTree_any (s : ByteArray) (w : World) (hs : s.size ≤ 1000000) :
    Calls Try.prog 13 #[.string s] w fun e w' => ∃ u, e = .returned u ∧ NodesC (FreshB w.heap.size w') w' u (plainP s.data.toList) ∧ Below w.heap.size w w' := by
  obtain ⟨q1, q2⟩ := cutL_sizes s.data.toList
  rw [toList_length] at q1 q2
  have HQ3 := hide (cutL_size s.data.toList)
  obtain ⟨L, hL⟩ : ∃ L, L = cutL s.data.toList := ⟨_, rfl⟩
  have HC := hide (cut_any06 s (by omega) w)
  rw [← hL] at q1 q2 HQ3 HC
  have HPL : Hid (plainP s.data.toList = treeP (L.map levelL)) := hide (by rw [hL]; rfl)
  have HQ2 := hide q2
  clear q2 hL
  go_enter Try.func13, Try.ntmps13
  go_wp2_with fail
  refine HC.out.mono ?_
  rintro e w1 ⟨v1, rfl, hb1⟩
  have HB1 := hide hb1
  obtain ⟨A0, c0, rfl⟩ := hb1.slice_len
  have hform := hb1.form
  have HF := hide hform
  rw [List.length_map]
  have HL0 : Hid (L.length ≤ 1000000) := hide (by omega)
  clear hb1 HC hform
  go_wp2_with fail
  go_loopw [3, 11] (fun ov i wr => ∃ (k : Nat) (A1 : Option Addr) (c1 : Nat), k ≤ L.length ∧ i = .int .i64 k ∧ ov = .slice A1 k c1 ∧ Hid (LnRow w1.heap.size (.slice A1 k c1) ((L.map levelL).take k) wr) ∧ Hid (Below w1.heap.size w1 wr)) (fun _ i _ => L.length - (intOf i).toNat)
  case atStart => exact ⟨0, none, 0, Nat.zero_le _, rfl, rfl, hide (World.ownsRow_nil _ _ _ 2), hide (Below.refl _ _)⟩
  case round =>
    obtain ⟨k, A1, c1, hk, rfl, rfl, HR, HB⟩ := hrel
    by_cases hlt : k < L.length
    · obtain ⟨x, hx⟩ : ∃ x, L[k]? = some x := ⟨_, List.getElem?_eq_getElem hlt⟩
      have hxl : x.length ≤ s.size := by
        have := HQ3.out x (List.mem_of_getElem? hx); rw [toList_length] at this; exact this
      obtain ⟨g, rfl, hcell⟩ : ∃ g, A0 = some ⟨g, 0, none⟩ ∧ w1.cell? ⟨g, k, none⟩ = some (.string (str x)) := by
        rcases HF.out with ⟨_, h⟩ | ⟨g, cap, h1, _, _, _, _, h6⟩
        · have := congrArg List.length h; rw [List.length_map, List.length_nil] at this; omega
        · injection h1 with h1 _ _
          refine ⟨g, h1, ?_⟩
          have := h6 k (str x) (by rw [List.getElem?_map, hx]; rfl)
          rw [Nat.zero_add] at this; exact this
      have hc1 : wr.cell? ⟨g, k, none⟩ = some (.string (str x)) := (HB.out.cell (World.block_lt_of_cell? _ _ hcell)).trans hcell
      have HV := hide (level_any (str x) wr (by rw [str_size]; omega))
      rw [str_toList] at HV
      have HN : Hid ((L.map levelL).take k ++ [levelL x] = (L.map levelL).take (k + 1)) := hide (by rw [List.take_add_one, List.getElem?_map, hx]; rfl)
      have HTK : Hid (((L.map levelL).take k).length = k) := hide (by rw [List.length_take, List.length_map]; omega)
      obtain ⟨p, hp⟩ : ∃ p, p = levelL x := ⟨_, rfl⟩
      rw [← hp] at HV HN
      unfold levelV at HV
      have HSZ : Hid (w1.heap.size ≤ wr.heap.size) := hide HB.out.size
      clear hx hxl hcell hp
      go_wp2_with fail
      refine HV.out.mono ?_
      rintro e w2 ⟨rfl, rfl⟩
      go_wp2_with (
        refine wpList_lns rfl _ _ rfl w1.heap.size (.slice A1 k c1) ((L.map levelL).take k) rfl p (HR.out.alloc _) (Nat.le_trans HSZ.out (below_one w2 _).size) _ rfl (two_ln _ _ _ _).1 (two_ln _ _ _ _).2 (by rw [HTK.out]; have := HL0.out; omega) ?_
        intro v' w3 hO' hg' hor'
        have hB3 : Below w1.heap.size w1 w3 := (HB.out.trans ((below_one w2 _).mono HSZ.out)).grown hg' (Nat.le_trans HSZ.out (below_one w2 _).size) (fun k e => (World.ownsRow.lt HR.out k e).1)
        obtain ⟨A3, c3, rfl⟩ : ∃ A3 c3, v' = .slice A3 (k + 1) c3 := by
          obtain ⟨A, c, h⟩ := (LnRow.in hO').form
          rw [h, List.length_append, HTK.out]; exact ⟨_, _, rfl⟩
        rw [HN.out] at hO'
        have HO3 := hide hO'
        have HB3 := hide hB3
        clear hO' hg' hor' hB3)
      go_roundw
      case rel => exact ⟨k + 1, A3, c3, by omega, by go_num, rfl, HO3, HB3⟩
      case measure => simp [intOf]; omega
    · obtain rfl : k = L.length := by omega
      have HR2 := HR.out
      rw [List.take_of_length_le (by rw [List.length_map]; exact Nat.le_refl _)] at HR2
      have HG := hide (nodes_any (.slice A1 L.length c1) (L.map levelL) wr (by rw [List.length_map]; exact HL0.out) (fun p hp => by obtain ⟨x, _, rfl⟩ := List.mem_map.1 hp; exact (levelL_le x).1) HR2.in)
      have HB2 : Hid (Below w.heap.size w wr) := hide (HB1.out.below.trans (HB.out.mono HB1.out.2.2))
      clear HR2
      go_wp2_with fail
      refine HG.out.mono ?_
      rintro e w2 ⟨u, rfl, hn, hb2⟩
      have HN2 : Hid (NodesC (FreshB w.heap.size w2) w2 u (treeP (L.map levelL))) := hide (FreshB.up hn HB2.out.size)
      have HB3 := hide (bl_two HB2.out hb2)
      clear hn hb2
      go_wp2_with fail
      go_ret
      exact ⟨_, rfl, by rw [HPL.out]; exact HN2.out, HB3.out⟩
end Go.Proofs.Ytdeaofnhdbhknaa
