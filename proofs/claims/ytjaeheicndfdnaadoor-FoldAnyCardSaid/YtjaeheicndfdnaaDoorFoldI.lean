/- WALKS of the reference of layer 21: Open, Fold. No statement is proved here. Own work of the verifier. -/
import Derived.Test.YtjaeheicndfdnaaDoorFoldH
import Derived.Test.YtjaeheicndfdnaaDoorFoldZ
import Derived.Test.YtjaeheicndfdnaaDoorFoldQ
namespace Go.Proofs.YtjaeheicndfdnaaDoor
open Go.RowKit
set_option linter.unusedVariables false
set_option linter.unusedSimpArgs false
set_option maxRecDepth 100000
attribute [local go_sem] eqAttr
theorem newB_in {B : Nat} {w : World} {v : Value} {T : Tr} (h : NodesC (NewB B w) w v T) : NodesIn w v T := h.mono (fun _ _ => rfl) (fun b hb => hb.2)
/-- one node more behind a row -/
theorem push_ready {C : Nat → Prop} {B : Nat} {v va vk : Value} {ks : List KidV} {w : World} {h : NdH} {K : Tr} (hk : KRow C B v ks w) (hC : ∀ k, C k → k < w.heap.size) (hA : AttrsC (AwayB w v) w va h.attrs) (hN : NodesC (AwayB w v) w vk K) :
    KRow (AwayB (w.alloc (.cells #[.string (str h.name), va, .string (str h.text), vk] 32)) v) B v ks (w.alloc (.cells #[.string (str h.name), va, .string (str h.text), vk] 32)) ∧
    NodesC (AwayB (w.alloc (.cells #[.string (str h.name), va, .string (str h.text), vk] 32)) v) (w.alloc (.cells #[.string (str h.name), va, .string (str h.text), vk] 32)) (.slice (some ⟨w.heap.size, 0, none⟩) 1 1) (.cons h K .nil) := by
  obtain ⟨W, hW⟩ : ∃ W, W = w.alloc (.cells #[.string (str h.name), va, .string (str h.text), vk] 32) := ⟨_, rfl⟩
  rw [← hW]
  have hbW : Below w.heap.size w W := by rw [hW]; exact below_one w _
  have hzW : W.heap.size = w.heap.size + 1 := by rw [hW, World.size_alloc]
  have hblk : W.heap[w.heap.size]? = some (.cells #[.string (str h.name), va, .string (str h.text), vk] 32 (0, 0)) := by rw [hW]; exact heap_alloc_new w _
  have hown : ∀ k, v.ownBlock = some k → k < w.heap.size := fun k e => (hk.row.lt k e).2
  constructor
  · exact (hk.kept hC hbW).widen (fun b hb => ⟨by have := hC b hb; omega, fun e => hk.out b e hb⟩) (fun g e hg2 => hg2.2 e)
  · exact .inr ⟨⟨w.heap.size, 0, none⟩, 1, rfl, Nat.le_refl _, by decide, ⟨⟨by show w.heap.size < _; omega, fun e => by have h4 := hown _ e; simp only at h4; omega⟩, (Lib.cell_of_heap hblk 0).trans rfl, (Lib.cell_of_heap hblk 2).trans rfl, ⟨_, (Lib.cell_of_heap hblk 1).trans rfl, hA.mono (fun b hb => hbW.block b hb.1) (fun b hb => ⟨by have := hb.1; omega, hb.2⟩)⟩, ⟨_, (Lib.cell_of_heap hblk 3).trans rfl, hN.mono (fun b hb => hbW.block b hb.1) (fun b hb => ⟨by have := hb.1; omega, hb.2⟩)⟩, trivial⟩⟩
set_option maxHeartbeats 8000000 in
theorem open21_any (v : Value) (T : Tr) (w : World) (hT : NodesIn w v T) (hc : T.count ≤ 1000000) (ha : T.all attrsFew = true) :
    Calls Tryd.prog 17 #[v] w fun e w' => ∃ u, e = .returned u ∧ NodesIn w' u (openT T) ∧ Below w.heap.size w w' := by
  have hlen := Tr.len_count T
  have HCP := hide (copy14_any v T w hT hc ha)
  obtain ⟨A, c, rfl⟩ := NodesC.form hT
  by_cases h0 : T.len = 0
  · have hz : T = .nil := by cases T with | nil => rfl | cons _ _ _ => simp [Tr.len] at h0
    subst hz
    have hkl : Tr.len .nil = 0 := rfl
    rw [hkl] at HCP ⊢
    clear hT
    go_enter Tryd.func17, Tryd.ntmps17
    go_wp2_with fail
    refine HCP.out.mono ?_
    rintro e w1 ⟨u, rfl, hn, hb⟩
    have HN : Hid (NodesIn w1 u .nil) := hide (newB_in hn)
    have HB := hide hb
    clear hn hb
    go_wp2_with fail
    go_ret
    exact ⟨_, rfl, HN.out, HB.out⟩
  · obtain ⟨k, hk⟩ : ∃ k, T.len = k + 1 := ⟨T.len - 1, by omega⟩
    obtain ⟨⟨f, K⟩, hf⟩ : ∃ f, T.list[k]? = some f := ⟨_, List.getElem?_eq_getElem (by rw [Tr.len_list]; omega)⟩
    have HO : Hid (openT T = if isFoldN f = true then (Tr.of (T.list.take k)).app K else T) := hide (by
      unfold openT
      rw [List.getLast?_eq_getElem?, Tr.len_list, hk, Nat.add_sub_cancel, hf, List.dropLast_eq_take, Tr.len_list, hk, Nat.add_sub_cancel])
    have hk1 : k < 1000000 := by omega
    have HKL : Hid (K.len ≤ 1000000) := hide (by have h1 := Tr.len_count K; have h2 := Tr.at_count hf; omega)
    have HF := hide hf
    have HTL := hide hk
    rw [hk] at HCP ⊢
    clear hT hf ha h0 hk hlen
    go_enter Tryd.func17, Tryd.ntmps17
    go_wp2_with fail
    refine HCP.out.mono ?_
    rintro e w1 ⟨u, rfl, hn1, hb1⟩
    obtain ⟨A1, c1, rfl⟩ := NodesC.form hn1
    have hcap := NodesC.cap hn1
    obtain ⟨a, dd, x, y, zz, mm, hA, hab, p1, p2, hAt, p3, p4, hmm, hK⟩ := NodesC.at hn1 k f K HF.out
    subst hA hmm
    rw [HTL.out] at hn1 hcap ⊢
    obtain ⟨X, hX⟩ : ∃ X, X = str f.name := ⟨_, rfl⟩
    obtain ⟨Y, hY⟩ : ∃ X, X = str f.text := ⟨_, rfl⟩
    rw [← hX] at p1
    rw [← hY] at p3
    have hXL : X.toList = f.name := by rw [hX, str_list]
    have hbx := below_one w1 (Obj.cells #[.string X, .slice dd f.attrs.length y, .string Y, .slice x K.len zz] 32)
    have hn0 := newB_in hn1
    have HTK : Hid (NodesC (fun b => b < w1.heap.size) (w1.alloc (.cells #[.string X, .slice dd f.attrs.length y, .string Y, .slice x K.len zz] 32)) (.slice (some a) k c1) (Tr.of (T.list.take k))) := hide (NodesC.mono (nodes_take hn0 (by rw [HTL.out]; omega)) (fun b hb => hbx.block b hb) (fun _ x => x))
    have HKN : Hid (NodesIn w1 (.slice x K.len zz) K) := hide (newB_in hK)
    have HN1 : Hid (NodesIn (w1.alloc (.cells #[.string X, .slice dd f.attrs.length y, .string Y, .slice x K.len zz] 32)) (.slice (some a) (k + 1) c1) T) := hide (hn0.kept hbx)
    have HBX := hide hbx
    have HB2 := hide (bl_two hb1 hbx)
    have hA1 := (AttrsIn.kept (show AttrsIn w1 (.slice dd f.attrs.length y) f.attrs from hAt.1) hbx)
    have hblk := heap_alloc_new w1 (.cells #[.string X, .slice dd f.attrs.length y, .string Y, .slice x K.len zz] 32)
    have HD3 : Hid ((w1.alloc (.cells #[.string X, .slice dd f.attrs.length y, .string Y, .slice x K.len zz] 32)).cell? ⟨w1.heap.size, 3, none⟩ = some (.slice x K.len zz)) := hide ((Lib.cell_of_heap hblk 3).trans rfl)
    have HB1 := hide hb1
    unfold maxLen at hcap
    have hck : ¬ c1 = k := by omega
    have hkc : k ≤ c1 := by omega
    clear hn1 hb1 hK HCP hab hn0 hX hY hAt hblk hbx
    by_cases hn : f.name = [100, 105, 118]
    · have t0 : (X.toList == [100, 105, 118]) = true := by rw [hXL, hn]; rfl
      by_cases h1 : f.attrs.length = 1
      · obtain ⟨q, hq⟩ : ∃ q, f.attrs = [q] := List.length_eq_one_iff.1 h1
        obtain ⟨b, hb, r1, r2⟩ := hA1.at 0 q (by rw [hq]; rfl)
        subst hb
        obtain ⟨P, hP⟩ : ∃ X, X = str q.1 := ⟨_, rfl⟩
        obtain ⟨Q, hQ⟩ : ∃ X, X = str q.2 := ⟨_, rfl⟩
        rw [← hP] at r1
        rw [← hQ] at r2
        have hF : (P.toList == [116, 105, 116, 108, 101] && Q.toList == [113, 117, 111, 116, 101, 100]) = isFoldN f := by
          unfold isFoldN
          rw [decide_eq_true hn, Bool.true_and, hP, hQ, str_list, str_list, hq]
          obtain ⟨q1, q2⟩ := q
          simp only [name_eq]
          rw [← Bool.decide_and]
          congr 1
          simp
        rw [Nat.zero_mul, Addr.add_zero'] at r1 r2
        rw [h1] at p2 HTK HN1 HBX HB2 HD3 r1 r2
        clear hP hQ hq hA1 hXL h1
        cases hfn : isFoldN f with
        | true =>
          rw [hfn] at hF
          obtain ⟨e1, e2⟩ := Bool.and_eq_true_iff.1 hF
          have hOT : openT T = (Tr.of (T.list.take k)).app K := by rw [HO.out, if_pos hfn]
          have HOT := hide hOT
          clear hF hfn hOT
          have ltk : (Tr.of (T.list.take k)).len = k := by rw [Tr.len_of, List.length_take, Tr.len_list, HTL.out]; omega
          have HLK := hide ltk
          clear ltk
          go_wp2_with (first
            | (refine wpList_nodes rfl _ _ rfl (fun b => b < w1.heap.size) w1.heap.size (.slice none 0 0) [] rfl (KRow.nil _ _ _) (fun k hk => Nat.lt_of_lt_of_le hk HBX.out.size) HBX.out.size _ rfl (Tr.of (T.list.take k)) HTK.out (by rw [HLK.out]; simp only [List.length_nil]; omega) ?_
               intro v' qs w3 hk' he' hg' hor'
               rw [List.nil_append] at hk'
               obtain ⟨A3, c3, hv3, _⟩ := hk'.slice
               subst hv3
               have hb3 : Below w1.heap.size w1 w3 := HBX.out.grown hg' HBX.out.size (fun k e => by simp [Value.ownBlock] at e)
               have q3 : w3.cell? ⟨w1.heap.size, 3, none⟩ = some (.slice x K.len zz) := (World.cell?_of_block (hg'.block w1.heap.size (World.block_lt_of_cell? _ _ HD3.out) (by simp [Value.ownBlock]))).trans HD3.out
               have HK3 := hide hk'
               have HE3 : Hid (qs.map Prod.fst = T.list.take k) := hide (by rw [he', Tr.list_of])
               have HB3 := hide hb3
               have HKN3 : Hid (NodesC (fun b => b < w1.heap.size) w3 (.slice x K.len zz) K) := hide (NodesC.mono HKN.out (fun b hb => hb3.block b hb) (fun _ x => x))
               have HQL : Hid (qs.length = k) := hide (by have h1 := congrArg List.length HE3.out; rw [List.length_map, List.length_take, Tr.len_list, HTL.out] at h1; omega)
               clear hk' he' hg' hor' hb3)
            | (refine wpList_nodes rfl _ _ rfl (fun b => b < w1.heap.size) w1.heap.size (.slice A3 qs.length c3) qs rfl HK3.out (fun k hk => Nat.lt_of_lt_of_le hk HB3.out.size) HB3.out.size _ rfl K HKN3.out (by have h1 := HQL.out; have h2 := HKL.out; omega) ?_
               intro v' qs4 w4 hk' he' hg' hor'
               obtain ⟨A4, c4, hv4, _⟩ := hk'.slice
               subst hv4
               have HK4 := hide hk'
               have HE4 := hide he'
               have HB4 := hide (HB3.out.grown hg' HB3.out.size (fun k e => (HK3.out.row.lt k e).1))
               clear hk' he' hg' hor'))
          go_ret
          refine ⟨_, rfl, ?_, bl_two HB1.out HB4.out⟩
          have h := KRow.nodes (C' := fun b => b < w4.heap.size) HK4.out (fun b hb => Nat.lt_of_lt_of_le hb HB4.out.size) (fun k e => (HK4.out.row.lt k e).2)
          have e : Tr.of ((qs ++ qs4).map Prod.fst) = openT T := by
            rw [HOT.out]
            apply Tr.list_inj
            rw [Tr.list_of, List.map_append, HE3.out, HE4.out, Tr.list_app, Tr.list_of]
          rw [e] at h
          rw [List.length_append] at h
          exact h
        | false =>
          rw [hfn] at hF
          have HOT : Hid (openT T = T) := hide (by rw [HO.out, hfn]; rfl)
          have HF2 := hide hF
          clear hF hfn
          go_wp2_with fail
          all_goals first | (go_ret; exact ⟨_, rfl, by rw [HOT.out]; exact HN1.out, HB2.out⟩) | skip
          all_goals (have hF2 := HF2.out; simp_all)
      · have t1 : ((f.attrs.length : Int) == 1) = false := by rw [beq_eq_false_iff_ne]; omega
        have t2 : ((f.attrs.length : Int) != 1) = true := by rw [bne, t1]; rfl
        have HOT : Hid (openT T = T) := hide (by
          rw [HO.out, if_neg]
          unfold isFoldN
          intro e
          exact h1 (by rw [of_decide_eq_true (Bool.and_eq_true_iff.1 e).2]; rfl))
        clear hA1 hXL
        go_wp2_with fail
        go_ret
        exact ⟨_, rfl, by rw [HOT.out]; exact HN1.out, HB2.out⟩
    · have t0 : (X.toList == [100, 105, 118]) = false := by rw [hXL, name_eq]; exact decide_eq_false hn
      have HOT : Hid (openT T = T) := hide (by
        rw [HO.out, if_neg]
        unfold isFoldN
        intro e
        exact hn (of_decide_eq_true (Bool.and_eq_true_iff.1 e).1))
      clear hA1 hXL
      go_wp2_with fail
      go_ret
      exact ⟨_, rfl, by rw [HOT.out]; exact HN1.out, HB2.out⟩
end Go.Proofs.YtjaeheicndfdnaaDoor
