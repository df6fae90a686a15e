/- WALK of the law FoldMore. No statement is proved here. Own work of the verifier. Written by wip/tools/foldlaws.py. -/
import Derived.Test.YtjaeheicndfdnaaDoorFoldL
import Derived.Test.YtjaeheicndfdnaaDoorFoldN
import Derived.Test.YtjaeheicndfdnaaDoorFoldV
namespace Go.Proofs.YtjaeheicndfdnaaDoor
open Go.RowKit
set_option linter.unusedVariables false
set_option linter.unusedSimpArgs false
set_option maxRecDepth 100000
theorem krow_push {C : Nat → Prop} {B : Nat} {v : Value} {ks : List KidV} {w : World} (hk : KRow C B v ks w) (hC : ∀ k, C k → k < w.heap.size) (hB : B ≤ w.heap.size) (h : NdH) (ha : h.attrs = []) :
    KRow (AwayB (w.alloc (.cells #[.string (str h.name), .slice none 0 0, .string (str h.text), .slice none 0 0] 32)) v) B v ks (w.alloc (.cells #[.string (str h.name), .slice none 0 0, .string (str h.text), .slice none 0 0] 32)) ∧
    NodesC (AwayB (w.alloc (.cells #[.string (str h.name), .slice none 0 0, .string (str h.text), .slice none 0 0] 32)) v) (w.alloc (.cells #[.string (str h.name), .slice none 0 0, .string (str h.text), .slice none 0 0] 32)) (.slice (some ⟨w.heap.size, 0, none⟩) 1 1) (.cons h .nil .nil) := by
  obtain ⟨W, hW⟩ : ∃ W, W = w.alloc (.cells #[.string (str h.name), .slice none 0 0, .string (str h.text), .slice none 0 0] 32) := ⟨_, rfl⟩
  rw [← hW]
  have hbW : Below w.heap.size w W := by rw [hW]; exact below_one w _
  have hzW : W.heap.size = w.heap.size + 1 := by rw [hW, World.size_alloc]
  have hblk : W.heap[w.heap.size]? = some (.cells #[.string (str h.name), .slice none 0 0, .string (str h.text), .slice none 0 0] 32 (0, 0)) := by rw [hW]; exact heap_alloc_new w _
  have hown : ∀ k, v.ownBlock = some k → k < w.heap.size := fun k e => (hk.row.lt k e).2
  constructor
  · exact (hk.kept hC hbW).widen (fun b hb => ⟨by have := hC b hb; omega, fun e => hk.out b e hb⟩) (fun g e hg2 => hg2.2 e)
  · refine .inr ⟨⟨w.heap.size, 0, none⟩, 1, rfl, Nat.le_refl _, by decide, ⟨⟨by show w.heap.size < _; omega, fun e => by have h4 := hown _ e; simp only at h4; omega⟩, (Lib.cell_of_heap hblk 0).trans rfl, (Lib.cell_of_heap hblk 2).trans rfl, ⟨_, (Lib.cell_of_heap hblk 1).trans rfl, ?_⟩, ⟨_, (Lib.cell_of_heap hblk 3).trans rfl, .inl ⟨rfl, rfl⟩⟩, trivial⟩⟩
    rw [ha]
    exact ⟨.inl ⟨rfl, rfl⟩, fun a n c e _ => by cases e⟩
def moreT (T : Tr) : Tr := T.app (.cons quoteE .nil (.cons brE .nil .nil))
def moreX (T : Tr) : Tr := (moreT T).app (.cons xE .nil .nil)
theorem more_d (T : Tr) : dOf (moreT T) = dOf T ++ [quoteE, brE] := by
  unfold dOf moreT
  rw [Tr.list_app, List.map_append]; rfl
theorem more_dx (T : Tr) : dOf (moreX T) = dOf (moreT T) ++ [xE] := by
  show (moreX T).list.map Prod.fst = (moreT T).list.map Prod.fst ++ [xE]
  unfold moreX
  rw [Tr.list_app, List.map_append]; rfl
theorem more_count (T : Tr) : (moreT T).count = T.count + 2 ∧ (moreX T).count = T.count + 3 := by
  unfold moreX moreT
  constructor <;> simp only [app_count, Tr.count] <;> try omega
theorem more_small {T : Tr} (ha : T.all smallH = true) : (moreT T).all smallH = true ∧ (moreX T).all smallH = true := by
  unfold moreX moreT
  rw [app_all, app_all, app_all, ha]
  decide
set_option maxHeartbeats 8000000 in
theorem law_FoldMore (v : Value) (T : Tr) {w : World} (hT : NodesIn w v T) (hU : Utf8T w) :
    Calls Tryd.prog 7 #[v] w fun e w' => e = .returned (.bool true) ∧ Below w.heap.size w w' := by
  obtain ⟨A, c, rfl⟩ := NodesC.form hT
  have hm := (NodesC.cap hT)
  have HSM := hide (small14_any _ T w hT (Nat.le_trans hm.2.1 hm.2.2))
  have HU := hide hU
  have HT := hide hT
  clear hU hm hT
  have HW : Hid (∀ u U w', NodesIn w' u U → Below w.heap.size w w' → U.count ≤ 100 → U.all smallH = true → Calls Tryd.prog 11 #[u] w' fun e w'' => e = .returned (.tuple #[.int .i64 ((whereP (dOf U)).1 : Int), .bool (whereP (dOf U)).2]) ∧ Below w'.heap.size w' w'') := hide (fun u U w' hu hb hc ha => where_any u U w' hu (utf8_kept HU.out hb) (by have := Tr.len_count U; omega) (small_text ha))
  have HF : Hid (∀ u U w', NodesIn w' u U → Below w.heap.size w w' → U.count ≤ 100 → U.all smallH = true → Calls Tryd.prog 14 #[u] w' fun e w'' => ∃ u', e = .returned u' ∧ NodesIn w'' u' (foldT U) ∧ Below w'.heap.size w' w'') := hide (fun u U w' hu hb hc ha => fold_any u U w' hu (utf8_kept HU.out hb) (by omega) (small_few ha) (small_text ha))
  have HO : Hid (∀ u U w', NodesIn w' u U → Below w.heap.size w w' → U.count ≤ 100 → U.all smallH = true → Calls Tryd.prog 16 #[u] w' fun e w'' => ∃ u', e = .returned u' ∧ NodesIn w'' u' (openT U) ∧ Below w'.heap.size w' w'') := hide (fun u U w' hu hb hc ha => open_any u U w' hu (by omega) (small_few ha))
  have HS : Hid (∀ u1 u2 U w', NodesIn w' u1 U → NodesIn w' u2 U → Below w.heap.size w w' → U.count ≤ 100 → U.all smallH = true → Calls Tryd.prog 13 #[u1, u2] w' fun e w'' => e = .returned (.bool true) ∧ Below w'.heap.size w' w'') := hide (fun u1 u2 U w' h1 h2 hb hc ha => by
    refine (same14_any u1 u2 U U w' (by omega) h1 h2 (small_few ha)).mono ?_
    rintro e w2 ⟨rfl, m, rfl⟩
    exact ⟨by rw [decide_eq_true rfl], below_of13 ⟨m, rfl⟩⟩)
  have HL : Hid (∀ w', Below w.heap.size w w' → Calls Tryd.prog 9 #[] w' fun e w'' => e = .returned (.bool true) ∧ Below w.heap.size w w'') := hide (fun w' hb => (live21_any w' (utf8_kept HU.out hb)).mono (fun e w'' h => ⟨h.1, bl_two hb h.2⟩))
  go_enter Tryd.func7, Tryd.ntmps7
  go_wp2_with fail
  refine HSM.out.mono ?_
  rintro e w1 ⟨b, rfl, hs, hb1⟩
  have HB1 := hide hb1
  have HT1 := hide (HT.out.kept hb1)
  clear hb1
  cases b with
  | false =>
    clear hs
    go_wp2_with fail
    refine (HL.out _ HB1.out).mono ?_
    rintro e wl ⟨rfl, hbl⟩
    have HBL := hide hbl
    clear hbl
    go_wp2_with fail
    go_ret
    exact ⟨rfl, HBL.out⟩
  | true =>
  obtain ⟨hc, ha⟩ := hs rfl
  have HC : Hid (T.count ≤ 100) := hide (by omega)
  have HC6 := hide hc
  have HA := hide ha
  clear hc ha hs
  obtain ⟨⟨p, is⟩, hp⟩ : ∃ x, whereP (dOf T) = x := ⟨_, rfl⟩
  have HP := hide hp
  go_wp2_with fail
  refine (HW.out _ T _ HT1.out HB1.out HC.out HA.out).mono ?_
  rintro e w2 ⟨rfl, hbx⟩
  have HB2 := hide (bl_two HB1.out hbx)
  have HT2 : Hid (NodesC (fun b => b < w2.heap.size) w2 (.slice A T.len c) T) := hide (HT1.out.kept hbx)
  have HK0 : Hid (KRow (fun b => b < w2.heap.size) w2.heap.size (.slice none 0 0) [] w2) := hide (KRow.nil _ _ _)
  have HLT : Hid (T.len ≤ 60) := hide (by have := Tr.len_count T; have := HC6.out; omega)
  clear hbx
  rw [hp]
  clear hp
  go_wp2_with (first
            | (refine wpList_nodes rfl _ _ rfl _ w2.heap.size (.slice none 0 0) [] rfl HK0.out (fun k hk => hk) (Nat.le_refl _) _ rfl T HT2.out (by have := HLT.out; simp only [List.length_nil]; omega) ?_
               intro v' qs w3 hk' he' hg' hor'
               rw [List.nil_append] at hk'
               obtain ⟨A1, c1, hv1, _⟩ := hk'.slice
               subst hv1
               have HK1 := hide hk'
               have HE1 := hide he'
               have HQ1 : Hid (Below w2.heap.size w2 w3) := hide ((Below.refl _ w2).grown hg' (Nat.le_refl _) (fun k e => (HK0.out.row.lt k e).1))
               have HQ1C : Hid (w2.heap.size ≤ w3.heap.size) := hide (HQ1.out.size)
               clear hk' he' hg' hor')
            | (skip
               have hp2 := krow_push HK1.out (fun k hk => Nat.lt_of_lt_of_le hk HQ1.out.size) HQ1.out.size quoteE rfl
               have HP2 : Hid (KRow (AwayB (w3.alloc (.cells #[.string ⟨#[98, 108, 111, 99, 107, 113, 117, 111, 116, 101]⟩, .slice none 0 0, .string ⟨#[]⟩, .slice none 0 0] 32)) (.slice A1 (qs).length c1)) w2.heap.size (.slice A1 (qs).length c1) (qs) (w3.alloc (.cells #[.string ⟨#[98, 108, 111, 99, 107, 113, 117, 111, 116, 101]⟩, .slice none 0 0, .string ⟨#[]⟩, .slice none 0 0] 32)) ∧ NodesC (AwayB (w3.alloc (.cells #[.string ⟨#[98, 108, 111, 99, 107, 113, 117, 111, 116, 101]⟩, .slice none 0 0, .string ⟨#[]⟩, .slice none 0 0] 32)) (.slice A1 (qs).length c1)) (w3.alloc (.cells #[.string ⟨#[98, 108, 111, 99, 107, 113, 117, 111, 116, 101]⟩, .slice none 0 0, .string ⟨#[]⟩, .slice none 0 0] 32)) (.slice (some ⟨w3.heap.size, 0, none⟩) 1 1) (.cons quoteE .nil .nil)) := hide hp2
               have HW2 : Hid (Below w2.heap.size w2 (w3.alloc (.cells #[.string ⟨#[98, 108, 111, 99, 107, 113, 117, 111, 116, 101]⟩, .slice none 0 0, .string ⟨#[]⟩, .slice none 0 0] 32))) := hide (HQ1.out.trans ((below_one w3 _).mono HQ1.out.size))
               have HLN2 : Hid ((qs).length + Tr.len (.cons quoteE .nil .nil) ≤ 1073741824) := hide (by
                 have h1 := HLT.out
                 have h2 := Tr.len_list T
                 have h3 := congrArg List.length HE1.out
                 simp only [List.length_append, List.length_map, List.length_cons, List.length_nil] at h3
                 simp only [Tr.len]
                 omega)
               clear hp2
               refine wpList_nodes rfl _ _ rfl _ w2.heap.size (.slice A1 (qs).length c1) (qs) rfl HP2.out.1 (fun k hk => hk.1) HW2.out.size _ rfl (.cons quoteE .nil .nil) HP2.out.2 HLN2.out ?_
               intro v' qs2 w4 hk' he' hg' hor'
               obtain ⟨k2, hkk⟩ : ∃ k, k = qs ++ qs2 := ⟨_, rfl⟩
               rw [← hkk] at hk'
               obtain ⟨A2, c2, hv2, _⟩ := hk'.slice
               subst hv2
               have HK2 := hide hk'
               have HE2 : Hid (k2.map Prod.fst = T.list ++ [(quoteE, Tr.nil)]) := hide (by
                 rw [hkk, List.map_append, HE1.out, he']
                 try rw [List.append_assoc]
                 rfl)
               have HQ2 : Hid (Below w2.heap.size w2 w4) := hide (HW2.out.grown hg' HW2.out.size (fun k e => (HP2.out.1.row.lt k e).1))
               have HG2 : Hid ((w3.alloc (.cells #[.string ⟨#[98, 108, 111, 99, 107, 113, 117, 111, 116, 101]⟩, .slice none 0 0, .string ⟨#[]⟩, .slice none 0 0] 32)).heap.size ≤ w4.heap.size) := hide hg'.size
               clear hk' he' hg' hor' hkk)
            | (skip
               have hp3 := krow_push HK2.out (fun k hk => Nat.lt_of_lt_of_le hk.1 HG2.out) HQ2.out.size brE rfl
               have HP3 : Hid (KRow (AwayB (w4.alloc (.cells #[.string ⟨#[98, 114]⟩, .slice none 0 0, .string ⟨#[]⟩, .slice none 0 0] 32)) (.slice A2 (k2).length c2)) w2.heap.size (.slice A2 (k2).length c2) (k2) (w4.alloc (.cells #[.string ⟨#[98, 114]⟩, .slice none 0 0, .string ⟨#[]⟩, .slice none 0 0] 32)) ∧ NodesC (AwayB (w4.alloc (.cells #[.string ⟨#[98, 114]⟩, .slice none 0 0, .string ⟨#[]⟩, .slice none 0 0] 32)) (.slice A2 (k2).length c2)) (w4.alloc (.cells #[.string ⟨#[98, 114]⟩, .slice none 0 0, .string ⟨#[]⟩, .slice none 0 0] 32)) (.slice (some ⟨w4.heap.size, 0, none⟩) 1 1) (.cons brE .nil .nil)) := hide hp3
               have HW3 : Hid (Below w2.heap.size w2 (w4.alloc (.cells #[.string ⟨#[98, 114]⟩, .slice none 0 0, .string ⟨#[]⟩, .slice none 0 0] 32))) := hide (HQ2.out.trans ((below_one w4 _).mono HQ2.out.size))
               have HLN3 : Hid ((k2).length + Tr.len (.cons brE .nil .nil) ≤ 1073741824) := hide (by
                 have h1 := HLT.out
                 have h2 := Tr.len_list T
                 have h3 := congrArg List.length HE2.out
                 simp only [List.length_append, List.length_map, List.length_cons, List.length_nil] at h3
                 simp only [Tr.len]
                 omega)
               clear hp3
               refine wpList_nodes rfl _ _ rfl _ w2.heap.size (.slice A2 (k2).length c2) (k2) rfl HP3.out.1 (fun k hk => hk.1) HW3.out.size _ rfl (.cons brE .nil .nil) HP3.out.2 HLN3.out ?_
               intro v' qs3 w5 hk' he' hg' hor'
               obtain ⟨k3, hkk⟩ : ∃ k, k = k2 ++ qs3 := ⟨_, rfl⟩
               rw [← hkk] at hk'
               obtain ⟨A3, c3, hv3, _⟩ := hk'.slice
               subst hv3
               have HK3 := hide hk'
               have HE3 : Hid (k3.map Prod.fst = T.list ++ [(quoteE, Tr.nil), (brE, Tr.nil)]) := hide (by
                 rw [hkk, List.map_append, HE2.out, he']
                 try rw [List.append_assoc]
                 rfl)
               have HQ3 : Hid (Below w2.heap.size w2 w5) := hide (HW3.out.grown hg' HW3.out.size (fun k e => (HP3.out.1.row.lt k e).1))
               have HG3 : Hid ((w4.alloc (.cells #[.string ⟨#[98, 114]⟩, .slice none 0 0, .string ⟨#[]⟩, .slice none 0 0] 32)).heap.size ≤ w5.heap.size) := hide hg'.size
               clear hk' he' hg' hor' hkk))
  have HN3 : Hid (NodesIn w5 (.slice A3 k3.length c3) (moreT T)) := hide (by
    have h := KRow.nodes (C' := fun b => b < w5.heap.size) HK3.out (fun b hb => Nat.lt_of_lt_of_le hb.1 HG3.out) (fun k e => (HK3.out.row.lt k e).2)
    rw [HE3.out] at h
    have e : Tr.of (T.list ++ [(quoteE, Tr.nil), (brE, Tr.nil)]) = moreT T := by
      apply Tr.list_inj
      rw [Tr.list_of]
      unfold moreT
      rw [Tr.list_app]; rfl
    rw [e] at h
    exact h)
  have HB5 := hide (bl_two HB2.out HQ3.out)
  have HC5 : Hid ((moreT T).count ≤ 100 ∧ (moreX T).count ≤ 100) := hide (by have h1 := more_count T; have h2 := HC6.out; omega)
  have HA5 := hide (more_small HA.out)
  refine (HW.out _ (moreT T) _ HN3.out HB5.out HC5.out.1 HA5.out.1).mono ?_
  rintro e w6 ⟨rfl, hbx⟩
  have HQ6 : Hid (Below w2.heap.size w2 w6) := hide (HQ3.out.trans (hbx.mono HQ3.out.size))
  have HK6 := hide (HK3.out.kept (fun k hk => Nat.lt_of_lt_of_le hk.1 HG3.out) hbx)
  have HS6 := hide hbx.size
  clear hbx HN3 HK1 HK2 HK3 HP2 HP3 HW2 HW3 HLN2 HLN3
  rw [more_d]
  obtain ⟨⟨k, now⟩, hq⟩ : ∃ x, whereP (dOf T ++ [quoteE, brE]) = x := ⟨_, rfl⟩
  have HE6 : Hid (is = true → k = p ∧ now = true) := hide (fun e => by
    subst e
    rw [whereP_more HP.out] at hq
    injection hq with e1 e2
    exact ⟨e1.symm, e2.symm⟩)
  rw [hq]
  clear hq
  cases is with
  | true =>
    obtain ⟨rfl, rfl⟩ := HE6.out rfl
    go_wp2_with (skip
                 have hp4 := krow_push HK6.out (fun k hk => Nat.lt_of_lt_of_le (Nat.lt_of_lt_of_le hk.1 HG3.out) HS6.out) HQ6.out.size xE rfl
                 have HP4 : Hid (KRow (AwayB (w6.alloc (.cells #[.string ⟨#[]⟩, .slice none 0 0, .string ⟨#[120]⟩, .slice none 0 0] 32)) (.slice A3 (k3).length c3)) w2.heap.size (.slice A3 (k3).length c3) (k3) (w6.alloc (.cells #[.string ⟨#[]⟩, .slice none 0 0, .string ⟨#[120]⟩, .slice none 0 0] 32)) ∧ NodesC (AwayB (w6.alloc (.cells #[.string ⟨#[]⟩, .slice none 0 0, .string ⟨#[120]⟩, .slice none 0 0] 32)) (.slice A3 (k3).length c3)) (w6.alloc (.cells #[.string ⟨#[]⟩, .slice none 0 0, .string ⟨#[120]⟩, .slice none 0 0] 32)) (.slice (some ⟨w6.heap.size, 0, none⟩) 1 1) (.cons xE .nil .nil)) := hide hp4
                 have HW4 : Hid (Below w2.heap.size w2 (w6.alloc (.cells #[.string ⟨#[]⟩, .slice none 0 0, .string ⟨#[120]⟩, .slice none 0 0] 32))) := hide (HQ6.out.trans ((below_one w6 _).mono HQ6.out.size))
                 have HLN4 : Hid ((k3).length + Tr.len (.cons xE .nil .nil) ≤ 1073741824) := hide (by
                   have h1 := HLT.out
                   have h2 := Tr.len_list T
                   have h3 := congrArg List.length HE3.out
                   simp only [List.length_append, List.length_map, List.length_cons, List.length_nil] at h3
                   simp only [Tr.len]
                   omega)
                 clear hp4
                 refine wpList_nodes rfl _ _ rfl _ w2.heap.size (.slice A3 (k3).length c3) (k3) rfl HP4.out.1 (fun k hk => hk.1) HW4.out.size _ rfl (.cons xE .nil .nil) HP4.out.2 HLN4.out ?_
                 intro v' qs4 w7 hk' he' hg' hor'
                 obtain ⟨k4, hkk⟩ : ∃ k, k = k3 ++ qs4 := ⟨_, rfl⟩
                 rw [← hkk] at hk'
                 obtain ⟨A4, c4, hv4, _⟩ := hk'.slice
                 subst hv4
                 have HK4 := hide hk'
                 have HE4 : Hid (k4.map Prod.fst = T.list ++ [(quoteE, Tr.nil), (brE, Tr.nil), (xE, Tr.nil)]) := hide (by
                   rw [hkk, List.map_append, HE3.out, he']
                   try rw [List.append_assoc]
                   rfl)
                 have HQ4 : Hid (Below w2.heap.size w2 w7) := hide (HW4.out.grown hg' HW4.out.size (fun k e => (HP4.out.1.row.lt k e).1))
                 have HG4 : Hid ((w6.alloc (.cells #[.string ⟨#[]⟩, .slice none 0 0, .string ⟨#[120]⟩, .slice none 0 0] 32)).heap.size ≤ w7.heap.size) := hide hg'.size
                 clear hk' he' hg' hor' hkk)
    have HN7 : Hid (NodesIn w7 (.slice A4 k4.length c4) (moreX T)) := hide (by
      have h := KRow.nodes (C' := fun b => b < w7.heap.size) HK4.out (fun b hb => Nat.lt_of_lt_of_le hb.1 HG4.out) (fun k e => (HK4.out.row.lt k e).2)
      rw [HE4.out] at h
      have e : Tr.of (T.list ++ [(quoteE, Tr.nil), (brE, Tr.nil), (xE, Tr.nil)]) = moreX T := by
        apply Tr.list_inj
        rw [Tr.list_of]
        unfold moreX moreT
        rw [Tr.list_app, Tr.list_app, List.append_assoc]; rfl
      rw [e] at h
      exact h)
    have HB7 := hide (bl_two HB2.out HQ4.out)
    refine (HW.out _ (moreX T) _ HN7.out HB7.out HC5.out.2 HA5.out.2).mono ?_
    rintro e w8 ⟨rfl, hbx⟩
    have HB8 := hide (bl_two HB7.out hbx)
    clear hbx
    rw [more_dx, whereP_x]
    go_wp2_with fail
    refine (HL.out _ HB8.out).mono ?_
    rintro e wl ⟨rfl, hbl⟩
    have HBL := hide hbl
    clear hbl
    go_wp2_with fail
    go_ret
    exact ⟨rfl, HBL.out⟩
  | false =>
    go_wp2_with (skip
                 have hp4 := krow_push HK6.out (fun k hk => Nat.lt_of_lt_of_le (Nat.lt_of_lt_of_le hk.1 HG3.out) HS6.out) HQ6.out.size xE rfl
                 have HP4 : Hid (KRow (AwayB (w6.alloc (.cells #[.string ⟨#[]⟩, .slice none 0 0, .string ⟨#[120]⟩, .slice none 0 0] 32)) (.slice A3 (k3).length c3)) w2.heap.size (.slice A3 (k3).length c3) (k3) (w6.alloc (.cells #[.string ⟨#[]⟩, .slice none 0 0, .string ⟨#[120]⟩, .slice none 0 0] 32)) ∧ NodesC (AwayB (w6.alloc (.cells #[.string ⟨#[]⟩, .slice none 0 0, .string ⟨#[120]⟩, .slice none 0 0] 32)) (.slice A3 (k3).length c3)) (w6.alloc (.cells #[.string ⟨#[]⟩, .slice none 0 0, .string ⟨#[120]⟩, .slice none 0 0] 32)) (.slice (some ⟨w6.heap.size, 0, none⟩) 1 1) (.cons xE .nil .nil)) := hide hp4
                 have HW4 : Hid (Below w2.heap.size w2 (w6.alloc (.cells #[.string ⟨#[]⟩, .slice none 0 0, .string ⟨#[120]⟩, .slice none 0 0] 32))) := hide (HQ6.out.trans ((below_one w6 _).mono HQ6.out.size))
                 have HLN4 : Hid ((k3).length + Tr.len (.cons xE .nil .nil) ≤ 1073741824) := hide (by
                   have h1 := HLT.out
                   have h2 := Tr.len_list T
                   have h3 := congrArg List.length HE3.out
                   simp only [List.length_append, List.length_map, List.length_cons, List.length_nil] at h3
                   simp only [Tr.len]
                   omega)
                 clear hp4
                 refine wpList_nodes rfl _ _ rfl _ w2.heap.size (.slice A3 (k3).length c3) (k3) rfl HP4.out.1 (fun k hk => hk.1) HW4.out.size _ rfl (.cons xE .nil .nil) HP4.out.2 HLN4.out ?_
                 intro v' qs4 w7 hk' he' hg' hor'
                 obtain ⟨k4, hkk⟩ : ∃ k, k = k3 ++ qs4 := ⟨_, rfl⟩
                 rw [← hkk] at hk'
                 obtain ⟨A4, c4, hv4, _⟩ := hk'.slice
                 subst hv4
                 have HK4 := hide hk'
                 have HE4 : Hid (k4.map Prod.fst = T.list ++ [(quoteE, Tr.nil), (brE, Tr.nil), (xE, Tr.nil)]) := hide (by
                   rw [hkk, List.map_append, HE3.out, he']
                   try rw [List.append_assoc]
                   rfl)
                 have HQ4 : Hid (Below w2.heap.size w2 w7) := hide (HW4.out.grown hg' HW4.out.size (fun k e => (HP4.out.1.row.lt k e).1))
                 have HG4 : Hid ((w6.alloc (.cells #[.string ⟨#[]⟩, .slice none 0 0, .string ⟨#[120]⟩, .slice none 0 0] 32)).heap.size ≤ w7.heap.size) := hide hg'.size
                 clear hk' he' hg' hor' hkk)
    have HN7 : Hid (NodesIn w7 (.slice A4 k4.length c4) (moreX T)) := hide (by
      have h := KRow.nodes (C' := fun b => b < w7.heap.size) HK4.out (fun b hb => Nat.lt_of_lt_of_le hb.1 HG4.out) (fun k e => (HK4.out.row.lt k e).2)
      rw [HE4.out] at h
      have e : Tr.of (T.list ++ [(quoteE, Tr.nil), (brE, Tr.nil), (xE, Tr.nil)]) = moreX T := by
        apply Tr.list_inj
        rw [Tr.list_of]
        unfold moreX moreT
        rw [Tr.list_app, Tr.list_app, List.append_assoc]; rfl
      rw [e] at h
      exact h)
    have HB7 := hide (bl_two HB2.out HQ4.out)
    refine (HW.out _ (moreX T) _ HN7.out HB7.out HC5.out.2 HA5.out.2).mono ?_
    rintro e w8 ⟨rfl, hbx⟩
    have HB8 := hide (bl_two HB7.out hbx)
    clear hbx
    rw [more_dx, whereP_x]
    go_wp2_with fail
    refine (HL.out _ HB8.out).mono ?_
    rintro e wl ⟨rfl, hbl⟩
    have HBL := hide hbl
    clear hbl
    go_wp2_with fail
    go_ret
    exact ⟨rfl, HBL.out⟩
end Go.Proofs.YtjaeheicndfdnaaDoor
