/- WALK of Copy of nodes. No statement is proved here. Own work of the verifier. -/
import Derived.Test.YtjaeheicndfdnaaDoorFoldD
namespace Go.Proofs.YtjaeheicndfdnaaDoor
open Go.RowKit
set_option linter.unusedVariables false
set_option linter.unusedSimpArgs false
set_option maxRecDepth 100000
/-- made since B, and not the row's own block -/
def CopyC (B : Nat) (v : Value) (w : World) : Nat → Prop := fun b => B ≤ b ∧ b < w.heap.size ∧ v.ownBlock ≠ some b
theorem box_own (w : World) (a b c d : Value) : (w.alloc (.cells #[a, b, c, d] 32)).ownsRow w.heap.size 32 4 (.slice (some ⟨w.heap.size, 0, none⟩) 1 1) 1 [a, b, c, d] :=
  ⟨rfl, .inr ⟨w.heap.size, 1, #[a, b, c, d], rfl, Nat.le_refl _, heap_alloc_new w _, Nat.le_refl _, by decide, rfl, rfl⟩⟩
theorem copy_ready {B : Nat} {v v1 u2 : Value} {ks : List KidV} {wr w5 : World} {f : NdH} {K : Tr} (hk : KRow (CopyC B v wr) B v ks wr) (hb : Below wr.heap.size wr w5) (hB : B ≤ wr.heap.size)
    (ho : w5.ownsRow (wr.heap.size + 1) 41 2 v1 f.attrs.length (atVals f.attrs)) (hn : NodesC (NewB wr.heap.size w5) w5 u2 K) :
    KRow (CopyC B v (w5.alloc (.cells #[.string (str f.name), v1, .string (str f.text), u2] 32))) B v ks (w5.alloc (.cells #[.string (str f.name), v1, .string (str f.text), u2] 32)) ∧
    NodesC (CopyC B v (w5.alloc (.cells #[.string (str f.name), v1, .string (str f.text), u2] 32))) (w5.alloc (.cells #[.string (str f.name), v1, .string (str f.text), u2] 32)) (.slice (some ⟨w5.heap.size, 0, none⟩) 1 1) (.cons f K .nil) := by
  obtain ⟨W, hW⟩ : ∃ W, W = w5.alloc (.cells #[.string (str f.name), v1, .string (str f.text), u2] 32) := ⟨_, rfl⟩
  rw [← hW]
  have hbW : Below w5.heap.size w5 W := by rw [hW]; exact below_one w5 _
  have hzW : W.heap.size = w5.heap.size + 1 := by rw [hW, World.size_alloc]
  have hblk : W.heap[w5.heap.size]? = some (.cells #[.string (str f.name), v1, .string (str f.text), u2] 32 (0, 0)) := by rw [hW]; exact heap_alloc_new w5 _
  have hs := hb.size
  have hown : ∀ k, v.ownBlock = some k → k < wr.heap.size := fun k e => (hk.row.lt k e).2
  constructor
  · exact (hk.kept (fun k hk2 => hk2.2.1) (bl_two hb hbW)).widen (fun b hb2 => ⟨hb2.1, by have := hb2.2.1; omega, hb2.2.2⟩) (fun g e hg2 => hg2.2.2 e)
  · have hA : AttrsC (CopyC B v W) W v1 f.attrs := by
      have ho6 : W.ownsRow (wr.heap.size + 1) 41 2 v1 f.attrs.length (atVals f.attrs) := ho.kept (grown_none hbW) (by cases hv : v1.ownBlock <;> simp)
      refine ⟨attrs_of_row ho6, fun a n c e hl => ?_⟩
      have hl2 := ho6.lt a.block (by rw [e]; rfl)
      exact ⟨by omega, hl2.2, fun e2 => by have := hown _ e2; omega⟩
    have hN : NodesC (CopyC B v W) W u2 K := hn.mono (fun b hb2 => hbW.block b hb2.2) (fun b hb2 => ⟨Nat.le_trans hB hb2.1, by have := hb2.2; omega, fun e => by have h1 := hown b e; have h2 := hb2.1; omega⟩)
    exact .inr ⟨⟨w5.heap.size, 0, none⟩, 1, rfl, Nat.le_refl _, by decide, ⟨⟨by show B ≤ w5.heap.size; omega, by show w5.heap.size < _; omega, fun e => by have h1 := hown _ e; simp only at h1; omega⟩, (Lib.cell_of_heap hblk 0).trans rfl, (Lib.cell_of_heap hblk 2).trans rfl, ⟨_, (Lib.cell_of_heap hblk 1).trans rfl, hA⟩, ⟨_, (Lib.cell_of_heap hblk 3).trans rfl, hN⟩, trivial⟩⟩
def CopyP (N : Nat) : Prop := ∀ (v : Value) (T : Tr) (w : World), T.count < N → T.count ≤ 1000000 → NodesIn w v T → T.all attrsFew = true →
    Calls Tryd.prog 10 #[v] w fun e w' => ∃ u, e = .returned u ∧ NodesC (NewB w.heap.size w') w' u T ∧ Below w.heap.size w w'
set_option maxHeartbeats 8000000 in
theorem copy_step (N : Nat) (IH : CopyP N) : CopyP (N + 1) := by
  intro v T w hN hc hT ha
  have hlen := Tr.len_count T
  obtain ⟨A, c, rfl⟩ := NodesC.form hT
  have H := hide hT
  have HIH := hide IH
  have HA := hide ha
  clear hT IH ha
  go_enter Tryd.func10, Tryd.ntmps10
  go_wp2_with fail
  go_loopw [3, 4] (fun ov i wr => ∃ (k : Nat) (ks : List KidV) (A1 : Option Addr) (c1 : Nat), k ≤ T.len ∧ i = .int .i64 k ∧ ov = .slice A1 ks.length c1 ∧ Hid (KRow (CopyC w.heap.size (.slice A1 ks.length c1) wr) w.heap.size (.slice A1 ks.length c1) ks wr) ∧ Hid (ks.map Prod.fst = T.list.take k) ∧ Hid (Below w.heap.size w wr)) (fun _ i _ => T.len - (intOf i).toNat)
  case atStart => exact ⟨0, [], none, 0, Nat.zero_le _, rfl, rfl, hide (KRow.nil _ _ _), hide rfl, hide (Below.refl _ _)⟩
  case round =>
    obtain ⟨k, ks, A1, c1, hk, rfl, rfl, HK, HM, HB⟩ := hrel
    by_cases hlt : k < T.len
    · obtain ⟨⟨f, K⟩, hf⟩ : ∃ f, T.list[k]? = some f := ⟨_, List.getElem?_eq_getElem (by rw [Tr.len_list]; exact hlt)⟩
      have hI1 := H.out.kept HB.out
      obtain ⟨a, dd, x, y, zz, mm, hA, -, p1, p2, hAt, p3, p4, hmm, hK⟩ := NodesC.at hI1 k f K hf
      subst hA hmm
      have hKc := Tr.at_count hf
      obtain ⟨fa1, fa2⟩ := Tr.all_at HA.out hf
      have hal : f.attrs.length ≤ 1048576 := by unfold attrsFew at fa1; exact of_decide_eq_true fa1
      have hb1 := below_one wr (Obj.cells #[.string (str f.name), .slice dd f.attrs.length y, .string (str f.text), .slice x K.len zz] 32)
      have hsz1 : (wr.alloc (Obj.cells #[.string (str f.name), .slice dd f.attrs.length y, .string (str f.text), .slice x K.len zz] 32)).heap.size = wr.heap.size + 1 := World.size_alloc ..
      have HSZ1 := hide hsz1
      have HB1 := hide hb1
      have HAT : Hid (AttrsIn (wr.alloc (Obj.cells #[.string (str f.name), .slice dd f.attrs.length y, .string (str f.text), .slice x K.len zz] 32)) (.slice dd f.attrs.length y) f.attrs) := hide (hAt.1.kept hb1)
      have HKN : Hid (NodesIn wr (.slice x K.len zz) K) := hide hK
      have HF := hide hf
      have HAL : Hid (f.attrs.length ≤ 1073741824) := hide (by omega)
      have HCC : Hid (∀ w', Below wr.heap.size wr w' → Calls Tryd.prog 10 #[.slice x K.len zz] w' fun e w'' => ∃ u, e = .returned u ∧ NodesC (NewB w'.heap.size w'') w'' u K ∧ Below w'.heap.size w' w'') := hide (fun w' hb => HIH.out _ K w' (by show K.count < N; omega) (by show K.count ≤ _; omega) (HKN.out.kept hb) fa2)
      have p2' := (hb1.cell (World.block_lt_of_cell? _ _ p2)).trans p2
      have HP4 := hide p4
      have HBOX := hide (box_own wr (.string (str f.name)) (.slice dd f.attrs.length y) (.string (str f.text)) (.slice x K.len zz))
      clear hI1 hAt hK hf hKc fa1 fa2 hal hb1 hsz1
      go_wp2_with (refine wpList_attrs0 rfl _ _ rfl (wr.heap.size + 1) none rfl (World.ownsRow_nil _ _ _ 2) (Nat.le_of_eq HSZ1.out.symm) _ rfl f.attrs HAT.out HAL.out ?_
                   intro v1 w2 ho2 hg2 hor2
                   obtain ⟨Av, cv, hv1⟩ : ∃ Av cv, v1 = .slice Av f.attrs.length cv := by
                     rcases ho2.2 with ⟨h0, h1⟩ | ⟨g, cap, cur, h0, _⟩
                     · rw [h1]; exact ⟨_, _, h0⟩
                     · exact ⟨_, _, h0⟩
                   subst hv1
                   have hbx := HBOX.out.kept hg2 (.inr (by simp [Value.ownBlock]))
                   have z1 : w2.cell? ⟨wr.heap.size, 1, none⟩ = some (.slice dd f.attrs.length y) := by rw [hbx.cellAt 1 (by decide)]; rfl
                   have zf1 : w2.frozen? ⟨wr.heap.size, 1, none⟩ = false := hbx.frozenAt 1
                   have hb2 : Below wr.heap.size wr w2 := HB1.out.grown hg2 (by rw [HSZ1.out]; omega) (fun k e => by simp [Value.ownBlock] at e)
                   have p42 := (hb2.cell (World.block_lt_of_cell? _ _ HP4.out)).trans HP4.out
                   have HB2 := hide hb2
                   have HO2 := hide ho2
                   have HX2 := hide hbx
                   clear ho2 hg2 hor2 hbx hb2)
      obtain ⟨hr3, hg3⟩ := HX2.out.stored 1 (.slice Av f.attrs.length cv)
      have ho3 := HO2.out.kept hg3 (ownsRow_diff (by decide) HO2.out HX2.out)
      have hb3 : Below wr.heap.size wr (w2.setCell ⟨wr.heap.size, 1, none⟩ (.slice Av f.attrs.length cv)) := HB2.out.setCell (p := ⟨wr.heap.size, 1, none⟩) (Nat.le_refl _) _
      have HCL := hide (HCC.out _ hb3)
      have HR3 := hide hr3
      have HO3 := hide ho3
      have HB3 := hide hb3
      clear hr3 hg3 ho3 hb3 HX2 HO2 HB2 HCC z1 zf1
      refine HCL.out.mono ?_
      rintro e w4 ⟨u2, rfl, hn4, hb4⟩
      obtain ⟨Ak, ck, rfl⟩ := NodesC.form hn4
      have hr4 := HR3.out.kept (grown_none hb4) (by simp [Value.ownBlock])
      have ho4 := HO3.out.kept (grown_none hb4) (by cases Av <;> simp [Value.ownBlock])
      have zc3 : w4.cell? ⟨wr.heap.size, 3, none⟩ = some (.slice x K.len zz) := by rw [hr4.cellAt 3 (by decide)]; rfl
      have zf3 : w4.frozen? ⟨wr.heap.size, 3, none⟩ = false := hr4.frozenAt 3
      obtain ⟨hr5, hg5⟩ := hr4.stored 3 (.slice Ak K.len ck)
      have ho5 := ho4.kept hg5 (ownsRow_diff (by decide) ho4 hr4)
      have HZ : Hid (wr.heap.size < (w2.setCell ⟨wr.heap.size, 1, none⟩ (.slice Av f.attrs.length cv)).heap.size) := hide (HR3.out.lt wr.heap.size rfl).2
      have HN5 : Hid (NodesC (NewB wr.heap.size (w4.setCell ⟨wr.heap.size, 3, none⟩ (.slice Ak K.len ck))) (w4.setCell ⟨wr.heap.size, 3, none⟩ (.slice Ak K.len ck)) (.slice Ak K.len ck) K) := hide (hn4.mono (fun b hb => Below.heap_setCell w4 ⟨wr.heap.size, 3, none⟩ _ b (fun e => by have h1 := hb.1; have h2 := HZ.out; simp only at e; omega)) (fun b hb => ⟨Nat.le_trans (Nat.le_of_lt HZ.out) hb.1, by rw [World.size_setCell]; exact hb.2⟩))
      have HB5 : Hid (Below wr.heap.size wr (w4.setCell ⟨wr.heap.size, 3, none⟩ (.slice Ak K.len ck))) := hide ((HB3.out.trans (hb4.mono HB3.out.size)).setCell (p := ⟨wr.heap.size, 3, none⟩) (Nat.le_refl _) _)
      have hrd := copy_ready HK.out HB5.out HB.out.size ho5 HN5.out
      rw [World.size_setCell] at hrd
      have HRD := hide hrd
      have d0 : (w4.setCell ⟨wr.heap.size, 3, none⟩ (.slice Ak K.len ck)).cell? ⟨wr.heap.size, 0, none⟩ = some (.string (str f.name)) := by rw [hr5.cellAt 0 (by decide)]; rfl
      have d1 : (w4.setCell ⟨wr.heap.size, 3, none⟩ (.slice Ak K.len ck)).cell? ⟨wr.heap.size, 1, none⟩ = some (.slice Av f.attrs.length cv) := by rw [hr5.cellAt 1 (by decide)]; rfl
      have d2 : (w4.setCell ⟨wr.heap.size, 3, none⟩ (.slice Ak K.len ck)).cell? ⟨wr.heap.size, 2, none⟩ = some (.string (str f.text)) := by rw [hr5.cellAt 2 (by decide)]; rfl
      have d3 : (w4.setCell ⟨wr.heap.size, 3, none⟩ (.slice Ak K.len ck)).cell? ⟨wr.heap.size, 3, none⟩ = some (.slice Ak K.len ck) := by rw [hr5.cellAt 3 (by decide)]; rfl
      clear hrd hn4 hb4 hr4 ho4 hr5 hg5 ho5 HR3 HO3 HCL
      have HKL : Hid (ks.length + Tr.len (.cons f K .nil) ≤ 1073741824) := hide (by
        have h1 := congrArg List.length HM.out
        rw [List.length_map, List.length_take, Tr.len_list] at h1
        simp only [Tr.len]
        omega)
      have HW6 : Hid (Below w.heap.size w ((w4.setCell ⟨wr.heap.size, 3, none⟩ (.slice Ak K.len ck)).alloc (.cells #[.string (str f.name), .slice Av f.attrs.length cv, .string (str f.text), .slice Ak K.len ck] 32))) := hide (bl_two (bl_two HB.out HB5.out) (below_one _ _))
      go_wp2_with (refine wpList_nodes rfl _ _ rfl _ w.heap.size (.slice A1 ks.length c1) ks rfl HRD.out.1 (fun k hk => hk.2.1) HW6.out.size _ rfl (.cons f K .nil) HRD.out.2 HKL.out ?_
                   intro v' qs w7 hk' he' hg' hor'
                   obtain ⟨k2, hkk⟩ : ∃ k, k = ks ++ qs := ⟨_, rfl⟩
                   have HM7 : Hid (k2.map Prod.fst = T.list.take (k + 1)) := hide (by
                     rw [hkk, List.map_append, HM.out, he', List.take_add_one, HF.out]; rfl)
                   rw [← hkk] at hk'
                   obtain ⟨A7, c7, hv7, _⟩ := hk'.slice
                   subst hv7
                   have HK7 : Hid (KRow (CopyC w.heap.size (.slice A7 k2.length c7) w7) w.heap.size (.slice A7 k2.length c7) k2 w7) := hide (hk'.widen (fun b hb => ⟨hb.1, Nat.lt_of_lt_of_le hb.2.1 hg'.size, fun e => hk'.out b e hb⟩) (fun g e hg => hg.2.2 e))
                   have HB7 : Hid (Below w.heap.size w w7) := hide (HW6.out.grown hg' HW6.out.size (fun k e => (HRD.out.1.row.lt k e).1))
                   clear hk' he' hg' hor' hkk)
      go_roundw
      case rel => exact ⟨k + 1, k2, A7, c7, by omega, by go_num, rfl, HK7, HM7, HB7⟩
      case measure => simp [intOf]; omega
    · obtain rfl : k = T.len := by omega
      have HM2 := HM.out
      rw [← Tr.len_list, List.take_length] at HM2
      replace HM2 := hide HM2
      go_wp2_with fail
      go_ret
      refine ⟨_, rfl, ?_, HB.out⟩
      have := HK.out.nodes (C' := NewB w.heap.size wr) (fun b hb => ⟨hb.1, hb.2.1⟩) (fun k e => ⟨(HK.out.row.lt k e).1, (HK.out.row.lt k e).2⟩)
      rw [HM2.out, Tr.of_list] at this
      exact this
theorem copy_all : ∀ N, CopyP N
  | 0 => fun v T w h => absurd h (by omega)
  | N + 1 => copy_step N (copy_all N)
theorem copy14_any (v : Value) (T : Tr) (w : World) (hT : NodesIn w v T) (hc : T.count ≤ 1000000) (ha : T.all attrsFew = true) :
    Calls Tryd.prog 10 #[v] w fun e w' => ∃ u, e = .returned u ∧ NodesC (NewB w.heap.size w') w' u T ∧ Below w.heap.size w w' :=
  copy_all (T.count + 1) v T w (Nat.lt_succ_self _) hc hT ha
end Go.Proofs.YtjaeheicndfdnaaDoor
