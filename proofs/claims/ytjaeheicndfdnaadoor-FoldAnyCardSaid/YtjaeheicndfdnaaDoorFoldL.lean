/- WALK of live. No statement is proved here. Own work of the verifier. -/
import Derived.Test.YtjaeheicndfdnaaDoorFoldQ
namespace Go.Proofs.YtjaeheicndfdnaaDoor
open Go.RowKit
set_option linter.unusedVariables false
set_option linter.unusedSimpArgs false
set_option maxRecDepth 100000
def txt (l : List UInt8) : NdH := ⟨[], [], l⟩
def elm (l : List UInt8) : NdH := ⟨l, [], []⟩
def bT : Tr := .cons (txt [98]) .nil .nil
def qH : NdH := elm [98, 108, 111, 99, 107, 113, 117, 111, 116, 101]
def liveT : Tr := .cons (txt [97]) .nil (.cons qH bT (.cons (elm [98, 114]) .nil (.cons (txt [32, 194, 160]) .nil (.cons qH bT .nil))))
theorem live_where : whereP (liveT.list.map Prod.fst) = (1, true) := by decide +kernel
theorem live_where1 : whereP ((Tr.drop 1 liveT).list.map Prod.fst) = (0, false) := by decide +kernel
theorem live_fold : foldT liveT = .cons (txt [97]) .nil (.cons foldH (Tr.drop 1 liveT) .nil) := by
  unfold foldT
  rw [live_where]
  rfl
theorem live_open : openT (foldT liveT) = liveT := by rw [live_fold]; rfl
def lb0 : Array Value := #[.string ⟨#[]⟩, .slice none 0 0, .string ⟨#[98]⟩, .slice none 0 0]
def lb2 (b : Nat) : Array Value := #[.string ⟨#[]⟩, .slice none 0 0, .string ⟨#[97]⟩, .slice none 0 0,
  .string ⟨#[98, 108, 111, 99, 107, 113, 117, 111, 116, 101]⟩, .slice none 0 0, .string ⟨#[]⟩, .slice (some ⟨b, 0, none⟩) 1 1,
  .string ⟨#[98, 114]⟩, .slice none 0 0, .string ⟨#[]⟩, .slice none 0 0,
  .string ⟨#[]⟩, .slice none 0 0, .string ⟨#[32, 194, 160]⟩, .slice none 0 0,
  .string ⟨#[98, 108, 111, 99, 107, 113, 117, 111, 116, 101]⟩, .slice none 0 0, .string ⟨#[]⟩, .slice (some ⟨b, 0, none⟩) 1 1]
theorem attrs_none {w : World} : AttrsC (fun b => b < w.heap.size) w (.slice none 0 0) [] := ⟨.inl ⟨rfl, rfl⟩, fun a n c e _ => by cases e⟩
theorem nodes_none {C : Nat → Prop} {w : World} : NodesC C w (.slice none 0 0) .nil := .inl ⟨rfl, rfl⟩
theorem live_b {w : World} {b : Nat} (hb : w.heap[b]? = some (.cells lb0 32 (0, 0))) : NodesIn w (.slice (some ⟨b, 0, none⟩) 1 1) bT := by
  have hlt := lt_of_block hb
  exact .inr ⟨⟨b, 0, none⟩, 1, rfl, Nat.le_refl _, by decide, ⟨hlt, (Lib.cell_of_heap hb 0).trans rfl, (Lib.cell_of_heap hb 2).trans rfl, ⟨_, (Lib.cell_of_heap hb 1).trans rfl, attrs_none⟩, ⟨_, (Lib.cell_of_heap hb 3).trans rfl, nodes_none⟩, trivial⟩⟩
theorem live_l {w : World} {b g : Nat} (hb : w.heap[b]? = some (.cells lb0 32 (0, 0))) (hg : w.heap[g]? = some (.cells (lb2 b) 32 (0, 0))) : NodesIn w (.slice (some ⟨g, 0, none⟩) 5 5) liveT := by
  have hlt := lt_of_block hg
  have hB := live_b hb
  exact .inr ⟨⟨g, 0, none⟩, 5, rfl, Nat.le_refl _, by decide,
    ⟨hlt, (Lib.cell_of_heap hg 0).trans rfl, (Lib.cell_of_heap hg 2).trans rfl, ⟨_, (Lib.cell_of_heap hg 1).trans rfl, attrs_none⟩, ⟨_, (Lib.cell_of_heap hg 3).trans rfl, nodes_none⟩,
    ⟨hlt, (Lib.cell_of_heap hg 4).trans rfl, (Lib.cell_of_heap hg 6).trans rfl, ⟨_, (Lib.cell_of_heap hg 5).trans rfl, attrs_none⟩, ⟨_, (Lib.cell_of_heap hg 7).trans rfl, hB⟩,
    ⟨hlt, (Lib.cell_of_heap hg 8).trans rfl, (Lib.cell_of_heap hg 10).trans rfl, ⟨_, (Lib.cell_of_heap hg 9).trans rfl, attrs_none⟩, ⟨_, (Lib.cell_of_heap hg 11).trans rfl, nodes_none⟩,
    ⟨hlt, (Lib.cell_of_heap hg 12).trans rfl, (Lib.cell_of_heap hg 14).trans rfl, ⟨_, (Lib.cell_of_heap hg 13).trans rfl, attrs_none⟩, ⟨_, (Lib.cell_of_heap hg 15).trans rfl, nodes_none⟩,
    ⟨hlt, (Lib.cell_of_heap hg 16).trans rfl, (Lib.cell_of_heap hg 18).trans rfl, ⟨_, (Lib.cell_of_heap hg 17).trans rfl, attrs_none⟩, ⟨_, (Lib.cell_of_heap hg 19).trans rfl, hB⟩, trivial⟩⟩⟩⟩⟩⟩
def lb1 (b : Nat) : Array Value := #[.string ⟨#[98, 108, 111, 99, 107, 113, 117, 111, 116, 101]⟩, .slice none 0 0, .string ⟨#[]⟩, .slice (some ⟨b, 0, none⟩) 1 1]
theorem live_world (w : World) : NodesIn (((w.alloc (.cells lb0 32)).alloc (.cells (lb1 w.heap.size) 32)).alloc (.cells (lb2 w.heap.size) 32)) (.slice (some ⟨w.heap.size + 1 + 1, 0, none⟩) 5 5) liveT ∧
    Below w.heap.size w (((w.alloc (.cells lb0 32)).alloc (.cells (lb1 w.heap.size) 32)).alloc (.cells (lb2 w.heap.size) 32)) := by
  obtain ⟨W1, h1⟩ : ∃ W1, W1 = w.alloc (.cells lb0 32) := ⟨_, rfl⟩
  obtain ⟨W2, h2⟩ : ∃ W2, W2 = W1.alloc (.cells (lb1 w.heap.size) 32) := ⟨_, rfl⟩
  rw [← h1, ← h2]
  have e1 : W1.heap.size = w.heap.size + 1 := by rw [h1, World.size_alloc]
  have e2 : W2.heap.size = w.heap.size + 1 + 1 := by rw [h2, World.size_alloc, e1]
  have b1 : Below w.heap.size w W1 := by rw [h1]; exact below_one w _
  have b2 : Below W1.heap.size W1 W2 := by rw [h2]; exact below_one W1 _
  have b3 := below_one W2 (.cells (lb2 w.heap.size) 32)
  have g1 : W1.heap[w.heap.size]? = some (.cells lb0 32 (0, 0)) := by rw [h1]; exact heap_alloc_new w _
  have g3 : (W2.alloc (.cells (lb2 w.heap.size) 32)).heap[w.heap.size + 1 + 1]? = some (.cells (lb2 w.heap.size) 32 (0, 0)) := by rw [← e2]; exact heap_alloc_new W2 _
  exact ⟨live_l ((b3.block _ (by omega)).trans ((b2.block _ (by omega)).trans g1)) g3, bl_two (bl_two b1 b2) b3⟩
set_option maxHeartbeats 8000000 in
theorem live21_any (w : World) (hU : Utf8T w) :
    Calls Tryd.prog 9 #[] w fun e w' => e = .returned (.bool true) ∧ Below w.heap.size w w' := by
  obtain ⟨hn0, hb0⟩ := live_world w
  have hU0 := utf8_kept hU hb0
  have hW := where_any _ _ _ hn0 hU0 (by decide) (by decide)
  rw [live_where] at hW
  have hN1 := nodes_drop hn0 (p := 1) (by decide)
  have HU := hide hU
  have HW := hide hW
  have HN0 := hide hn0
  have HN1 := hide hN1
  have HB0 := hide hb0
  clear hU hn0 hb0 hU0 hW hN1
  go_enter Tryd.func9, Tryd.ntmps9
  go_wp2_with fail
  refine HW.out.mono ?_
  rintro e w1 ⟨rfl, hb1⟩
  have HB1 := hide (bl_two HB0.out hb1)
  have HN0' := hide (HN0.out.kept hb1)
  have HN1' := hide (NodesIn.kept HN1.out hb1)
  have hW2 := where_any _ _ _ HN1'.out (utf8_kept HU.out HB1.out) (by decide) (by decide)
  rw [live_where1] at hW2
  have HW2 := hide hW2
  clear hb1 HN0 HN1 HW HB0 hW2
  go_wp2_with fail
  refine HW2.out.mono ?_
  rintro e w2 ⟨rfl, hb2⟩
  have HB2 := hide (bl_two HB1.out hb2)
  have HN2 := hide (HN0'.out.kept hb2)
  have HF := hide (fold_any _ _ w2 HN2.out (utf8_kept HU.out HB2.out) (by decide) (by decide) (by decide))
  clear hb2 HN0' HN1' HW2 HB1
  go_wp2_with fail
  refine HF.out.mono ?_
  rintro e w3 ⟨u, rfl, hn3, hb3⟩
  have HO := live_open
  have HB3 := hide (bl_two HB2.out hb3)
  have HN3 := hide (HN2.out.kept hb3)
  rw [live_fold] at hn3 HO
  obtain ⟨A3, c3, rfl⟩ := NodesC.form hn3
  obtain ⟨a, dd, x, y, zz, mm, hA, -, p1, -, -, -, p4, hmm, -⟩ := NodesC.at hn3 1 foldH (Tr.drop 1 liveT) rfl
  subst hA hmm
  have HOP := hide (open_any _ _ w3 hn3 (by decide) (by decide))
  rw [HO] at HOP
  have p1' : w3.cell? { block := a.block, off := a.off + 4 } = some (.string ⟨#[100, 105, 118]⟩) := p1
  have p4' : w3.cell? { block := a.block, off := a.off + 4 + 3 } = some (.slice x 4 zz) := p4
  have hl2 : Tr.len (Tr.cons (txt [97]) Tr.nil (Tr.cons foldH (Tr.drop 1 liveT) Tr.nil)) = 2 := rfl
  rw [hl2] at HOP ⊢
  clear hn3 hb3 HN2 HF HB2 HO p1 p4
  go_wp2_with fail
  refine HOP.out.mono ?_
  rintro e w4 ⟨u4, rfl, hn4, hb4⟩
  have HB4 := hide (bl_two HB3.out hb4)
  have HS4 : Hid (Calls Tryd.prog 13 #[u4, .slice (some ⟨w.heap.size + 1 + 1, 0, none⟩) 5 5] w4 fun e w' => e = .returned (.bool true) ∧ Below w4.heap.size w4 w') := hide (by
    refine (same14_any u4 _ liveT liveT w4 (by decide) hn4 (HN3.out.kept hb4) (by decide)).mono ?_
    rintro e w2 ⟨rfl, m, rfl⟩
    exact ⟨by rw [decide_eq_true rfl], below_of13 ⟨m, rfl⟩⟩)
  obtain ⟨A4, c4, rfl⟩ := NodesC.form hn4
  clear hn4 hb4 HOP HN3
  go_wp2_with fail
  refine HS4.out.mono ?_
  rintro e w5 ⟨rfl, hb5⟩
  have HB5 := hide (bl_two HB4.out hb5)
  go_wp2_with fail
  go_ret
  exact ⟨rfl, HB5.out⟩
end Go.Proofs.YtjaeheicndfdnaaDoor
