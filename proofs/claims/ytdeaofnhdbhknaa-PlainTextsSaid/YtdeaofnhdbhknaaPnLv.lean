/- WALK of plain's live. No statement is proved here. Own work of the verifier. -/
import Derived.Test.YtdeaofnhdbhknaaPnY
import Derived.Test.YtdeaofnhdbhknaaPnG
import Derived.Test.YtdeaofnhdbhknaaPlnS
namespace Go.Proofs.Ytdeaofnhdbhknaa
open Go.RowKit
set_option linter.unusedVariables false
set_option linter.unusedSimpArgs false
set_option maxRecDepth 100000
def cT : Tr := .cons (txH [99]) .nil .nil
def bqT : Tr := .cons (txH [98]) .nil (.cons quH cT .nil)
def live20T : Tr := .cons (txH [97]) .nil (.cons brH .nil (.cons quH bqT (.cons (txH [100]) .nil (.cons brH .nil (.cons (txH [101]) .nil .nil)))))
theorem live20_tree : plainP [97, 10, 10, 62, 32, 98, 10, 62, 62, 32, 99, 10, 100, 13, 10, 101] = live20T := by decide +kernel
theorem live20_text : plainT live20T = [97, 10, 62, 32, 98, 10, 62, 32, 62, 32, 99, 10, 100, 10, 101] := by decide +kernel
theorem live20_level : levelL [62, 32, 62, 32, 32, 120] = (2, [32, 120]) := by decide +kernel
def l20c : Array Value := #[.string ⟨#[]⟩, .slice none 0 0, .string ⟨#[99]⟩, .slice none 0 0]
def l20b (g : Nat) : Array Value := #[.string ⟨#[]⟩, .slice none 0 0, .string ⟨#[98]⟩, .slice none 0 0, .string ⟨#[98, 108, 111, 99, 107, 113, 117, 111, 116, 101]⟩, .slice none 0 0, .string ⟨#[]⟩, .slice (some ⟨g, 0, none⟩) 1 1]
def l20a (g : Nat) : Array Value := #[.string ⟨#[]⟩, .slice none 0 0, .string ⟨#[97]⟩, .slice none 0 0, .string ⟨#[98, 114]⟩, .slice none 0 0, .string ⟨#[]⟩, .slice none 0 0,
  .string ⟨#[98, 108, 111, 99, 107, 113, 117, 111, 116, 101]⟩, .slice none 0 0, .string ⟨#[]⟩, .slice (some ⟨g, 0, none⟩) 2 2, .string ⟨#[]⟩, .slice none 0 0, .string ⟨#[100]⟩, .slice none 0 0,
  .string ⟨#[98, 114]⟩, .slice none 0 0, .string ⟨#[]⟩, .slice none 0 0, .string ⟨#[]⟩, .slice none 0 0, .string ⟨#[101]⟩, .slice none 0 0]
theorem l20_c {w : World} {g : Nat} (h : w.heap[g]? = some (.cells l20c 36 (0, 0))) : NodesIn w (.slice (some ⟨g, 0, none⟩) 1 1) cT := by
  have hlt := lt_of_block h
  exact .inr ⟨⟨g, 0, none⟩, 1, rfl, Nat.le_refl _, by decide, ⟨hlt, (Lib.cell_of_heap h 0).trans rfl, (Lib.cell_of_heap h 2).trans rfl, ⟨_, (Lib.cell_of_heap h 1).trans rfl, attrsC_none _ _⟩, ⟨_, (Lib.cell_of_heap h 3).trans rfl, nodesC_none _ _⟩, trivial⟩⟩
theorem l20_b {w : World} {g g2 : Nat} (h : w.heap[g]? = some (.cells (l20b g2) 36 (0, 0))) (h2 : w.heap[g2]? = some (.cells l20c 36 (0, 0))) : NodesIn w (.slice (some ⟨g, 0, none⟩) 2 2) bqT := by
  have hlt := lt_of_block h
  exact .inr ⟨⟨g, 0, none⟩, 2, rfl, Nat.le_refl _, by decide, ⟨hlt, (Lib.cell_of_heap h 0).trans rfl, (Lib.cell_of_heap h 2).trans rfl, ⟨_, (Lib.cell_of_heap h 1).trans rfl, attrsC_none _ _⟩, ⟨_, (Lib.cell_of_heap h 3).trans rfl, nodesC_none _ _⟩,
    ⟨hlt, (Lib.cell_of_heap h 4).trans rfl, (Lib.cell_of_heap h 6).trans rfl, ⟨_, (Lib.cell_of_heap h 5).trans rfl, attrsC_none _ _⟩, ⟨_, (Lib.cell_of_heap h 7).trans rfl, l20_c h2⟩, trivial⟩⟩⟩
theorem l20_a {w : World} {g g2 g3 : Nat} (h : w.heap[g]? = some (.cells (l20a g2) 36 (0, 0))) (h2 : w.heap[g2]? = some (.cells (l20b g3) 36 (0, 0))) (h3 : w.heap[g3]? = some (.cells l20c 36 (0, 0))) : NodesIn w (.slice (some ⟨g, 0, none⟩) 6 6) live20T := by
  have hlt := lt_of_block h
  have hB := l20_b h2 h3
  exact .inr ⟨⟨g, 0, none⟩, 6, rfl, Nat.le_refl _, by decide,
    ⟨hlt, (Lib.cell_of_heap h 0).trans rfl, (Lib.cell_of_heap h 2).trans rfl, ⟨_, (Lib.cell_of_heap h 1).trans rfl, attrsC_none _ _⟩, ⟨_, (Lib.cell_of_heap h 3).trans rfl, nodesC_none _ _⟩,
    ⟨hlt, (Lib.cell_of_heap h 4).trans rfl, (Lib.cell_of_heap h 6).trans rfl, ⟨_, (Lib.cell_of_heap h 5).trans rfl, attrsC_none _ _⟩, ⟨_, (Lib.cell_of_heap h 7).trans rfl, nodesC_none _ _⟩,
    ⟨hlt, (Lib.cell_of_heap h 8).trans rfl, (Lib.cell_of_heap h 10).trans rfl, ⟨_, (Lib.cell_of_heap h 9).trans rfl, attrsC_none _ _⟩, ⟨_, (Lib.cell_of_heap h 11).trans rfl, hB⟩,
    ⟨hlt, (Lib.cell_of_heap h 12).trans rfl, (Lib.cell_of_heap h 14).trans rfl, ⟨_, (Lib.cell_of_heap h 13).trans rfl, attrsC_none _ _⟩, ⟨_, (Lib.cell_of_heap h 15).trans rfl, nodesC_none _ _⟩,
    ⟨hlt, (Lib.cell_of_heap h 16).trans rfl, (Lib.cell_of_heap h 18).trans rfl, ⟨_, (Lib.cell_of_heap h 17).trans rfl, attrsC_none _ _⟩, ⟨_, (Lib.cell_of_heap h 19).trans rfl, nodesC_none _ _⟩,
    ⟨hlt, (Lib.cell_of_heap h 20).trans rfl, (Lib.cell_of_heap h 22).trans rfl, ⟨_, (Lib.cell_of_heap h 21).trans rfl, attrsC_none _ _⟩, ⟨_, (Lib.cell_of_heap h 23).trans rfl, nodesC_none _ _⟩, trivial⟩⟩⟩⟩⟩⟩⟩
theorem l20_world (w : World) : NodesIn (((w.alloc (.cells l20c 36)).alloc (.cells (l20b w.heap.size) 36)).alloc (.cells (l20a (w.heap.size + 1)) 36)) (.slice (some ⟨w.heap.size + 1 + 1, 0, none⟩) 6 6) live20T ∧ Below w.heap.size w (((w.alloc (.cells l20c 36)).alloc (.cells (l20b w.heap.size) 36)).alloc (.cells (l20a (w.heap.size + 1)) 36)) :=
  ⟨l20_a (three3 w _ _ _) (three2 w _ _ _) (three1 w _ _ _), by
    have h := three_below w (.cells l20c 36) (.cells (l20b w.heap.size) 36) (.cells (l20a (w.heap.size + 1)) 36)
    exact ⟨h.os, h.tape, h.output, h.size, h.block⟩⟩
set_option maxHeartbeats 8000000 in
theorem live20_any (w : World) :
    Calls Try.prog 9 #[] w fun e w' => e = .returned (.bool true) ∧ Below w.heap.size w w' := by
  have HT := hide (plainTree_any ⟨#[97, 10, 10, 62, 32, 98, 10, 62, 62, 32, 99, 10, 100, 13, 10, 101]⟩ w (by decide))
  rw [show plainP (⟨#[97, 10, 10, 62, 32, 98, 10, 62, 62, 32, 99, 10, 100, 13, 10, 101]⟩ : ByteArray).data.toList = live20T from live20_tree] at HT
  go_enter Try.func9, Try.ntmps9
  go_wp2_with fail
  refine HT.out.mono ?_
  rintro e w1 ⟨u, rfl, hn1, hb1⟩
  have HN1 : Hid (NodesIn w1 u live20T) := hide (hn1.mono (fun _ _ => rfl) (fun b hb => hb.2))
  have HB1 := hide hb1
  have HV := hide (level_any ⟨#[62, 32, 62, 32, 32, 120]⟩ w1 (by decide))
  rw [show levelL (⟨#[62, 32, 62, 32, 32, 120]⟩ : ByteArray).data.toList = (2, [32, 120]) from live20_level] at HV
  unfold levelV at HV
  clear hn1 hb1 HT
  go_wp2_with fail
  refine HV.out.mono ?_
  rintro e w2 ⟨rfl, rfl⟩
  obtain ⟨hw1, hw2⟩ := l20_world w2
  have q1 : ((str [32, 120]).toList == [32, 120]) = true := by rw [str_list]; exact beq_self_eq_true _
  have q2 : ((str [97, 10, 62, 32, 98, 10, 62, 32, 62, 32, 99, 10, 100, 10, 101]).toList == [97, 10, 62, 32, 98, 10, 62, 32, 62, 32, 99, 10, 100, 10, 101]) = true := by rw [str_list]; exact beq_self_eq_true _
  have HW1 := hide hw1
  have HW2 := hide hw2
  clear hw1 hw2 HV
  go_wp2_with fail
  have HS : Hid (Calls Try.prog 12 #[u, .slice (some ⟨w2.heap.size + 1 + 1, 0, none⟩) 6 6] (((w2.alloc (.cells l20c 36)).alloc (.cells (l20b w2.heap.size) 36)).alloc (.cells (l20a (w2.heap.size + 1)) 36)) fun e w' => e = .returned (.bool true) ∧ Below w2.heap.size w2 w') := hide (by
    refine (same14_any u _ live20T live20T _ (by decide) (HN1.out.kept HW2.out) HW1.out (by decide)).mono ?_
    rintro e w3 ⟨rfl, m, rfl⟩
    exact ⟨by rw [decide_eq_true rfl], HW2.out.trans ⟨rfl, rfl, rfl, Nat.le_refl _, fun _ _ => rfl⟩⟩)
  refine HS.out.mono ?_
  rintro e w3 ⟨rfl, hb3⟩
  have HTX := hide (plainText_any u live20T w3 (HN1.out.kept hb3) (by decide) (by decide))
  rw [live20_text] at HTX
  have HB3 := hide (bl_two HB1.out hb3)
  clear hb3 HS
  go_wp2_with fail
  refine HTX.out.mono ?_
  rintro e w4 ⟨rfl, hb4⟩
  have HB4 := hide (bl_two HB3.out hb4)
  clear hb4
  go_wp2_with fail
  go_ret
  exact ⟨rfl, HB4.out⟩
end Go.Proofs.Ytdeaofnhdbhknaa
