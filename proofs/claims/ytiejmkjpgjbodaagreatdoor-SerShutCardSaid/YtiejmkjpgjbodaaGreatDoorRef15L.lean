import Derived.Test.YtiejmkjpgjbodaaGreatDoorSerS
import Derived.Test.YtiejmkjpgjbodaaGreatDoorRef14L
namespace Go.Proofs.YtiejmkjpgjbodaaGreatDoor
open Go.RowKit
set_option linter.unusedVariables false
set_option linter.unusedSimpArgs false
set_option maxRecDepth 100000
def live15a : List UInt8 := [60, 112, 32, 120, 61, 34, 38, 113, 117, 111, 116, 59, 34, 62, 97, 38, 108, 116, 59, 98, 60, 98, 114, 62, 60, 47, 112, 62, 60, 115, 116, 121, 108, 101, 62, 60, 38, 60, 47, 115, 116, 121, 108, 101, 62]
def t15a : Tr := .cons ⟨[112], [([120], [34])], []⟩ (.cons (txH [97, 60, 98]) .nil (.cons ⟨[98, 114], [], []⟩ .nil .nil)) (.cons ⟨[115, 116, 121, 108, 101], [], []⟩ (.cons (txH [60, 38]) .nil .nil) .nil)
def t15b : Tr := .cons ⟨[112], [], []⟩ (.cons ⟨[112], [], []⟩ .nil .nil) .nil
theorem w15a : writeT t15a = live15a := by decide +kernel
theorem x15a : textT t15a = [97, 60, 98, 60, 38] := by decide +kernel
theorem s15a : stableB t15a = true := by decide +kernel
theorem s15b : stableB t15b = false := by decide +kernel
theorem small15 : t15a.all smallH = true ∧ t15b.all smallH = true ∧ (writeT t15b).length ≤ 8000000 := by decide +kernel
def l15a0 : Array Value := #[.string ⟨#[120]⟩, .string ⟨#[34]⟩]
def l15a1 : Array Value := #[.string ⟨#[]⟩, .slice none 0 0, .string ⟨#[97, 60, 98]⟩, .slice none 0 0, .string ⟨#[98, 114]⟩, .slice none 0 0, .string ⟨#[]⟩, .slice none 0 0]
def l15a2 : Array Value := #[.string ⟨#[]⟩, .slice none 0 0, .string ⟨#[60, 38]⟩, .slice none 0 0]
def l15a3 (n : Nat) : Array Value := #[.string ⟨#[112]⟩, .slice (some ⟨n, 0, none⟩) 1 1, .string ⟨#[]⟩, .slice (some ⟨n + 1, 0, none⟩) 2 2, .string ⟨#[115, 116, 121, 108, 101]⟩, .slice none 0 0, .string ⟨#[]⟩, .slice (some ⟨n + 1 + 1, 0, none⟩) 1 1]
def l15W (w : World) : World := (((w.alloc (.cells l15a0 43)).alloc (.cells l15a1 33)).alloc (.cells l15a2 33)).alloc (.cells (l15a3 w.heap.size) 33)
theorem l15_blocks (w : World) : (l15W w).heap[w.heap.size]? = some (Obj.cells l15a0 43 (0, 0)) ∧ (l15W w).heap[w.heap.size + 1]? = some (Obj.cells l15a1 33 (0, 0)) ∧ (l15W w).heap[w.heap.size + 1 + 1]? = some (Obj.cells l15a2 33 (0, 0)) ∧ (l15W w).heap[w.heap.size + 1 + 1 + 1]? = some (Obj.cells (l15a3 w.heap.size) 33 (0, 0)) ∧ Below w.heap.size w (l15W w) := by
  have e : (l15W w).heap = (((w.heap.push (.cells l15a0 43)).push (.cells l15a1 33)).push (.cells l15a2 33)).push (.cells (l15a3 w.heap.size) 33) := rfl
  have hs : ∀ (h : Array Obj) (o : Obj) (k : Nat), k ≠ h.size → (h.push o)[k]? = h[k]? := fun h o k hk => by rw [Array.getElem?_push, if_neg hk]
  have ht : ∀ (h : Array Obj) (o : Obj) (k : Nat), k = h.size → (h.push o)[k]? = some o := fun h o k hk => by rw [Array.getElem?_push, if_pos hk]
  refine ⟨?_, ?_, ?_, ?_, ⟨rfl, rfl, rfl, ?_, fun k hk => ?_⟩⟩
  · rw [e, hs _ _ _ (by simp only [Array.size_push]; omega), hs _ _ _ (by simp only [Array.size_push]; omega), hs _ _ _ (by simp only [Array.size_push]; omega), ht _ _ _ rfl]
  · rw [e, hs _ _ _ (by simp only [Array.size_push]; omega), hs _ _ _ (by simp only [Array.size_push]; omega), ht _ _ _ (by simp only [Array.size_push])]
  · rw [e, hs _ _ _ (by simp only [Array.size_push]; omega), ht _ _ _ (by simp only [Array.size_push])]
  · rw [e, ht _ _ _ (by simp only [Array.size_push])]
  · rw [e]; simp only [Array.size_push]; omega
  · rw [e, hs _ _ _ (by simp only [Array.size_push]; omega), hs _ _ _ (by simp only [Array.size_push]; omega), hs _ _ _ (by simp only [Array.size_push]; omega), hs _ _ _ (by omega)]
theorem live15_lit (w : World) : NodesIn (l15W w) (.slice (some ⟨w.heap.size + 1 + 1 + 1, 0, none⟩) 2 2) t15a := by
  obtain ⟨b0, b1, b2, b3, _⟩ := l15_blocks w
  have k1 : NodesIn (l15W w) (.slice (some ⟨w.heap.size + 1, 0, none⟩) 2 2) (.cons (txH [97, 60, 98]) .nil (.cons ⟨[98, 114], [], []⟩ .nil .nil)) :=
    nodes_of (node_at b1 rfl rfl rfl rfl (no_attrs _) (no_nodes _) (node_at b1 rfl rfl rfl rfl (no_attrs _) (no_nodes _) trivial)) rfl (by decide)
  have k2 : NodesIn (l15W w) (.slice (some ⟨w.heap.size + 1 + 1, 0, none⟩) 1 1) (.cons (txH [60, 38]) .nil .nil) := nodes_of (node_at b2 rfl rfl rfl rfl (no_attrs _) (no_nodes _) trivial) rfl (by decide)
  have k0 : AttrsC (fun b => b < (l15W w).heap.size) (l15W w) (.slice (some ⟨w.heap.size, 0, none⟩) 1 1) [([120], [34])] := some_attrs [([120], [34])] b0 rfl (by decide)
  exact nodes_of (node_at b3 rfl rfl rfl rfl k0 k1 (node_at b3 rfl rfl rfl rfl (no_attrs _) k2 trivial)) rfl (by decide)
def l15b0 : Array Value := #[.string ⟨#[112]⟩, .slice none 0 0, .string ⟨#[]⟩, .slice none 0 0]
def l15b1 (n : Nat) : Array Value := #[.string ⟨#[112]⟩, .slice none 0 0, .string ⟨#[]⟩, .slice (some ⟨n, 0, none⟩) 1 1]
def l15bW (w : World) : World := (w.alloc (.cells l15b0 33)).alloc (.cells (l15b1 w.heap.size) 33)
theorem l15b_blocks (w : World) : (l15bW w).heap[w.heap.size]? = some (Obj.cells l15b0 33 (0, 0)) ∧ (l15bW w).heap[w.heap.size + 1]? = some (Obj.cells (l15b1 w.heap.size) 33 (0, 0)) ∧ Below w.heap.size w (l15bW w) := by
  have e : (l15bW w).heap = (w.heap.push (.cells l15b0 33)).push (.cells (l15b1 w.heap.size) 33) := rfl
  have hs : ∀ (h : Array Obj) (o : Obj) (k : Nat), k ≠ h.size → (h.push o)[k]? = h[k]? := fun h o k hk => by rw [Array.getElem?_push, if_neg hk]
  have ht : ∀ (h : Array Obj) (o : Obj) (k : Nat), k = h.size → (h.push o)[k]? = some o := fun h o k hk => by rw [Array.getElem?_push, if_pos hk]
  refine ⟨?_, ?_, ⟨rfl, rfl, rfl, ?_, fun k hk => ?_⟩⟩
  · rw [e, hs _ _ _ (by simp only [Array.size_push]; omega), ht _ _ _ rfl]
  · rw [e, ht _ _ _ (by simp only [Array.size_push])]
  · rw [e]; simp only [Array.size_push]; omega
  · rw [e, hs _ _ _ (by simp only [Array.size_push]; omega), hs _ _ _ (by omega)]
theorem live15b_lit (w : World) : NodesIn (l15bW w) (.slice (some ⟨w.heap.size + 1, 0, none⟩) 1 1) t15b := by
  obtain ⟨b0, b1, _⟩ := l15b_blocks w
  have k1 : NodesIn (l15bW w) (.slice (some ⟨w.heap.size, 0, none⟩) 1 1) (.cons ⟨[112], [], []⟩ .nil .nil) := nodes_of (node_at b0 rfl rfl rfl rfl (no_attrs _) (no_nodes _) trivial) rfl (by decide)
  exact nodes_of (node_at b1 rfl rfl rfl rfl (no_attrs _) k1 trivial) rfl (by decide)
set_option maxHeartbeats 16000000 in
theorem live15_any (w : World) (hE : EnvX w) : Calls Tryz.prog 19 #[] w fun e w' => e = .returned (.bool true) ∧ Below w.heap.size w w' := by
  have hl := (l15_blocks w).2.2.2.2
  have hn := live15_lit w
  have HK : Hid (∀ w', Below (l15W w).heap.size (l15W w) w' → Calls Tryz.prog 23 #[.slice (some ⟨w.heap.size + 1 + 1 + 1, 0, none⟩) 2 2] w' (fun e w'' => e = .returned (.string ⟨#[97, 60, 98, 60, 38]⟩) ∧ Below w'.heap.size w' w'') ∧
      Calls Tryz.prog 21 #[.slice (some ⟨w.heap.size + 1 + 1 + 1, 0, none⟩) 2 2] w' (fun e w'' => e = .returned (.string ⟨live15a.toArray⟩) ∧ Below w'.heap.size w' w'') ∧
      Calls Tryz.prog 9 #[.slice (some ⟨w.heap.size + 1 + 1 + 1, 0, none⟩) 2 2] w' (fun e w'' => e = .returned (.bool true) ∧ Below w'.heap.size w' w'') ∧ EnvX w' ∧ Below w.heap.size w w') := hide (fun w' hb => by
    have hE' := (hE.kept hl).kept hb
    have hn' := hn.kept hb
    refine ⟨?_, ?_, ?_, hE', bl_two hl hb⟩
    · have := serText_any _ t15a w' hn' (by decide) (by rw [x15a]; decide)
      rw [x15a] at this; exact this
    · have := serWrite_any _ t15a w' hE' hn' small15.1 (by decide) (by rw [w15a]; decide)
      rw [w15a] at this; exact this
    · have := serStable_any _ t15a w' hE' hn' small15.1 (by decide) (by rw [w15a]; decide)
      rw [s15a] at this; exact this)
  have HB0 := hide (Below.refl (l15W w).heap.size (l15W w))
  have hlw : live15a.toArray = #[60, 112, 32, 120, 61, 34, 38, 113, 117, 111, 116, 59, 34, 62, 97, 38, 108, 116, 59, 98, 60, 98, 114, 62, 60, 47, 112, 62, 60, 115, 116, 121, 108, 101, 62, 60, 38, 60, 47, 115, 116, 121, 108, 101, 62] := rfl
  rw [hlw] at HK
  clear hl hn hE hlw
  go_enter Tryz.func19, Tryz.ntmps19
  go_wp2_with fail
  refine (HK.out _ HB0.out).2.1.mono ?_
  rintro e w1 ⟨rfl, hb1⟩
  have HB1 := hide (bl_two HB0.out hb1)
  clear hb1
  go_wp2_with fail
  refine (HK.out _ HB1.out).1.mono ?_
  rintro e w2 ⟨rfl, hb2⟩
  have HB2 := hide (bl_two HB1.out hb2)
  clear hb2
  go_wp2_with fail
  refine (HK.out _ HB2.out).2.2.1.mono ?_
  rintro e w3 ⟨rfl, hb3⟩
  have HB3 := hide (bl_two HB2.out hb3)
  clear hb3
  have HE3 := hide (HK.out _ HB3.out).2.2.2.1
  have HL3 := hide (HK.out _ HB3.out).2.2.2.2
  obtain ⟨b0, b1, hl⟩ := l15b_blocks w3
  have HLB := hide hl
  have HSB := hide (serStable_any _ t15b (l15bW w3) (HE3.out.kept hl) (live15b_lit w3) small15.2.1 (by decide) small15.2.2)
  rw [s15b] at HSB
  clear b0 b1 hl
  go_wp2_with fail
  refine HSB.out.mono ?_
  rintro e w4 ⟨rfl, hb4⟩
  have HB4 := hide (bl_two (bl_two HL3.out HLB.out) hb4)
  clear hb4
  go_wp2_with fail
  go_ret
  exact ⟨rfl, HB4.out⟩
end Go.Proofs.YtiejmkjpgjbodaaGreatDoor
