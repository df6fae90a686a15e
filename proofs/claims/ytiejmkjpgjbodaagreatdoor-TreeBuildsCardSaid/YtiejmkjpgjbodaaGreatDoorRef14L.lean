import Derived.Test.YtiejmkjpgjbodaaGreatDoorTreeY
import Derived.Test.YtiejmkjpgjbodaaGreatDoorTreeD
import Derived.Test.YtiejmkjpgjbodaaGreatDoorBaseQ
namespace Go.Proofs.YtiejmkjpgjbodaaGreatDoor
open Go.RowKit
set_option linter.unusedVariables false
set_option linter.unusedSimpArgs false
set_option maxRecDepth 100000
def liveS14 : List UInt8 := [60, 112, 62, 97, 60, 98, 62, 98, 60, 100, 105, 118, 32, 120, 61, 121, 62, 99, 60, 47, 98, 62, 100, 60, 98, 114, 62, 101]
def elH (n : List UInt8) (A : List AtL) : NdH := ⟨n, A, []⟩
def txH (x : List UInt8) : NdH := ⟨[], [], x⟩
def liveT14 : Tr := .cons (elH [112] []) (.cons (txH [97]) .nil (.cons (elH [98] []) (.cons (txH [98]) .nil .nil) .nil)) (.cons (elH [100, 105, 118] [([120], [121])]) (.cons (txH [99, 100]) .nil (.cons (elH [98, 114] []) .nil (.cons (txH [101]) .nil .nil))) .nil)
theorem live14a : buildP (scanL decE [] [] liveS14) = liveT14 := by decide +kernel
theorem node_at {w : World} {g o : Nat} {cs : Array Value} {T : TypeId} {fz : Nat × Nat} (hb : w.heap[g]? = some (Obj.cells cs T fz)) {h : NdH} {K R : Tr} {av kv : Value} (c0 : cs[o]? = some (.string (str h.name))) (c1 : cs[o + 1]? = some av) (c2 : cs[o + 2]? = some (.string (str h.text))) (c3 : cs[o + 3]? = some kv)
    (ha : AttrsC (fun b => b < w.heap.size) w av h.attrs) (hk : NodesIn w kv K) (hr : NodesAt (fun b => b < w.heap.size) w R ⟨g, o + 4, none⟩) : NodesAt (fun b => b < w.heap.size) w (.cons h K R) ⟨g, o, none⟩ := by
  refine ⟨lt_of_block hb, (Lib.cell_of_heap hb o).trans c0, (Lib.cell_of_heap hb (o + 2)).trans c2, ⟨av, (Lib.cell_of_heap hb (o + 1)).trans c1, ha⟩, ⟨kv, (Lib.cell_of_heap hb (o + 3)).trans c3, hk⟩, ?_⟩
  rw [Addr.add_lit]
  exact hr
theorem nodes_of {w : World} {g n : Nat} {t : Tr} (h : NodesAt (fun b => b < w.heap.size) w t ⟨g, 0, none⟩) (hn : t.len = n) (hm : n ≤ maxLen) : NodesIn w (.slice (some ⟨g, 0, none⟩) n n) t := by
  subst hn
  exact .inr ⟨⟨g, 0, none⟩, _, rfl, Nat.le_refl _, hm, h⟩
theorem no_nodes (w : World) : NodesIn w (.slice none 0 0) .nil := .inl ⟨rfl, rfl⟩
theorem no_attrs {C : Nat → Prop} (w : World) : AttrsC C w (.slice none 0 0) [] := ⟨.inl ⟨rfl, rfl⟩, fun a n c e => (by cases e)⟩
theorem some_attrs {w : World} {g n : Nat} {T : TypeId} {fz : Nat × Nat} (l : List AtL) (h : w.heap[g]? = some (.cells (atVals l).toArray T fz)) (hn : l.length = n) (hl : n ≤ maxLen) : AttrsC (fun b => b < w.heap.size) w (.slice (some ⟨g, 0, none⟩) n n) l := by
  subst hn
  refine ⟨attrs_lit l h hl, fun a n c e _ => ?_⟩
  injection e with e _ _
  injection e with e
  rw [← e]; exact lt_of_block h
def l14c0 : Array Value := #[.string ⟨#[]⟩, .slice none 0 0, .string ⟨#[98]⟩, .slice none 0 0]
def l14c1 (g : Nat) : Array Value := #[.string ⟨#[]⟩, .slice none 0 0, .string ⟨#[97]⟩, .slice none 0 0, .string ⟨#[98]⟩, .slice none 0 0, .string ⟨#[]⟩, .slice (some ⟨g, 0, none⟩) 1 1]
def l14c3 : Array Value := #[.string ⟨#[]⟩, .slice none 0 0, .string ⟨#[99, 100]⟩, .slice none 0 0, .string ⟨#[98, 114]⟩, .slice none 0 0, .string ⟨#[]⟩, .slice none 0 0, .string ⟨#[]⟩, .slice none 0 0, .string ⟨#[101]⟩, .slice none 0 0]
def l14c4 (g1 g2 g3 : Nat) : Array Value := #[.string ⟨#[112]⟩, .slice none 0 0, .string ⟨#[]⟩, .slice (some ⟨g1, 0, none⟩) 2 2, .string ⟨#[100, 105, 118]⟩, .slice (some ⟨g2, 0, none⟩) 1 1, .string ⟨#[]⟩, .slice (some ⟨g3, 0, none⟩) 3 3]
def l14W (w : World) : World := ((((w.alloc (.cells l14c0 33)).alloc (.cells (l14c1 w.heap.size) 33)).alloc (.cells #[.string ⟨#[120]⟩, .string ⟨#[121]⟩] 43)).alloc (.cells l14c3 33)).alloc (.cells (l14c4 (w.heap.size + 1) (w.heap.size + 2) (w.heap.size + 3)) 33)
theorem l14_blocks (w : World) : (l14W w).heap[w.heap.size]? = some (Obj.cells l14c0 33 (0, 0)) ∧ (l14W w).heap[w.heap.size + 1]? = some (Obj.cells (l14c1 w.heap.size) 33 (0, 0)) ∧ (l14W w).heap[w.heap.size + 2]? = some (Obj.cells #[.string ⟨#[120]⟩, .string ⟨#[121]⟩] 43 (0, 0)) ∧ (l14W w).heap[w.heap.size + 3]? = some (Obj.cells l14c3 33 (0, 0)) ∧ (l14W w).heap[w.heap.size + 4]? = some (Obj.cells (l14c4 (w.heap.size + 1) (w.heap.size + 2) (w.heap.size + 3)) 33 (0, 0)) ∧ Below w.heap.size w (l14W w) := by
  have e : (l14W w).heap = ((((w.heap.push (.cells l14c0 33)).push (.cells (l14c1 w.heap.size) 33)).push (.cells #[.string ⟨#[120]⟩, .string ⟨#[121]⟩] 43)).push (.cells l14c3 33)).push (.cells (l14c4 (w.heap.size + 1) (w.heap.size + 2) (w.heap.size + 3)) 33) := rfl
  have hs : ∀ (h : Array Obj) (o : Obj) (k : Nat), k ≠ h.size → (h.push o)[k]? = h[k]? := fun h o k hk => by rw [Array.getElem?_push, if_neg hk]
  have ht : ∀ (h : Array Obj) (o : Obj) (k : Nat), k = h.size → (h.push o)[k]? = some o := fun h o k hk => by rw [Array.getElem?_push, if_pos hk]
  refine ⟨?_, ?_, ?_, ?_, ?_, ⟨rfl, rfl, rfl, ?_, fun k hk => ?_⟩⟩
  · rw [e, hs _ _ _ (by simp only [Array.size_push]; omega), hs _ _ _ (by simp only [Array.size_push]; omega), hs _ _ _ (by simp only [Array.size_push]; omega), hs _ _ _ (by simp only [Array.size_push]; omega), ht _ _ _ rfl]
  · rw [e, hs _ _ _ (by simp only [Array.size_push]; omega), hs _ _ _ (by simp only [Array.size_push]; omega), hs _ _ _ (by simp only [Array.size_push]; omega), ht _ _ _ (by simp only [Array.size_push])]
  · rw [e, hs _ _ _ (by simp only [Array.size_push]; omega), hs _ _ _ (by simp only [Array.size_push]; omega), ht _ _ _ (by simp only [Array.size_push])]
  · rw [e, hs _ _ _ (by simp only [Array.size_push]; omega), ht _ _ _ (by simp only [Array.size_push])]
  · rw [e, ht _ _ _ (by simp only [Array.size_push])]
  · rw [e]; simp only [Array.size_push]; omega
  · rw [e, hs _ _ _ (by simp only [Array.size_push]; omega), hs _ _ _ (by simp only [Array.size_push]; omega), hs _ _ _ (by simp only [Array.size_push]; omega), hs _ _ _ (by simp only [Array.size_push]; omega), hs _ _ _ (by omega)]
theorem live14_lit (w : World) : NodesIn (l14W w) (.slice (some ⟨w.heap.size + 4, 0, none⟩) 2 2) liveT14 := by
  obtain ⟨b0, b1, b2, b3, b4, _⟩ := l14_blocks w
  have k0 : NodesIn (l14W w) (.slice (some ⟨w.heap.size, 0, none⟩) 1 1) (.cons (txH [98]) .nil .nil) := nodes_of (node_at b0 rfl rfl rfl rfl (no_attrs _) (no_nodes _) trivial) rfl (by decide)
  have k1 : NodesIn (l14W w) (.slice (some ⟨w.heap.size + 1, 0, none⟩) 2 2) (.cons (txH [97]) .nil (.cons (elH [98] []) (.cons (txH [98]) .nil .nil) .nil)) :=
    nodes_of (node_at b1 rfl rfl rfl rfl (no_attrs _) (no_nodes _) (node_at b1 rfl rfl rfl rfl (no_attrs _) k0 trivial)) rfl (by decide)
  have k3 : NodesIn (l14W w) (.slice (some ⟨w.heap.size + 3, 0, none⟩) 3 3) (.cons (txH [99, 100]) .nil (.cons (elH [98, 114] []) .nil (.cons (txH [101]) .nil .nil))) :=
    nodes_of (node_at b3 rfl rfl rfl rfl (no_attrs _) (no_nodes _) (node_at b3 rfl rfl rfl rfl (no_attrs _) (no_nodes _) (node_at b3 rfl rfl rfl rfl (no_attrs _) (no_nodes _) trivial))) rfl (by decide)
  have k2 : AttrsC (fun b => b < (l14W w).heap.size) (l14W w) (.slice (some ⟨w.heap.size + 2, 0, none⟩) 1 1) [([120], [121])] := some_attrs [([120], [121])] b2 rfl (by decide)
  exact nodes_of (node_at b4 rfl rfl rfl rfl (no_attrs _) k1 (node_at b4 rfl rfl rfl rfl k2 k3 trivial)) rfl (by decide)
set_option maxHeartbeats 8000000 in
theorem live14_any (w : World) (hE : EnvX w) : Calls Tryz.prog 11 #[] w fun e w' => e = .returned (.bool true) ∧ Below w.heap.size w w' := by
  obtain ⟨hE1, m, hm⟩ := hE
  have hbd := treeBuild_any ⟨#[60, 112, 62, 97, 60, 98, 62, 98, 60, 100, 105, 118, 32, 120, 61, 121, 62, 99, 60, 47, 98, 62, 100, 60, 98, 114, 62, 101]⟩ m w (by decide) hE1 hm
  have HBD := hide hbd
  clear hbd hE1 hm
  go_enter Tryz.func11, Tryz.ntmps11
  go_wp2_with fail
  refine HBD.out.mono ?_
  rintro e w1 ⟨v, rfl, hN, hb⟩
  have hN : NodesIn w1 v liveT14 := by rw [← live14a]; exact hN
  obtain ⟨A, c, rfl⟩ := NodesC.form hN
  have HN := hide hN
  have HB := hide hb
  have hl := (l14_blocks w1).2.2.2.2.2
  have HL := hide hl
  have hs := same14_any _ _ liveT14 liveT14 (l14W w1) (by decide) (hN.kept hl) (live14_lit w1) (by decide +kernel)
  rw [decide_eq_true rfl] at hs
  have HS := hide hs
  clear hN hb hl hs
  go_wp2_with fail
  refine HS.out.mono ?_
  rintro e w2 ⟨rfl, q, hq⟩
  have hb2 : Below (l14W w1).heap.size (l14W w1) w2 := below_of13 ⟨q, hq⟩
  have HB2 := hide (HB.out.trans ((HL.out.trans (hb2.mono HL.out.size)).mono HB.out.size))
  have HN2 := hide ((HN.out.kept HL.out).kept hb2)
  clear hq hb2 HS
  go_wp2_with fail
  refine (count14_any _ _ _ HN2.out (by decide)).mono ?_
  rintro e w3 ⟨rfl, hb3⟩
  have HB3 := hide (HB2.out.trans (hb3.mono HB2.out.size))
  have HN3 := hide (HN2.out.kept hb3)
  clear hb3
  rw [show (liveT14.count : Int) = 8 from by decide]
  go_wp2_with fail
  refine (depth14_any _ _ _ HN3.out (by decide)).mono ?_
  rintro e w4 ⟨rfl, hb4⟩
  have HB4 := hide (HB3.out.trans (hb4.mono HB3.out.size))
  clear hb4
  rw [show (liveT14.depth : Int) = 3 from by decide]
  go_wp2_with fail
  refine (void14_any _ _).mono ?_
  rintro e w5 ⟨rfl, rfl⟩
  rw [show voidL.contains (⟨#[98, 114]⟩ : ByteArray).data.toList = true by decide +kernel]
  go_wp2_with fail
  refine (void14_any _ _).mono ?_
  rintro e w5 ⟨rfl, rfl⟩
  rw [show voidL.contains (⟨#[98]⟩ : ByteArray).data.toList = false by decide +kernel]
  go_wp2_with fail
  refine (closes14_any _ _ _).mono ?_
  rintro e w5 ⟨rfl, rfl⟩
  rw [show closesB (⟨#[100, 105, 118]⟩ : ByteArray).data.toList (⟨#[112]⟩ : ByteArray).data.toList = true by decide +kernel]
  go_wp2_with fail
  refine (closes14_any _ _ _).mono ?_
  rintro e w5 ⟨rfl, rfl⟩
  rw [show closesB (⟨#[98]⟩ : ByteArray).data.toList (⟨#[112]⟩ : ByteArray).data.toList = false by decide +kernel]
  go_wp2_with fail
  go_ret
  exact ⟨rfl, HB4.out⟩
end Go.Proofs.YtiejmkjpgjbodaaGreatDoor
