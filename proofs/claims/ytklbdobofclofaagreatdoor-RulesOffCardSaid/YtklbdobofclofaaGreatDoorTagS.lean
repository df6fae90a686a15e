/- The memory of strings.Replacer at link's six texts. No statement is proved here. -/
import Derived.Test.YtklbdobofclofaaGreatDoorRepS
namespace Go.Proofs.YtklbdobofclofaaGreatDoor
open Go.RowKit
set_option linter.unusedVariables false
set_option linter.unusedSimpArgs false
set_option maxRecDepth 100000
/-- the six texts -/
def OldNewT (g : Nat) (w : World) : Prop :=
  w.cell? ⟨g, 0, none⟩ = some (.string ⟨#[9]⟩) ∧ w.cell? ⟨g, 1, none⟩ = some (.string ⟨#[]⟩) ∧ w.cell? ⟨g, 2, none⟩ = some (.string ⟨#[10]⟩) ∧ w.cell? ⟨g, 3, none⟩ = some (.string ⟨#[]⟩) ∧ w.cell? ⟨g, 4, none⟩ = some (.string ⟨#[13]⟩) ∧ w.cell? ⟨g, 5, none⟩ = some (.string ⟨#[]⟩)
/-- a row of no bytes that is not nil -/
def EmptyV (v : Value) : Prop := ∃ g c : Nat, v = .slice (some ⟨g, 0, none⟩) 0 c
/-- a replacer of three signs: block R; the texts to replace: block G -/
def TagSt (w0 : World) (R G : Nat) (v9 v10 v13 : Value) (l : Nat) (x y z : ByteArray) (wr : World) : Prop :=
  Below w0.heap.size w0 wr ∧ w0.heap.size ≤ R ∧ w0.heap.size ≤ G ∧ R ≠ G ∧
  (∀ i : Nat, i < 256 → wr.cell? ⟨R, i, none⟩ = some (if i = 9 then v9 else if i = 10 then v10 else if i = 13 then v13 else nilS)) ∧ (∀ i : Nat, wr.frozen? ⟨R, i, none⟩ = false) ∧
  wr.cell? ⟨R, 256, none⟩ = some (.slice (some ⟨G, 0, none⟩) l 3) ∧ wr.cell? ⟨G, 0, none⟩ = some (.string x) ∧ wr.cell? ⟨G, 1, none⟩ = some (.string y) ∧ wr.cell? ⟨G, 2, none⟩ = some (.string z) ∧ (∀ i : Nat, wr.frozen? ⟨G, i, none⟩ = false)
section
variable {w0 wr : World} {R G l : Nat} {v9 v10 v13 : Value} {x y z : ByteArray}
theorem TagSt.ltR (h : TagSt w0 R G v9 v10 v13 l x y z wr) : R < wr.heap.size := World.block_lt_of_cell? wr _ h.2.2.2.2.2.2.1
theorem TagSt.ltG (h : TagSt w0 R G v9 v10 v13 l x y z wr) : G < wr.heap.size := World.block_lt_of_cell? wr _ h.2.2.2.2.2.2.2.1
theorem TagSt.below (h : TagSt w0 R G v9 v10 v13 l x y z wr) : Below w0.heap.size w0 wr := h.1
theorem TagSt.setG0 (h : TagSt w0 R G v9 v10 v13 l x y z wr) (x' : ByteArray) : TagSt w0 R G v9 v10 v13 l x' y z (wr.setCell ⟨G, 0, none⟩ (.string x')) := by
  obtain ⟨B0, hR, hG, hne, hc, hf, h256, hG0, hG1, hG2, hfG⟩ := h
  exact ⟨B0.setCell hG _, hR, hG, hne, fun i hi => (World.cell?_setCell_other _ _ _ _ (ne_blk hne.symm)).trans (hc i hi), fun i => by rw [World.frozen?_setCell]; exact hf i,
    (World.cell?_setCell_other _ _ _ _ (ne_blk hne.symm)).trans h256, World.cell?_setCell_same _ _ _ hG0, (World.cell?_setCell_other _ _ _ _ (ne_off (by decide))).trans hG1, (World.cell?_setCell_other _ _ _ _ (ne_off (by decide))).trans hG2, fun i => by rw [World.frozen?_setCell]; exact hfG i⟩
theorem TagSt.setG1 (h : TagSt w0 R G v9 v10 v13 l x y z wr) (y' : ByteArray) : TagSt w0 R G v9 v10 v13 l x y' z (wr.setCell ⟨G, 1, none⟩ (.string y')) := by
  obtain ⟨B0, hR, hG, hne, hc, hf, h256, hG0, hG1, hG2, hfG⟩ := h
  exact ⟨B0.setCell hG _, hR, hG, hne, fun i hi => (World.cell?_setCell_other _ _ _ _ (ne_blk hne.symm)).trans (hc i hi), fun i => by rw [World.frozen?_setCell]; exact hf i,
    (World.cell?_setCell_other _ _ _ _ (ne_blk hne.symm)).trans h256, (World.cell?_setCell_other _ _ _ _ (ne_off (by decide))).trans hG0, World.cell?_setCell_same _ _ _ hG1, (World.cell?_setCell_other _ _ _ _ (ne_off (by decide))).trans hG2, fun i => by rw [World.frozen?_setCell]; exact hfG i⟩
theorem TagSt.setG2 (h : TagSt w0 R G v9 v10 v13 l x y z wr) (z' : ByteArray) : TagSt w0 R G v9 v10 v13 l x y z' (wr.setCell ⟨G, 2, none⟩ (.string z')) := by
  obtain ⟨B0, hR, hG, hne, hc, hf, h256, hG0, hG1, hG2, hfG⟩ := h
  exact ⟨B0.setCell hG _, hR, hG, hne, fun i hi => (World.cell?_setCell_other _ _ _ _ (ne_blk hne.symm)).trans (hc i hi), fun i => by rw [World.frozen?_setCell]; exact hf i,
    (World.cell?_setCell_other _ _ _ _ (ne_blk hne.symm)).trans h256, (World.cell?_setCell_other _ _ _ _ (ne_off (by decide))).trans hG0, (World.cell?_setCell_other _ _ _ _ (ne_off (by decide))).trans hG1, World.cell?_setCell_same _ _ _ hG2, fun i => by rw [World.frozen?_setCell]; exact hfG i⟩
theorem TagSt.setL (h : TagSt w0 R G v9 v10 v13 l x y z wr) (l' : Nat) : TagSt w0 R G v9 v10 v13 l' x y z (wr.setCell ⟨R, 256, none⟩ (.slice (some ⟨G, 0, none⟩) l' 3)) := by
  obtain ⟨B0, hR, hG, hne, hc, hf, h256, hG0, hG1, hG2, hfG⟩ := h
  exact ⟨B0.setCell hR _, hR, hG, hne, fun i hi => (World.cell?_setCell_other _ _ _ _ (ne_off (by omega))).trans (hc i hi), fun i => by rw [World.frozen?_setCell]; exact hf i,
    World.cell?_setCell_same _ _ _ h256, (World.cell?_setCell_other _ _ _ _ (ne_blk hne)).trans hG0, (World.cell?_setCell_other _ _ _ _ (ne_blk hne)).trans hG1, (World.cell?_setCell_other _ _ _ _ (ne_blk hne)).trans hG2, fun i => by rw [World.frozen?_setCell]; exact hfG i⟩
theorem TagSt.set9 (h : TagSt w0 R G v9 v10 v13 l x y z wr) (v : Value) : TagSt w0 R G v v10 v13 l x y z (wr.setCell ⟨R, 9, none⟩ v) := by
  obtain ⟨B0, hR, hG, hne, hc, hf, h256, hG0, hG1, hG2, hfG⟩ := h
  refine ⟨B0.setCell hR _, hR, hG, hne, fun i hi => ?_, fun i => by rw [World.frozen?_setCell]; exact hf i,
    (World.cell?_setCell_other _ _ _ _ (ne_off (by decide))).trans h256, (World.cell?_setCell_other _ _ _ _ (ne_blk hne)).trans hG0, (World.cell?_setCell_other _ _ _ _ (ne_blk hne)).trans hG1, (World.cell?_setCell_other _ _ _ _ (ne_blk hne)).trans hG2, fun i => by rw [World.frozen?_setCell]; exact hfG i⟩
  by_cases e : i = 9
  · subst e
    exact World.cell?_setCell_same _ _ _ (hc 9 hi)
  · refine (World.cell?_setCell_other _ _ _ _ (ne_off (Ne.symm e))).trans ?_
    rw [hc i hi]
    simp only [e, if_false]
theorem TagSt.set10 (h : TagSt w0 R G v9 v10 v13 l x y z wr) (v : Value) : TagSt w0 R G v9 v v13 l x y z (wr.setCell ⟨R, 10, none⟩ v) := by
  obtain ⟨B0, hR, hG, hne, hc, hf, h256, hG0, hG1, hG2, hfG⟩ := h
  refine ⟨B0.setCell hR _, hR, hG, hne, fun i hi => ?_, fun i => by rw [World.frozen?_setCell]; exact hf i,
    (World.cell?_setCell_other _ _ _ _ (ne_off (by decide))).trans h256, (World.cell?_setCell_other _ _ _ _ (ne_blk hne)).trans hG0, (World.cell?_setCell_other _ _ _ _ (ne_blk hne)).trans hG1, (World.cell?_setCell_other _ _ _ _ (ne_blk hne)).trans hG2, fun i => by rw [World.frozen?_setCell]; exact hfG i⟩
  by_cases e : i = 10
  · subst e
    exact World.cell?_setCell_same _ _ _ (hc 10 hi)
  · refine (World.cell?_setCell_other _ _ _ _ (ne_off (Ne.symm e))).trans ?_
    rw [hc i hi]
    simp only [e, if_false]
theorem TagSt.set13 (h : TagSt w0 R G v9 v10 v13 l x y z wr) (v : Value) : TagSt w0 R G v9 v10 v l x y z (wr.setCell ⟨R, 13, none⟩ v) := by
  obtain ⟨B0, hR, hG, hne, hc, hf, h256, hG0, hG1, hG2, hfG⟩ := h
  refine ⟨B0.setCell hR _, hR, hG, hne, fun i hi => ?_, fun i => by rw [World.frozen?_setCell]; exact hf i,
    (World.cell?_setCell_other _ _ _ _ (ne_off (by decide))).trans h256, (World.cell?_setCell_other _ _ _ _ (ne_blk hne)).trans hG0, (World.cell?_setCell_other _ _ _ _ (ne_blk hne)).trans hG1, (World.cell?_setCell_other _ _ _ _ (ne_blk hne)).trans hG2, fun i => by rw [World.frozen?_setCell]; exact hfG i⟩
  by_cases e : i = 13
  · subst e
    exact World.cell?_setCell_same _ _ _ (hc 13 hi)
  · refine (World.cell?_setCell_other _ _ _ _ (ne_off (Ne.symm e))).trans ?_
    rw [hc i hi]
    simp only [e, if_false]
theorem TagSt.kept {w' : World} (h : TagSt w0 R G v9 v10 v13 l x y z wr) (hb : Below wr.heap.size wr w') : TagSt w0 R G v9 v10 v13 l x y z w' := by
  have lR := h.ltR
  have lG := h.ltG
  obtain ⟨B0, hR, hG, hne, hc, hf, h256, hG0, hG1, hG2, hfG⟩ := h
  exact ⟨B0.trans (hb.mono (Nat.le_of_lt (Nat.lt_of_le_of_lt hR lR))), hR, hG, hne, fun i hi => (hb.cell (p := ⟨R, i, none⟩) lR).trans (hc i hi), fun i => (hb.frozen (p := ⟨R, i, none⟩) lR).trans (hf i),
    (hb.cell (p := ⟨R, 256, none⟩) lR).trans h256, (hb.cell (p := ⟨G, 0, none⟩) lG).trans hG0, (hb.cell (p := ⟨G, 1, none⟩) lG).trans hG1, (hb.cell (p := ⟨G, 2, none⟩) lG).trans hG2, fun i => (hb.frozen (p := ⟨G, i, none⟩) lG).trans (hfG i)⟩
theorem TagSt.alloc (h : TagSt w0 R G v9 v10 v13 l x y z wr) (o : Obj) : TagSt w0 R G v9 v10 v13 l x y z (wr.alloc o) := h.kept ((Below.refl _ wr).alloc (Nat.le_refl _) _)
end
/-- the replacer as it is built -/
def TagEnd (w0 : World) (R : Nat) (wr : World) : Prop :=
  ∃ (G : Nat) (v9 v10 v13 : Value), EmptyV v9 ∧ EmptyV v10 ∧ EmptyV v13 ∧ TagSt w0 R G v9 v10 v13 3 ⟨#[13]⟩ ⟨#[10]⟩ ⟨#[9]⟩ wr
theorem TagEnd.below {w0 wr : World} {R : Nat} (h : TagEnd w0 R wr) : Below w0.heap.size w0 wr := by obtain ⟨_, _, _, _, _, _, _, h⟩ := h; exact h.below
/-- the replacer as it is built, seen from an elder world W; block b, which holds its strings.Replacer, lies below its parts -/
def TagAt (W : World) (b R : Nat) (wr : World) : Prop :=
  ∃ (G : Nat) (v9 v10 v13 : Value), EmptyV v9 ∧ EmptyV v10 ∧ EmptyV v13 ∧ TagSt W R G v9 v10 v13 3 ⟨#[13]⟩ ⟨#[10]⟩ ⟨#[9]⟩ wr ∧ W.heap.size ≤ b ∧ b < R ∧ b < G
theorem TagEnd.at {W w0 wr : World} {R b : Nat} (h : TagEnd w0 R wr) (hb : Below W.heap.size W w0) (hW : W.heap.size ≤ b) (hl : b < w0.heap.size) : TagAt W b R wr := by
  obtain ⟨G, v9, v10, v13, e9, e10, e13, ⟨B0, hR, hG, hr⟩⟩ := h
  exact ⟨G, v9, v10, v13, e9, e10, e13, ⟨hb.trans (B0.mono hb.size), Nat.le_trans hb.size hR, Nat.le_trans hb.size hG, hr⟩, hW, by omega, by omega⟩
theorem TagAt.below {W wr : World} {b R : Nat} (h : TagAt W b R wr) : Below W.heap.size W wr := by obtain ⟨_, _, _, _, _, _, _, h, _⟩ := h; exact h.below
theorem TagAt.set {W wr : World} {b R : Nat} (h : TagAt W b R wr) (i : Nat) (v : Value) : TagAt W b R (wr.setCell ⟨b, i, none⟩ v) := by
  obtain ⟨G, v9, v10, v13, e9, e10, e13, ⟨B0, hR, hG, hne, hc, hf, h256, hG0, hG1, hG2, hfG⟩, hW, l1, l2⟩ := h
  have nR : b ≠ R := Nat.ne_of_lt l1
  have nG : b ≠ G := Nat.ne_of_lt l2
  exact ⟨G, v9, v10, v13, e9, e10, e13, ⟨B0.setCell hW _, hR, hG, hne, fun j hj => (World.cell?_setCell_other _ _ _ _ (ne_blk nR)).trans (hc j hj), fun j => by rw [World.frozen?_setCell]; exact hf j,
    (World.cell?_setCell_other _ _ _ _ (ne_blk nR)).trans h256, (World.cell?_setCell_other _ _ _ _ (ne_blk nG)).trans hG0, (World.cell?_setCell_other _ _ _ _ (ne_blk nG)).trans hG1, (World.cell?_setCell_other _ _ _ _ (ne_blk nG)).trans hG2, fun j => by rw [World.frozen?_setCell]; exact hfG j⟩,
    hW, l1, l2⟩
theorem TagAt.kept {W wr w' : World} {b R : Nat} (h : TagAt W b R wr) (hb : Below wr.heap.size wr w') : TagAt W b R w' := by
  obtain ⟨G, v9, v10, v13, e9, e10, e13, h, hr⟩ := h
  exact ⟨G, v9, v10, v13, e9, e10, e13, h.kept hb, hr⟩
theorem TagAt.drew {W wr : World} {b R : Nat} (h : TagAt W b R wr) : TagAt W b R wr.drew := h.kept ((Below.refl _ wr).drew)
/-- a strings.Replacer that has replaced nothing yet -/
def NewAtT (b : Nat) (w : World) : Prop :=
  w.cell? ⟨b, 0, none⟩ = some (.int .u32 0) ∧ w.cell? ⟨b, 1, none⟩ = some (.int .i32 0) ∧ w.cell? ⟨b, 3, none⟩ = some .nilIface ∧ (∀ i : Nat, w.frozen? ⟨b, i, none⟩ = false) ∧ ∃ g c : Nat, w.cell? ⟨b, 4, none⟩ = some (.slice (some ⟨g, 0, none⟩) 6 c) ∧ OldNewT g w ∧ b ≠ g
/-- the replacer as it is made -/
theorem TagSt.start (w : World) (t1 t2 : TypeId) : TagSt w (w.heap.size + 1) w.heap.size nilS nilS nilS 0 ⟨#[]⟩ ⟨#[]⟩ ⟨#[]⟩
    ((w.alloc (.cells #[.string ⟨#[]⟩, .string ⟨#[]⟩, .string ⟨#[]⟩] t1)).alloc (.cells (List.replicate 256 nilS ++ [Value.slice (some ⟨w.heap.size, 0, none⟩) 0 3]).toArray t2)) := by
  have es : (w.alloc (.cells #[.string ⟨#[]⟩, .string ⟨#[]⟩, .string ⟨#[]⟩] t1)).heap.size = w.heap.size + 1 := World.size_alloc ..
  have lG : w.heap.size < (w.alloc (.cells #[.string ⟨#[]⟩, .string ⟨#[]⟩, .string ⟨#[]⟩] t1)).heap.size := by rw [es]; omega
  refine ⟨((Below.refl _ w).alloc (Nat.le_refl _) _).alloc (Nat.le_of_lt lG) _, Nat.le_succ _, Nat.le_refl _, by omega, fun i hi => ?_, fun i => ?_, ?_, ?_, ?_, ?_, fun i => ?_⟩
  · rw [World.cell?_alloc_at _ _ _ _ es.symm, List.getElem?_toArray, List.getElem?_append_left (by rw [List.length_replicate]; exact hi), List.getElem?_replicate, if_pos hi]
    simp
  · exact World.frozen?_alloc_at _ _ _ _ es.symm
  · rw [World.cell?_alloc_at _ _ _ _ es.symm, List.getElem?_toArray, List.getElem?_append_right (by rw [List.length_replicate]; exact Nat.le_refl _), List.length_replicate]
    rfl
  · rw [World.cell?_alloc_past _ _ _ lG, World.cell?_alloc_at _ _ _ _ rfl]; rfl
  · rw [World.cell?_alloc_past _ _ _ lG, World.cell?_alloc_at _ _ _ _ rfl]; rfl
  · rw [World.cell?_alloc_past _ _ _ lG, World.cell?_alloc_at _ _ _ _ rfl]; rfl
  · rw [World.frozen?_alloc_past _ _ _ lG]; exact World.frozen?_alloc_at _ _ _ _ rfl
theorem strT9 : strOfNums [(((⟨#[9]⟩ : ByteArray)[0]'(by decide)).toNat : Int)] = ⟨#[9]⟩ := nums_str (l := [9]) rfl
theorem strT10 : strOfNums [(((⟨#[10]⟩ : ByteArray)[0]'(by decide)).toNat : Int)] = ⟨#[10]⟩ := nums_str (l := [10]) rfl
theorem strT13 : strOfNums [(((⟨#[13]⟩ : ByteArray)[0]'(by decide)).toNat : Int)] = ⟨#[13]⟩ := nums_str (l := [13]) rfl
end Go.Proofs.YtklbdobofclofaaGreatDoor
