/- The memory of strings.Replacer at quote's four texts. No statement is proved here. -/
import Derived.Test.YtgokefodmjhhiaaGreatDoorBaseM
import Derived.Deep.WholeRow
import Derived.Lib.SliceRun
namespace Go.Proofs.YtgokefodmjhhiaaGreatDoor
open Go.RowKit
set_option linter.unusedVariables false
set_option linter.unusedSimpArgs false
set_option maxRecDepth 100000
/-- the four texts -/
def OldNew (g : Nat) (w : World) : Prop :=
  w.cell? ⟨g, 0, none⟩ = some (.string ⟨#[34]⟩) ∧ w.cell? ⟨g, 1, none⟩ = some (.string ⟨#[92, 34]⟩) ∧ w.cell? ⟨g, 2, none⟩ = some (.string ⟨#[92]⟩) ∧ w.cell? ⟨g, 3, none⟩ = some (.string ⟨#[92, 92]⟩)
def nilS : Value := .slice none 0 0
theorem zero_rep : Tryz.zeroCells201.toList = List.replicate 257 nilS := by kernel_rfl
/-- a replacer of two signs: block R; the texts to replace: block G -/
def RepSt (w0 : World) (R G : Nat) (c34 c92 : Value) (l : Nat) (x y : ByteArray) (wr : World) : Prop :=
  Below w0.heap.size w0 wr ∧ w0.heap.size ≤ R ∧ w0.heap.size ≤ G ∧ R ≠ G ∧
  (∀ i : Nat, i < 256 → wr.cell? ⟨R, i, none⟩ = some (if i = 34 then c34 else if i = 92 then c92 else nilS)) ∧ (∀ i : Nat, wr.frozen? ⟨R, i, none⟩ = false) ∧
  wr.cell? ⟨R, 256, none⟩ = some (.slice (some ⟨G, 0, none⟩) l 2) ∧ wr.cell? ⟨G, 0, none⟩ = some (.string x) ∧ wr.cell? ⟨G, 1, none⟩ = some (.string y) ∧ (∀ i : Nat, wr.frozen? ⟨G, i, none⟩ = false)
def TwoAt (w : World) (g : Nat) (x y : Int) (B : Nat) : Prop := w.cell? ⟨g, 0, none⟩ = some (.int .u8 x) ∧ w.cell? ⟨g, 1, none⟩ = some (.int .u8 y) ∧ B + 2 ≤ g

theorem ne_off {g i j : Nat} (h : i ≠ j) : (⟨g, i, none⟩ : Addr) ≠ ⟨g, j, none⟩ := fun e => h (by injection e)
theorem ne_blk {g g' i j : Nat} (h : g ≠ g') : (⟨g, i, none⟩ : Addr) ≠ ⟨g', j, none⟩ := fun e => h (by injection e)
section
variable {w0 wr : World} {R G l : Nat} {c34 c92 : Value} {x y : ByteArray}
theorem RepSt.ltR (h : RepSt w0 R G c34 c92 l x y wr) : R < wr.heap.size := World.block_lt_of_cell? wr _ h.2.2.2.2.2.2.1
theorem RepSt.ltG (h : RepSt w0 R G c34 c92 l x y wr) : G < wr.heap.size := World.block_lt_of_cell? wr _ h.2.2.2.2.2.2.2.1
theorem RepSt.below (h : RepSt w0 R G c34 c92 l x y wr) : Below w0.heap.size w0 wr := h.1
theorem RepSt.setG0 (h : RepSt w0 R G c34 c92 l x y wr) (x' : ByteArray) : RepSt w0 R G c34 c92 l x' y (wr.setCell ⟨G, 0, none⟩ (.string x')) := by
  obtain ⟨B0, hR, hG, hne, hc, hf, h256, hG0, hG1, hfG⟩ := h
  exact ⟨B0.setCell hG _, hR, hG, hne, fun i hi => (World.cell?_setCell_other _ _ _ _ (ne_blk hne.symm)).trans (hc i hi), fun i => by rw [World.frozen?_setCell]; exact hf i,
    (World.cell?_setCell_other _ _ _ _ (ne_blk hne.symm)).trans h256, World.cell?_setCell_same _ _ _ hG0, (World.cell?_setCell_other _ _ _ _ (ne_off (by decide))).trans hG1, fun i => by rw [World.frozen?_setCell]; exact hfG i⟩
theorem RepSt.setG1 (h : RepSt w0 R G c34 c92 l x y wr) (y' : ByteArray) : RepSt w0 R G c34 c92 l x y' (wr.setCell ⟨G, 1, none⟩ (.string y')) := by
  obtain ⟨B0, hR, hG, hne, hc, hf, h256, hG0, hG1, hfG⟩ := h
  exact ⟨B0.setCell hG _, hR, hG, hne, fun i hi => (World.cell?_setCell_other _ _ _ _ (ne_blk hne.symm)).trans (hc i hi), fun i => by rw [World.frozen?_setCell]; exact hf i,
    (World.cell?_setCell_other _ _ _ _ (ne_blk hne.symm)).trans h256, (World.cell?_setCell_other _ _ _ _ (ne_off (by decide))).trans hG0, World.cell?_setCell_same _ _ _ hG1, fun i => by rw [World.frozen?_setCell]; exact hfG i⟩
theorem RepSt.setL (h : RepSt w0 R G c34 c92 l x y wr) (l' : Nat) : RepSt w0 R G c34 c92 l' x y (wr.setCell ⟨R, 256, none⟩ (.slice (some ⟨G, 0, none⟩) l' 2)) := by
  obtain ⟨B0, hR, hG, hne, hc, hf, h256, hG0, hG1, hfG⟩ := h
  exact ⟨B0.setCell hR _, hR, hG, hne, fun i hi => (World.cell?_setCell_other _ _ _ _ (ne_off (by omega))).trans (hc i hi), fun i => by rw [World.frozen?_setCell]; exact hf i,
    World.cell?_setCell_same _ _ _ h256, (World.cell?_setCell_other _ _ _ _ (ne_blk hne)).trans hG0, (World.cell?_setCell_other _ _ _ _ (ne_blk hne)).trans hG1, fun i => by rw [World.frozen?_setCell]; exact hfG i⟩
theorem RepSt.set92 (h : RepSt w0 R G c34 c92 l x y wr) (v : Value) : RepSt w0 R G c34 v l x y (wr.setCell ⟨R, 92, none⟩ v) := by
  obtain ⟨B0, hR, hG, hne, hc, hf, h256, hG0, hG1, hfG⟩ := h
  refine ⟨B0.setCell hR _, hR, hG, hne, fun i hi => ?_, fun i => by rw [World.frozen?_setCell]; exact hf i,
    (World.cell?_setCell_other _ _ _ _ (ne_off (by decide))).trans h256, (World.cell?_setCell_other _ _ _ _ (ne_blk hne)).trans hG0, (World.cell?_setCell_other _ _ _ _ (ne_blk hne)).trans hG1, fun i => by rw [World.frozen?_setCell]; exact hfG i⟩
  by_cases e : i = 92
  · subst e
    exact World.cell?_setCell_same _ _ _ (hc 92 hi)
  · refine (World.cell?_setCell_other _ _ _ _ (ne_off (Ne.symm e))).trans ?_
    rw [hc i hi, if_neg e, if_neg e]
theorem RepSt.set34 (h : RepSt w0 R G c34 c92 l x y wr) (v : Value) : RepSt w0 R G v c92 l x y (wr.setCell ⟨R, 34, none⟩ v) := by
  obtain ⟨B0, hR, hG, hne, hc, hf, h256, hG0, hG1, hfG⟩ := h
  refine ⟨B0.setCell hR _, hR, hG, hne, fun i hi => ?_, fun i => by rw [World.frozen?_setCell]; exact hf i,
    (World.cell?_setCell_other _ _ _ _ (ne_off (by decide))).trans h256, (World.cell?_setCell_other _ _ _ _ (ne_blk hne)).trans hG0, (World.cell?_setCell_other _ _ _ _ (ne_blk hne)).trans hG1, fun i => by rw [World.frozen?_setCell]; exact hfG i⟩
  by_cases e : i = 34
  · subst e
    exact World.cell?_setCell_same _ _ _ (hc 34 hi)
  · refine (World.cell?_setCell_other _ _ _ _ (ne_off (Ne.symm e))).trans ?_
    rw [hc i hi, if_neg e, if_neg e]
theorem RepSt.kept {w' : World} (h : RepSt w0 R G c34 c92 l x y wr) (hb : Below wr.heap.size wr w') : RepSt w0 R G c34 c92 l x y w' := by
  have lR := h.ltR
  have lG := h.ltG
  obtain ⟨B0, hR, hG, hne, hc, hf, h256, hG0, hG1, hfG⟩ := h
  exact ⟨B0.trans (hb.mono (Nat.le_of_lt (Nat.lt_of_le_of_lt hR lR))), hR, hG, hne, fun i hi => (hb.cell (p := ⟨R, i, none⟩) lR).trans (hc i hi), fun i => (hb.frozen (p := ⟨R, i, none⟩) lR).trans (hf i),
    (hb.cell (p := ⟨R, 256, none⟩) lR).trans h256, (hb.cell (p := ⟨G, 0, none⟩) lG).trans hG0, (hb.cell (p := ⟨G, 1, none⟩) lG).trans hG1, fun i => (hb.frozen (p := ⟨G, i, none⟩) lG).trans (hfG i)⟩
theorem RepSt.alloc (h : RepSt w0 R G c34 c92 l x y wr) (o : Obj) : RepSt w0 R G c34 c92 l x y (wr.alloc o) := h.kept ((Below.refl _ wr).alloc (Nat.le_refl _) _)
end
theorem TwoAt.set {w : World} {g B : Nat} {x y : Int} (h : TwoAt w g x y B) {p : Addr} (hp : p.block ≠ g) (v : Value) : TwoAt (w.setCell p v) g x y B :=
  ⟨(World.cell?_setCell_other _ _ _ _ (fun e => hp (by rw [e]))).trans h.1, (World.cell?_setCell_other _ _ _ _ (fun e => hp (by rw [e]))).trans h.2.1, h.2.2⟩
theorem TwoAt.kept {w w' : World} {g B : Nat} {x y : Int} (h : TwoAt w g x y B) (hb : Below w.heap.size w w') : TwoAt w' g x y B := by
  have lg : g < w.heap.size := World.block_lt_of_cell? w _ h.1
  exact ⟨(hb.cell (p := ⟨g, 0, none⟩) lg).trans h.1, (hb.cell (p := ⟨g, 1, none⟩) lg).trans h.2.1, h.2.2⟩
theorem TwoAt.alloc {w : World} {g B : Nat} {x y : Int} (h : TwoAt w g x y B) (o : Obj) : TwoAt (w.alloc o) g x y B := h.kept ((Below.refl _ w).alloc (Nat.le_refl _) _)
/-- the row that []byte(s) of two bytes has made -/
theorem two_arr {w w5 : World} {g B : Nat} {a b : UInt8} (h : Arr w.heap.size g [a, b] w w5) (hB : B + 2 ≤ w.heap.size) : TwoAt w5 g a.toNat b.toNat B :=
  ⟨h.cell 0 (by simp), h.cell 1 (by simp), Nat.le_trans hB h.2.2.1⟩
/-- the replacer as it is built -/
def RepEnd (w0 : World) (R : Nat) (wr : World) : Prop :=
  ∃ G g1 c1 g2 c2 : Nat, RepSt w0 R G (.slice (some ⟨g1, 0, none⟩) 2 c1) (.slice (some ⟨g2, 0, none⟩) 2 c2) 2 ⟨#[92]⟩ ⟨#[34]⟩ wr ∧ TwoAt wr g1 92 34 w0.heap.size ∧ TwoAt wr g2 92 92 w0.heap.size
theorem RepEnd.below {w0 wr : World} {R : Nat} (h : RepEnd w0 R wr) : Below w0.heap.size w0 wr := by obtain ⟨_, _, _, _, _, h, _⟩ := h; exact h.below
theorem RepEnd.kept {w0 wr w' : World} {R : Nat} (h : RepEnd w0 R wr) (hb : Below wr.heap.size wr w') : RepEnd w0 R w' := by
  obtain ⟨G, g1, c1, g2, c2, h, t1, t2⟩ := h
  exact ⟨G, g1, c1, g2, c2, h.kept hb, t1.kept hb, t2.kept hb⟩
/-- the replacer as it is built, seen from an elder world W; block b, which holds its strings.Replacer, lies below its parts -/
def RepAt (W : World) (b R : Nat) (wr : World) : Prop :=
  ∃ G g1 c1 g2 c2 : Nat, RepSt W R G (.slice (some ⟨g1, 0, none⟩) 2 c1) (.slice (some ⟨g2, 0, none⟩) 2 c2) 2 ⟨#[92]⟩ ⟨#[34]⟩ wr ∧ TwoAt wr g1 92 34 0 ∧ TwoAt wr g2 92 92 0 ∧ W.heap.size ≤ b ∧ b < R ∧ b < G ∧ b < g1 ∧ b < g2
theorem RepEnd.at {W w0 wr : World} {R b : Nat} (h : RepEnd w0 R wr) (hb : Below W.heap.size W w0) (hW : W.heap.size ≤ b) (hl : b < w0.heap.size) : RepAt W b R wr := by
  obtain ⟨G, g1, c1, g2, c2, ⟨B0, hR, hG, hr⟩, t1, t2⟩ := h
  exact ⟨G, g1, c1, g2, c2, ⟨hb.trans (B0.mono hb.size), Nat.le_trans hb.size hR, Nat.le_trans hb.size hG, hr⟩, ⟨t1.1, t1.2.1, by have := t1.2.2; omega⟩, ⟨t2.1, t2.2.1, by have := t2.2.2; omega⟩, hW, by omega, by omega, by have := t1.2.2; omega, by have := t2.2.2; omega⟩
theorem RepAt.below {W wr : World} {b R : Nat} (h : RepAt W b R wr) : Below W.heap.size W wr := by obtain ⟨_, _, _, _, _, h, _⟩ := h; exact h.below
theorem RepAt.set {W wr : World} {b R : Nat} (h : RepAt W b R wr) (i : Nat) (v : Value) : RepAt W b R (wr.setCell ⟨b, i, none⟩ v) := by
  obtain ⟨G, g1, c1, g2, c2, ⟨B0, hR, hG, hne, hc, hf, h256, hG0, hG1, hfG⟩, t1, t2, hW, l1, l2, l3, l4⟩ := h
  have nR : b ≠ R := Nat.ne_of_lt l1
  have nG : b ≠ G := Nat.ne_of_lt l2
  exact ⟨G, g1, c1, g2, c2, ⟨B0.setCell hW _, hR, hG, hne, fun j hj => (World.cell?_setCell_other _ _ _ _ (ne_blk nR)).trans (hc j hj), fun j => by rw [World.frozen?_setCell]; exact hf j,
    (World.cell?_setCell_other _ _ _ _ (ne_blk nR)).trans h256, (World.cell?_setCell_other _ _ _ _ (ne_blk nG)).trans hG0, (World.cell?_setCell_other _ _ _ _ (ne_blk nG)).trans hG1, fun j => by rw [World.frozen?_setCell]; exact hfG j⟩,
    t1.set (p := ⟨b, i, none⟩) (Nat.ne_of_lt l3) v, t2.set (p := ⟨b, i, none⟩) (Nat.ne_of_lt l4) v, hW, l1, l2, l3, l4⟩
theorem RepAt.kept {W wr w' : World} {b R : Nat} (h : RepAt W b R wr) (hb : Below wr.heap.size wr w') : RepAt W b R w' := by
  obtain ⟨G, g1, c1, g2, c2, h, t1, t2, hr⟩ := h
  exact ⟨G, g1, c1, g2, c2, h.kept hb, t1.kept hb, t2.kept hb, hr⟩
theorem RepAt.drew {W wr : World} {b R : Nat} (h : RepAt W b R wr) : RepAt W b R wr.drew := h.kept ((Below.refl _ wr).drew)
/-- a strings.Replacer that has replaced nothing yet -/
def NewAt (b : Nat) (w : World) : Prop :=
  w.cell? ⟨b, 0, none⟩ = some (.int .u32 0) ∧ w.cell? ⟨b, 1, none⟩ = some (.int .i32 0) ∧ w.cell? ⟨b, 3, none⟩ = some .nilIface ∧ (∀ i : Nat, w.frozen? ⟨b, i, none⟩ = false) ∧ ∃ g c : Nat, w.cell? ⟨b, 4, none⟩ = some (.slice (some ⟨g, 0, none⟩) 4 c) ∧ OldNew g w ∧ b ≠ g
/-- the replacer as it is made -/
theorem RepSt.start (w : World) (t1 t2 : TypeId) : RepSt w (w.heap.size + 1) w.heap.size nilS nilS 0 ⟨#[]⟩ ⟨#[]⟩
    ((w.alloc (.cells #[.string ⟨#[]⟩, .string ⟨#[]⟩] t1)).alloc (.cells (List.replicate 256 nilS ++ [Value.slice (some ⟨w.heap.size, 0, none⟩) 0 2]).toArray t2)) := by
  have es : (w.alloc (.cells #[.string ⟨#[]⟩, .string ⟨#[]⟩] t1)).heap.size = w.heap.size + 1 := World.size_alloc ..
  have lG : w.heap.size < (w.alloc (.cells #[.string ⟨#[]⟩, .string ⟨#[]⟩] t1)).heap.size := by rw [es]; omega
  refine ⟨((Below.refl _ w).alloc (Nat.le_refl _) _).alloc (Nat.le_of_lt lG) _, Nat.le_succ _, Nat.le_refl _, by omega, fun i hi => ?_, fun i => ?_, ?_, ?_, ?_, fun i => ?_⟩
  · rw [World.cell?_alloc_at _ _ _ _ es.symm, List.getElem?_toArray, List.getElem?_append_left (by rw [List.length_replicate]; exact hi), List.getElem?_replicate, if_pos hi]
    simp
  · exact World.frozen?_alloc_at _ _ _ _ es.symm
  · rw [World.cell?_alloc_at _ _ _ _ es.symm, List.getElem?_toArray, List.getElem?_append_right (by rw [List.length_replicate]; exact Nat.le_refl _), List.length_replicate]
    rfl
  · rw [World.cell?_alloc_past _ _ _ lG, World.cell?_alloc_at _ _ _ _ rfl]; rfl
  · rw [World.cell?_alloc_past _ _ _ lG, World.cell?_alloc_at _ _ _ _ rfl]; rfl
  · rw [World.frozen?_alloc_past _ _ _ lG]; exact World.frozen?_alloc_at _ _ _ _ rfl
theorem str92 : strOfNums [(((⟨#[92]⟩ : ByteArray)[0]'(by decide)).toNat : Int)] = ⟨#[92]⟩ := nums_str (l := [92]) rfl
theorem str34 : strOfNums [(((⟨#[34]⟩ : ByteArray)[0]'(by decide)).toNat : Int)] = ⟨#[34]⟩ := nums_str (l := [34]) rfl
end Go.Proofs.YtgokefodmjhhiaaGreatDoor
