/- More of the first texts of this claim in one: each with its own head. No statement is proved here. -/
import Derived.Test.YtcmmbceacjechaaGreatDoorBaseM
import Derived.Deep.WholeRow
import Derived.Lib.SliceRun
import Derived.Defers
import Derived.Laws.Pointers
import Derived.Laws.LoneSync
import Derived.RegionTactic
import Derived.RegionCalls
import Derived.ChangeAlike
import Derived.Laws.NewBlocks
/- The memory of strings.Replacer at quote's four texts. No statement is proved here. -/
namespace Go.Proofs.YtcmmbceacjechaaGreatDoor
open Go.RowKit
set_option linter.unusedVariables false
set_option linter.unusedSimpArgs false
set_option maxRecDepth 100000
/-- the four texts -/
def OldNew (g : Nat) (w : World) : Prop :=
  w.cell? ⟨g, 0, none⟩ = some (.string ⟨#[34]⟩) ∧ w.cell? ⟨g, 1, none⟩ = some (.string ⟨#[92, 34]⟩) ∧ w.cell? ⟨g, 2, none⟩ = some (.string ⟨#[92]⟩) ∧ w.cell? ⟨g, 3, none⟩ = some (.string ⟨#[92, 92]⟩)
def nilS : Value := .slice none 0 0
theorem zero_rep : Tryz.zeroCells214.toList = List.replicate 257 nilS := by kernel_rfl
/-- a replacer of two signs: block R; the texts to replace: block G -/
def RepSt (w0 : World) (R G : Nat) (c34 c92 : Value) (l : Nat) (x y : ByteArray) (wr : World) : Prop :=
  Below w0.heap.size w0 wr ∧ w0.heap.size ≤ R ∧ w0.heap.size ≤ G ∧ R ≠ G ∧
  (∀ i : Nat, i < 256 → wr.cell? ⟨R, i, none⟩ = some (if i = 34 then c34 else if i = 92 then c92 else nilS)) ∧ (∀ i : Nat, wr.frozen? ⟨R, i, none⟩ = false) ∧
  wr.cell? ⟨R, 256, none⟩ = some (.slice (some ⟨G, 0, none⟩) l 2) ∧ wr.cell? ⟨G, 0, none⟩ = some (.string x) ∧ wr.cell? ⟨G, 1, none⟩ = some (.string y) ∧ (∀ i : Nat, wr.frozen? ⟨G, i, none⟩ = false)
def TwoAt (w : World) (g : Nat) (x y : Int) (B : Nat) : Prop := w.cell? ⟨g, 0, none⟩ = some (.int .u8 x) ∧ w.cell? ⟨g, 1, none⟩ = some (.int .u8 y) ∧ B + 2 ≤ g

theorem ne_off {g i j : Nat} (h : i ≠ j) : (⟨g, i, none⟩ : Addr) ≠ ⟨g, j, none⟩ := fun e => h (by injection e)
theorem ne_blk {g g' i j : Nat} (h : g ≠ g') : (⟨g, i, none⟩ : Addr) ≠ ⟨g', j, none⟩ := fun e => h (by injection e)
section
variable {w0 wr : World} {R G l : Nat} {c34 c92 : Value} {x y : ByteArray}
theorem RepSt.ltR (h : RepSt w0 R G c34 c92 l x y wr) : R < wr.heap.size := World.block_lt_of_cell? wr _ h.2.2.2.2.2.2.1
theorem RepSt.ltG (h : RepSt w0 R G c34 c92 l x y wr) : G < wr.heap.size := World.block_lt_of_cell? wr _ h.2.2.2.2.2.2.2.1
theorem RepSt.below (h : RepSt w0 R G c34 c92 l x y wr) : Below w0.heap.size w0 wr := h.1
theorem RepSt.setG0 (h : RepSt w0 R G c34 c92 l x y wr) (x' : ByteArray) : RepSt w0 R G c34 c92 l x' y (wr.setCell ⟨G, 0, none⟩ (.string x')) := by
  obtain ⟨B0, hR, hG, hne, hc, hf, h256, hG0, hG1, hfG⟩ := h
  exact ⟨B0.setCell hG _, hR, hG, hne, fun i hi => (World.cell?_setCell_other _ _ _ _ (ne_blk hne.symm)).trans (hc i hi), fun i => by rw [World.frozen?_setCell]; exact hf i,
    (World.cell?_setCell_other _ _ _ _ (ne_blk hne.symm)).trans h256, World.cell?_setCell_same _ _ _ hG0, (World.cell?_setCell_other _ _ _ _ (ne_off (by decide))).trans hG1, fun i => by rw [World.frozen?_setCell]; exact hfG i⟩
theorem RepSt.setG1 (h : RepSt w0 R G c34 c92 l x y wr) (y' : ByteArray) : RepSt w0 R G c34 c92 l x y' (wr.setCell ⟨G, 1, none⟩ (.string y')) := by
  obtain ⟨B0, hR, hG, hne, hc, hf, h256, hG0, hG1, hfG⟩ := h
  exact ⟨B0.setCell hG _, hR, hG, hne, fun i hi => (World.cell?_setCell_other _ _ _ _ (ne_blk hne.symm)).trans (hc i hi), fun i => by rw [World.frozen?_setCell]; exact hf i,
    (World.cell?_setCell_other _ _ _ _ (ne_blk hne.symm)).trans h256, (World.cell?_setCell_other _ _ _ _ (ne_off (by decide))).trans hG0, World.cell?_setCell_same _ _ _ hG1, fun i => by rw [World.frozen?_setCell]; exact hfG i⟩
theorem RepSt.setL (h : RepSt w0 R G c34 c92 l x y wr) (l' : Nat) : RepSt w0 R G c34 c92 l' x y (wr.setCell ⟨R, 256, none⟩ (.slice (some ⟨G, 0, none⟩) l' 2)) := by
  obtain ⟨B0, hR, hG, hne, hc, hf, h256, hG0, hG1, hfG⟩ := h
  exact ⟨B0.setCell hR _, hR, hG, hne, fun i hi => (World.cell?_setCell_other _ _ _ _ (ne_off (by omega))).trans (hc i hi), fun i => by rw [World.frozen?_setCell]; exact hf i,
    World.cell?_setCell_same _ _ _ h256, (World.cell?_setCell_other _ _ _ _ (ne_blk hne)).trans hG0, (World.cell?_setCell_other _ _ _ _ (ne_blk hne)).trans hG1, fun i => by rw [World.frozen?_setCell]; exact hfG i⟩
theorem RepSt.set92 (h : RepSt w0 R G c34 c92 l x y wr) (v : Value) : RepSt w0 R G c34 v l x y (wr.setCell ⟨R, 92, none⟩ v) := by
  obtain ⟨B0, hR, hG, hne, hc, hf, h256, hG0, hG1, hfG⟩ := h
  refine ⟨B0.setCell hR _, hR, hG, hne, fun i hi => ?_, fun i => by rw [World.frozen?_setCell]; exact hf i,
    (World.cell?_setCell_other _ _ _ _ (ne_off (by decide))).trans h256, (World.cell?_setCell_other _ _ _ _ (ne_blk hne)).trans hG0, (World.cell?_setCell_other _ _ _ _ (ne_blk hne)).trans hG1, fun i => by rw [World.frozen?_setCell]; exact hfG i⟩
  by_cases e : i = 92
  · subst e
    exact World.cell?_setCell_same _ _ _ (hc 92 hi)
  · refine (World.cell?_setCell_other _ _ _ _ (ne_off (Ne.symm e))).trans ?_
    rw [hc i hi, if_neg e, if_neg e]
theorem RepSt.set34 (h : RepSt w0 R G c34 c92 l x y wr) (v : Value) : RepSt w0 R G v c92 l x y (wr.setCell ⟨R, 34, none⟩ v) := by
  obtain ⟨B0, hR, hG, hne, hc, hf, h256, hG0, hG1, hfG⟩ := h
  refine ⟨B0.setCell hR _, hR, hG, hne, fun i hi => ?_, fun i => by rw [World.frozen?_setCell]; exact hf i,
    (World.cell?_setCell_other _ _ _ _ (ne_off (by decide))).trans h256, (World.cell?_setCell_other _ _ _ _ (ne_blk hne)).trans hG0, (World.cell?_setCell_other _ _ _ _ (ne_blk hne)).trans hG1, fun i => by rw [World.frozen?_setCell]; exact hfG i⟩
  by_cases e : i = 34
  · subst e
    exact World.cell?_setCell_same _ _ _ (hc 34 hi)
  · refine (World.cell?_setCell_other _ _ _ _ (ne_off (Ne.symm e))).trans ?_
    rw [hc i hi, if_neg e, if_neg e]
theorem RepSt.kept {w' : World} (h : RepSt w0 R G c34 c92 l x y wr) (hb : Below wr.heap.size wr w') : RepSt w0 R G c34 c92 l x y w' := by
  have lR := h.ltR
  have lG := h.ltG
  obtain ⟨B0, hR, hG, hne, hc, hf, h256, hG0, hG1, hfG⟩ := h
  exact ⟨B0.trans (hb.mono (Nat.le_of_lt (Nat.lt_of_le_of_lt hR lR))), hR, hG, hne, fun i hi => (hb.cell (p := ⟨R, i, none⟩) lR).trans (hc i hi), fun i => (hb.frozen (p := ⟨R, i, none⟩) lR).trans (hf i),
    (hb.cell (p := ⟨R, 256, none⟩) lR).trans h256, (hb.cell (p := ⟨G, 0, none⟩) lG).trans hG0, (hb.cell (p := ⟨G, 1, none⟩) lG).trans hG1, fun i => (hb.frozen (p := ⟨G, i, none⟩) lG).trans (hfG i)⟩
theorem RepSt.alloc (h : RepSt w0 R G c34 c92 l x y wr) (o : Obj) : RepSt w0 R G c34 c92 l x y (wr.alloc o) := h.kept ((Below.refl _ wr).alloc (Nat.le_refl _) _)
end
theorem TwoAt.set {w : World} {g B : Nat} {x y : Int} (h : TwoAt w g x y B) {p : Addr} (hp : p.block ≠ g) (v : Value) : TwoAt (w.setCell p v) g x y B :=
  ⟨(World.cell?_setCell_other _ _ _ _ (fun e => hp (by rw [e]))).trans h.1, (World.cell?_setCell_other _ _ _ _ (fun e => hp (by rw [e]))).trans h.2.1, h.2.2⟩
theorem TwoAt.kept {w w' : World} {g B : Nat} {x y : Int} (h : TwoAt w g x y B) (hb : Below w.heap.size w w') : TwoAt w' g x y B := by
  have lg : g < w.heap.size := World.block_lt_of_cell? w _ h.1
  exact ⟨(hb.cell (p := ⟨g, 0, none⟩) lg).trans h.1, (hb.cell (p := ⟨g, 1, none⟩) lg).trans h.2.1, h.2.2⟩
theorem TwoAt.alloc {w : World} {g B : Nat} {x y : Int} (h : TwoAt w g x y B) (o : Obj) : TwoAt (w.alloc o) g x y B := h.kept ((Below.refl _ w).alloc (Nat.le_refl _) _)
/-- the row that []byte(s) of two bytes has made -/
theorem two_arr {w w5 : World} {g B : Nat} {a b : UInt8} (h : Arr w.heap.size g [a, b] w w5) (hB : B + 2 ≤ w.heap.size) : TwoAt w5 g a.toNat b.toNat B :=
  ⟨h.cell 0 (by simp), h.cell 1 (by simp), Nat.le_trans hB h.2.2.1⟩
/-- the replacer as it is built -/
def RepEnd (w0 : World) (R : Nat) (wr : World) : Prop :=
  ∃ G g1 c1 g2 c2 : Nat, RepSt w0 R G (.slice (some ⟨g1, 0, none⟩) 2 c1) (.slice (some ⟨g2, 0, none⟩) 2 c2) 2 ⟨#[92]⟩ ⟨#[34]⟩ wr ∧ TwoAt wr g1 92 34 w0.heap.size ∧ TwoAt wr g2 92 92 w0.heap.size
theorem RepEnd.below {w0 wr : World} {R : Nat} (h : RepEnd w0 R wr) : Below w0.heap.size w0 wr := by obtain ⟨_, _, _, _, _, h, _⟩ := h; exact h.below
theorem RepEnd.kept {w0 wr w' : World} {R : Nat} (h : RepEnd w0 R wr) (hb : Below wr.heap.size wr w') : RepEnd w0 R w' := by
  obtain ⟨G, g1, c1, g2, c2, h, t1, t2⟩ := h
  exact ⟨G, g1, c1, g2, c2, h.kept hb, t1.kept hb, t2.kept hb⟩
/-- the replacer as it is built, seen from an elder world W; block b, which holds its strings.Replacer, lies below its parts -/
def RepAt (W : World) (b R : Nat) (wr : World) : Prop :=
  ∃ G g1 c1 g2 c2 : Nat, RepSt W R G (.slice (some ⟨g1, 0, none⟩) 2 c1) (.slice (some ⟨g2, 0, none⟩) 2 c2) 2 ⟨#[92]⟩ ⟨#[34]⟩ wr ∧ TwoAt wr g1 92 34 0 ∧ TwoAt wr g2 92 92 0 ∧ W.heap.size ≤ b ∧ b < R ∧ b < G ∧ b < g1 ∧ b < g2
theorem RepEnd.at {W w0 wr : World} {R b : Nat} (h : RepEnd w0 R wr) (hb : Below W.heap.size W w0) (hW : W.heap.size ≤ b) (hl : b < w0.heap.size) : RepAt W b R wr := by
  obtain ⟨G, g1, c1, g2, c2, ⟨B0, hR, hG, hr⟩, t1, t2⟩ := h
  exact ⟨G, g1, c1, g2, c2, ⟨hb.trans (B0.mono hb.size), Nat.le_trans hb.size hR, Nat.le_trans hb.size hG, hr⟩, ⟨t1.1, t1.2.1, by have := t1.2.2; omega⟩, ⟨t2.1, t2.2.1, by have := t2.2.2; omega⟩, hW, by omega, by omega, by have := t1.2.2; omega, by have := t2.2.2; omega⟩
theorem RepAt.below {W wr : World} {b R : Nat} (h : RepAt W b R wr) : Below W.heap.size W wr := by obtain ⟨_, _, _, _, _, h, _⟩ := h; exact h.below
theorem RepAt.set {W wr : World} {b R : Nat} (h : RepAt W b R wr) (i : Nat) (v : Value) : RepAt W b R (wr.setCell ⟨b, i, none⟩ v) := by
  obtain ⟨G, g1, c1, g2, c2, ⟨B0, hR, hG, hne, hc, hf, h256, hG0, hG1, hfG⟩, t1, t2, hW, l1, l2, l3, l4⟩ := h
  have nR : b ≠ R := Nat.ne_of_lt l1
  have nG : b ≠ G := Nat.ne_of_lt l2
  exact ⟨G, g1, c1, g2, c2, ⟨B0.setCell hW _, hR, hG, hne, fun j hj => (World.cell?_setCell_other _ _ _ _ (ne_blk nR)).trans (hc j hj), fun j => by rw [World.frozen?_setCell]; exact hf j,
    (World.cell?_setCell_other _ _ _ _ (ne_blk nR)).trans h256, (World.cell?_setCell_other _ _ _ _ (ne_blk nG)).trans hG0, (World.cell?_setCell_other _ _ _ _ (ne_blk nG)).trans hG1, fun j => by rw [World.frozen?_setCell]; exact hfG j⟩,
    t1.set (p := ⟨b, i, none⟩) (Nat.ne_of_lt l3) v, t2.set (p := ⟨b, i, none⟩) (Nat.ne_of_lt l4) v, hW, l1, l2, l3, l4⟩
theorem RepAt.kept {W wr w' : World} {b R : Nat} (h : RepAt W b R wr) (hb : Below wr.heap.size wr w') : RepAt W b R w' := by
  obtain ⟨G, g1, c1, g2, c2, h, t1, t2, hr⟩ := h
  exact ⟨G, g1, c1, g2, c2, h.kept hb, t1.kept hb, t2.kept hb, hr⟩
theorem RepAt.drew {W wr : World} {b R : Nat} (h : RepAt W b R wr) : RepAt W b R wr.drew := h.kept ((Below.refl _ wr).drew)
/-- a strings.Replacer that has replaced nothing yet -/
def NewAt (b : Nat) (w : World) : Prop :=
  w.cell? ⟨b, 0, none⟩ = some (.int .u32 0) ∧ w.cell? ⟨b, 1, none⟩ = some (.int .i32 0) ∧ w.cell? ⟨b, 3, none⟩ = some .nilIface ∧ (∀ i : Nat, w.frozen? ⟨b, i, none⟩ = false) ∧ ∃ g c : Nat, w.cell? ⟨b, 4, none⟩ = some (.slice (some ⟨g, 0, none⟩) 4 c) ∧ OldNew g w ∧ b ≠ g
/-- the replacer as it is made -/
theorem RepSt.start (w : World) (t1 t2 : TypeId) : RepSt w (w.heap.size + 1) w.heap.size nilS nilS 0 ⟨#[]⟩ ⟨#[]⟩
    ((w.alloc (.cells #[.string ⟨#[]⟩, .string ⟨#[]⟩] t1)).alloc (.cells (List.replicate 256 nilS ++ [Value.slice (some ⟨w.heap.size, 0, none⟩) 0 2]).toArray t2)) := by
  have es : (w.alloc (.cells #[.string ⟨#[]⟩, .string ⟨#[]⟩] t1)).heap.size = w.heap.size + 1 := World.size_alloc ..
  have lG : w.heap.size < (w.alloc (.cells #[.string ⟨#[]⟩, .string ⟨#[]⟩] t1)).heap.size := by rw [es]; omega
  refine ⟨((Below.refl _ w).alloc (Nat.le_refl _) _).alloc (Nat.le_of_lt lG) _, Nat.le_succ _, Nat.le_refl _, by omega, fun i hi => ?_, fun i => ?_, ?_, ?_, ?_, fun i => ?_⟩
  · rw [World.cell?_alloc_at _ _ _ _ es.symm, List.getElem?_toArray, List.getElem?_append_left (by rw [List.length_replicate]; exact hi), List.getElem?_replicate, if_pos hi]
    simp
  · exact World.frozen?_alloc_at _ _ _ _ es.symm
  · rw [World.cell?_alloc_at _ _ _ _ es.symm, List.getElem?_toArray, List.getElem?_append_right (by rw [List.length_replicate]; exact Nat.le_refl _), List.length_replicate]
    rfl
  · rw [World.cell?_alloc_past _ _ _ lG, World.cell?_alloc_at _ _ _ _ rfl]; rfl
  · rw [World.cell?_alloc_past _ _ _ lG, World.cell?_alloc_at _ _ _ _ rfl]; rfl
  · rw [World.frozen?_alloc_past _ _ _ lG]; exact World.frozen?_alloc_at _ _ _ _ rfl
theorem str92 : strOfNums [(((⟨#[92]⟩ : ByteArray)[0]'(by decide)).toNat : Int)] = ⟨#[92]⟩ := nums_str (l := [92]) rfl
theorem str34 : strOfNums [(((⟨#[34]⟩ : ByteArray)[0]'(by decide)).toNat : Int)] = ⟨#[34]⟩ := nums_str (l := [34]) rfl
end Go.Proofs.YtcmmbceacjechaaGreatDoor

/- WALKS of strings.Replacer's build at quote's four texts. No statement is proved here. -/
namespace Go.Proofs.YtcmmbceacjechaaGreatDoor
open Go.RowKit
set_option linter.unusedVariables false
set_option linter.unusedSimpArgs false
set_option maxRecDepth 100000
theorem made_two (w : World) : (Instr.makeSlice 50 (.int .i64 0) (.int .i64 2)).run Tryz.prog w = .ok (.slice (some ⟨w.heap.size, 0, none⟩) 0 2) (w.alloc (.cells #[.string ⟨#[]⟩, .string ⟨#[]⟩] 9)) := by
  obtain ⟨i0, hi, hz0, hz1, hz2⟩ := info_parts info_str
  have h := run_make (P := Tryz.prog) w 50 9 i0 _ Tryz.underlying50 hi hz0 .i64 .i64 0 2 (by omega) (by omega) (by rw [hz2]; omega) (by omega)
  rw [hz1] at h
  rw [h]
  have e : madeCells (Value.string ByteArray.empty).cells (Int.toNat 2 * 1) = #[.string ⟨#[]⟩, .string ⟨#[]⟩] := by
    show madeCells #[.string ByteArray.empty] 2 = _
    have e0 : Array.range 0 = (#[] : Array Nat) := by simp [Array.range]
    simp [madeCells, Array.range_succ, e0]
    rfl
  rw [e]; rfl
theorem store_rep (w : World) (sl : Value) (h1 : sl.oneCell' = true) : 
    (storeCells ⟨w.heap.size, 0, none⟩ (Tryz.zeroCells214.toList.set 256 sl) 0).run Tryz.prog (w.alloc (.cells Tryz.zeroCells214 214)) = .ok () (w.alloc (.cells (List.replicate 256 nilS ++ [sl]).toArray 214)) := by
  have e : Tryz.zeroCells214.toList.set 256 sl = List.replicate 256 nilS ++ [sl] := by
    rw [zero_rep, show (257 : Nat) = 256 + 1 from rfl, List.replicate_succ', List.set_append_right _ _ (by simp)]
    simp
  have hl : Tryz.zeroCells214.size = 257 := by rw [← Array.length_toList, zero_rep, List.length_replicate]
  have h := run_storeCells_new (P := Tryz.prog) w 214 Tryz.zeroCells214 (List.replicate 256 nilS ++ [sl]).toArray (by
    rw [show (List.replicate 256 nilS ++ [sl]).toArray.size = 257 by simp]; kernel_rfl) (by rw [hl]; simp) (by
    rw [List.all_toArray, List.all_append, Bool.and_eq_true]
    exact ⟨by rw [List.all_replicate]; rfl, by simp [h1]⟩)
  rw [e]
  exact h
set_option maxHeartbeats 1600000 in
theorem build_any (b g c : Nat) (w : World) (ho : w.cell? ⟨b, 4, none⟩ = some (.slice (some ⟨g, 0, none⟩) 4 c)) (hg : OldNew g w) :
    Calls Tryz.prog 227 #[.pointer (some ⟨b, 0, none⟩)] w fun e w' => e = .returned (.iface 215 (.pointer (some ⟨w.heap.size + 1, 0, none⟩))) ∧ RepEnd w (w.heap.size + 1) w' := by
  obtain ⟨h0, h1, h2, h3⟩ := hg
  have hgl : g < w.heap.size := World.block_lt_of_cell? w _ h0
  go_enter Tryz.func227, Tryz.ntmps227
  go_wp2_with fail
  go_loop [4, 5] (fun a i => (i = .int .i64 0 ∧ a = .bool true) ∨ (i = .int .i64 2 ∧ a = .bool false) ∨ (i = .int .i64 4 ∧ a = .bool false)) (fun _ i => 4 - (intOf i).toNat)
  case atStart => exact .inl ⟨rfl, rfl⟩
  case round =>
    rcases hrel with ⟨rfl, rfl⟩ | ⟨rfl, rfl⟩ | ⟨rfl, rfl⟩
    · go_wp2_with fail
      exact ⟨.inr (.inl ⟨rfl, rfl⟩), by decide⟩
    · go_wp2_with fail
      exact ⟨.inr (.inr ⟨rfl, rfl⟩), by decide⟩
    · have hms := made_two w
      have hst := store_rep (w.alloc (.cells #[.string ⟨#[]⟩, .string ⟨#[]⟩] 9)) (.slice (some ⟨w.heap.size, 0, none⟩) 0 2) rfl
      rw [World.size_alloc] at hst
      go_wp2_with fail
      go_loopw [12] (fun i wr => (i = .int .i64 2 ∧ Hid (RepSt w (w.heap.size + 1) w.heap.size nilS nilS 0 ⟨#[]⟩ ⟨#[]⟩ wr)) ∨
        (i = .int .i64 0 ∧ ∃ g2 c2 : Nat, Hid (RepSt w (w.heap.size + 1) w.heap.size nilS (.slice (some ⟨g2, 0, none⟩) 2 c2) 1 ⟨#[92]⟩ ⟨#[]⟩ wr ∧ TwoAt wr g2 92 92 w.heap.size)) ∨
        (i = .int .i64 (-2) ∧ Hid (∃ g1 c1 g2 c2 : Nat, RepSt w (w.heap.size + 1) w.heap.size (.slice (some ⟨g1, 0, none⟩) 2 c1) (.slice (some ⟨g2, 0, none⟩) 2 c2) 2 ⟨#[92]⟩ ⟨#[34]⟩ wr ∧ TwoAt wr g1 92 34 w.heap.size ∧ TwoAt wr g2 92 92 w.heap.size))) (fun i _ => (intOf i + 2).toNat)
      case atStart => exact .inl ⟨rfl, hide (RepSt.start _ _ _)⟩
      case round =>
        rcases hrel with ⟨rfl, HS⟩ | ⟨rfl, g2, c2, HS⟩ | ⟨rfl, HS⟩
        · obtain ⟨B0, hR, hG, hne, hc, hf, h256, hG0, hG1, hfG⟩ := HS.out
          have h92 : wr.cell? ⟨w.heap.size + 1, ((⟨#[92]⟩ : ByteArray)[0]'(by decide)).toNat, none⟩ = some (.slice none 0 0) := hc 92 (by decide)
          have z92 : wr.frozen? ⟨w.heap.size + 1, ((⟨#[92]⟩ : ByteArray)[0]'(by decide)).toNat, none⟩ = false := hf 92
          have z256 := hf 256
          have hnil : ∀ w1, (binOp .eql 67 (.slice none 0 0) (.slice none 0 0)).run Tryz.prog w1 = .ok (.bool true) w1 := fun w1 => Go.Lib.run_eql_slice_nil w1 67 5 none 0 0 0 0 Tryz.underlying67
          have hGl : w.heap.size < wr.heap.size := World.block_lt_of_cell? wr _ hG0
          have hRl : w.heap.size + 1 < wr.heap.size := World.block_lt_of_cell? wr _ h256
          have hggl : g < wr.heap.size := Nat.lt_trans hgl hGl
          have l1 := Nat.lt_succ_of_lt hGl
          have l2 := Nat.lt_succ_of_lt l1
          have l3 := Nat.lt_succ_of_lt hRl
          have l4 := Nat.lt_succ_of_lt l3
          have hcv := conv1 wr (((⟨#[92]⟩ : ByteArray)[0]'(by decide)).toNat : Int)
          have zG0 := hfG 0
          have e2 : wr.cell? ⟨g, 2, none⟩ = some (.string ⟨#[92]⟩) := (B0.cell (p := ⟨g, 2, none⟩) hgl).trans h2
          have e3 : wr.cell? ⟨g, 3, none⟩ = some (.string ⟨#[92, 92]⟩) := (B0.cell (p := ⟨g, 3, none⟩) hgl).trans h3
          have HS1 := hide ((HS.out.setG0 ⟨#[92]⟩).setL 1)
          have e92 := str92
          go_wp2_with (refine wpList_bytes rfl _ rfl ⟨#[92, 92]⟩ rfl ?_; intro cap w5 ha; have HS5 := hide (((HS1.out.alloc _).alloc _).kept ha.below); have HT5 := hide (two_arr (B := w.heap.size) ha (by rw [World.size_alloc, World.size_alloc, World.size_setCell, World.size_setCell]; omega)); rw [World.size_alloc, World.size_alloc, World.size_setCell, World.size_setCell] at HT5; clear ha; have k92 : w5.cell? ⟨w.heap.size + 1, ((⟨#[92]⟩ : ByteArray)[0]'(by decide)).toNat, none⟩ = some (.slice none 0 0) := HS5.out.2.2.2.2.1 92 (by decide); have y92 : w5.frozen? ⟨w.heap.size + 1, ((⟨#[92]⟩ : ByteArray)[0]'(by decide)).toNat, none⟩ = false := HS5.out.2.2.2.2.2.1 92)
          exact ⟨.inr (.inl ⟨rfl, _, cap, hide ⟨HS5.out.set92 _, HT5.out.set (by show w.heap.size + 1 ≠ wr.heap.size + 1 + 1; omega) _⟩⟩), by decide⟩
        · obtain ⟨B0, hR, hG, hne, hc, hf, h256, hG0, hG1, hfG⟩ := HS.out.1
          have HT := hide HS.out.2
          have h92 : wr.cell? ⟨w.heap.size + 1, ((⟨#[34]⟩ : ByteArray)[0]'(by decide)).toNat, none⟩ = some (.slice none 0 0) := hc 34 (by decide)
          have z92 : wr.frozen? ⟨w.heap.size + 1, ((⟨#[34]⟩ : ByteArray)[0]'(by decide)).toNat, none⟩ = false := hf 34
          have z256 := hf 256
          have hnil : ∀ w1, (binOp .eql 67 (.slice none 0 0) (.slice none 0 0)).run Tryz.prog w1 = .ok (.bool true) w1 := fun w1 => Go.Lib.run_eql_slice_nil w1 67 5 none 0 0 0 0 Tryz.underlying67
          have hGl : w.heap.size < wr.heap.size := World.block_lt_of_cell? wr _ hG0
          have hRl : w.heap.size + 1 < wr.heap.size := World.block_lt_of_cell? wr _ h256
          have hggl : g < wr.heap.size := Nat.lt_trans hgl hGl
          have l1 := Nat.lt_succ_of_lt hGl
          have l2 := Nat.lt_succ_of_lt l1
          have l3 := Nat.lt_succ_of_lt hRl
          have l4 := Nat.lt_succ_of_lt l3
          have hcv := conv1 wr (((⟨#[34]⟩ : ByteArray)[0]'(by decide)).toNat : Int)
          have zG0 := hfG 1
          have e2 : wr.cell? ⟨g, 0, none⟩ = some (.string ⟨#[34]⟩) := (B0.cell (p := ⟨g, 0, none⟩) hgl).trans h0
          have e3 : wr.cell? ⟨g, 1, none⟩ = some (.string ⟨#[92, 34]⟩) := (B0.cell (p := ⟨g, 1, none⟩) hgl).trans h1
          have HS1 := hide ((HS.out.1.setG1 ⟨#[34]⟩).setL 2)
          have e92 := str34
          go_wp2_with (refine wpList_bytes rfl _ rfl ⟨#[92, 34]⟩ rfl ?_; intro cap w5 ha; have HS5 := hide (((HS1.out.alloc _).alloc _).kept ha.below); have HT5 := hide (two_arr (B := w.heap.size) ha (by rw [World.size_alloc, World.size_alloc, World.size_setCell, World.size_setCell]; omega)); rw [World.size_alloc, World.size_alloc, World.size_setCell, World.size_setCell] at HT5; have HT6 := hide (((((HT.out.set (p := ⟨w.heap.size, 1, none⟩) (by have := HT.out.2.2; show w.heap.size ≠ g2; omega) _).set (p := ⟨w.heap.size + 1, 256, none⟩) (by have := HT.out.2.2; show w.heap.size + 1 ≠ g2; omega) _).alloc _).alloc _).kept ha.below); clear ha; have k92 : w5.cell? ⟨w.heap.size + 1, ((⟨#[34]⟩ : ByteArray)[0]'(by decide)).toNat, none⟩ = some (.slice none 0 0) := HS5.out.2.2.2.2.1 34 (by decide); have y92 : w5.frozen? ⟨w.heap.size + 1, ((⟨#[34]⟩ : ByteArray)[0]'(by decide)).toNat, none⟩ = false := HS5.out.2.2.2.2.2.1 34)
          exact ⟨.inr (.inr ⟨rfl, hide ⟨_, cap, g2, c2, HS5.out.set34 _, HT5.out.set (by show w.heap.size + 1 ≠ wr.heap.size + 1 + 1; omega) _, HT6.out.set (by have := HT6.out.2.2; show w.heap.size + 1 ≠ g2; omega) _⟩⟩), by decide⟩
        · have HE : Hid (RepEnd w (w.heap.size + 1) wr) := hide ⟨_, HS.out⟩
          go_wp2_with fail
          go_ret
          exact ⟨rfl, HE.out⟩
end Go.Proofs.YtcmmbceacjechaaGreatDoor

/- WALKS of sync.Once in one goroutine: Do with a function that the caller knows by a contract. No statement is proved here. -/
namespace Go.Proofs.YtcmmbceacjechaaGreatDoor
open Go.RowKit
set_option linter.unusedVariables false
set_option linter.unusedSimpArgs false
set_option maxRecDepth 100000

theorem race_off (w : World) : (callFunc 257 #[]).run Tryz.prog w = .ok (.value (.tuple #[])) w := run_call_mark0 Tryz.func257 (by kernel_rfl) (by kernel_rfl) (by kernel_rfl) .disable (by kernel_rfl) w
theorem race_on (w : World) : (callFunc 259 #[]).run Tryz.prog w = .ok (.value (.tuple #[])) w := run_call_mark0 Tryz.func259 (by kernel_rfl) (by kernel_rfl) (by kernel_rfl) .enable (by kernel_rfl) w
theorem race_got (a : Addr) (w : World) : (callFunc 260 #[.pointer (some a)]).run Tryz.prog w = .ok (.value (.tuple #[])) w := run_call_marked Tryz.func260 (by kernel_rfl) (by kernel_rfl) (by kernel_rfl) .acquire (by kernel_rfl) a w
theorem race_let (a : Addr) (w : World) : (callFunc 262 #[.pointer (some a)]).run Tryz.prog w = .ok (.value (.tuple #[])) w := run_call_marked Tryz.func262 (by kernel_rfl) (by kernel_rfl) (by kernel_rfl) .releaseMerge (by kernel_rfl) a w

/-- the Once's word is set, as a deferred call -/
theorem done_set (a : Addr) (x : Value) (u : FrameMode) (w : World) (hc : w.cell? a = some x) (hz : w.frozen? a = false) :
    CallsD Tryz.prog 239 #[.pointer (some a), .bool true] u w fun e u' w' => u' = u ∧ (e = .returned (.tuple #[]) ∧ w' = w.drew.setCell a (.int .u32 1)) := by
  have hc' : w.drew.cell? a = some x := by go_simp
  have hz' : w.drew.frozen? a = false := by go_simp
  have hst := run_call_store (P := Tryz.prog) Tryz.func249 (by kernel_rfl) (by kernel_rfl) (by kernel_rfl) (by kernel_rfl) (k := .u32) (y := 1) hc' hz'
  go_enter_d Tryz.func239, Tryz.ntmps239
  go_wp2
  go_region_calls
  all_goals (go_end0; exact ⟨rfl, rfl⟩)

/-- the lock is let go, as a deferred call -/
theorem lock_let (a : Addr) (u : FrameMode) (w : World) (hc : w.cell? a = some (.int .i32 1)) (hz : w.frozen? a = false) :
    CallsD Tryz.prog 238 #[.pointer (some a)] u w fun e u' w' => u' = u ∧ (e = .returned (.tuple #[]) ∧ w' = w.setCell a (.int .i32 0)) := by
  have hd := race_off
  have he := race_on
  have hr := race_let
  have hadd := run_call_add (P := Tryz.prog) Tryz.func263 (by kernel_rfl) (by kernel_rfl) (by kernel_rfl) .i32 (by kernel_rfl) (y := -1) (s := 0) hc hz (by simp [go_sem]; rfl)
  have hcv := run_convert_to_unsafe (P := Tryz.prog) (src := 241) (dst := 139) Tryz.underlying241 Tryz.underlying139 (by kernel_rfl) hc
  go_enter_d Tryz.func238, Tryz.ntmps238
  go_wp2
  go_end0
  go_wp2
  go_end0
  exact ⟨rfl, rfl⟩

/-- the lock, free: taken -/
theorem lock_got (a : Addr) (w : World) (hc : w.cell? a = some (.int .i32 0)) (hz : w.frozen? a = false) :
    Calls Tryz.prog 237 #[.pointer (some a)] w fun e w' => e = .returned (.tuple #[]) ∧ w' = w.setCell a (.int .i32 1) := by
  have hd := race_off
  have he := race_on
  have ha := race_got
  have hcas := run_call_cas_hit (P := Tryz.prog) Tryz.func258 (by kernel_rfl) (by kernel_rfl) (by kernel_rfl) .i32 (by kernel_rfl) (y := 1) hc hz
  have hc' : (w.setCell a (.int .i32 1)).cell? a = some (.int .i32 1) := World.cell?_setCell_same w a _ hc
  have hcv := run_convert_to_unsafe (P := Tryz.prog) (src := 241) (dst := 139) Tryz.underlying241 Tryz.underlying139 (by kernel_rfl) hc'
  go_enter Tryz.func237, Tryz.ntmps237
  go_wp2
  first | go_end0 | (simp only [Exit.inBlock, Exit.then]; refine bodyPost_ret (results_none rfl _ _ _) rfl ?_) | refine bodyPost_ret (results_none rfl _ _ _) rfl ?_
  go_wp2
  go_end0
  exact ⟨rfl, rfl⟩
end Go.Proofs.YtcmmbceacjechaaGreatDoor

/- WALKS of sync.Once.Do with strings.Replacer's buildOnce, not yet done. No statement is proved here. -/
namespace Go.Proofs.YtcmmbceacjechaaGreatDoor
open Go.RowKit
set_option linter.unusedVariables false
set_option linter.unusedSimpArgs false
set_option maxRecDepth 100000

theorem done_get (a : Addr) (w : World) (h0 : w.cell? a = some (.int .u32 0)) :
    Calls Tryz.prog 225 #[.pointer (some a)] w fun e w' => e = .returned (.bool false) ∧ w = w' := by
  have hl := run_call_load (P := Tryz.prog) Tryz.func236 (by kernel_rfl) (by kernel_rfl) (by kernel_rfl) .u32 (by kernel_rfl) h0
  go_enter Tryz.func225, Tryz.ntmps225
  go_wp2
  go_ret
  exact ⟨rfl, rfl⟩

set_option maxHeartbeats 1600000 in
theorem slow_build (b : Nat) (w : World) (Q : World → Prop)
    (h0 : w.cell? ⟨b, 0, none⟩ = some (.int .u32 0)) (h1 : w.cell? ⟨b, 1, none⟩ = some (.int .i32 0)) (f0 : w.frozen? ⟨b, 0, none⟩ = false) (f1 : w.frozen? ⟨b, 1, none⟩ = false)
    (hC : Calls Tryz.prog 202 #[.pointer (some ⟨b, 0, none⟩)] (w.setCell ⟨b, 1, none⟩ (.int .i32 1)) fun e w' => e = .returned (.tuple #[]) ∧ Q w')
    (hQ : ∀ w', Q w' → w'.cell? ⟨b, 0, none⟩ = some (.int .u32 0) ∧ w'.cell? ⟨b, 1, none⟩ = some (.int .i32 1) ∧ w'.frozen? ⟨b, 0, none⟩ = false ∧ w'.frozen? ⟨b, 1, none⟩ = false) :
    Calls Tryz.prog 226 #[.pointer (some ⟨b, 0, none⟩), .func (.func 202) #[.pointer (some ⟨b, 0, none⟩)] #[]] w fun e w' => e = .returned (.tuple #[]) ∧
      ∃ w1, Q w1 ∧ w' = (w1.drew.setCell ⟨b, 0, none⟩ (.int .u32 1)).setCell ⟨b, 1, none⟩ (.int .i32 0) := by
  have hd1 : (w.setCell ⟨b, 1, none⟩ (.int .i32 1)).cell? ⟨b, 0, none⟩ = some (.int .u32 0) := (World.cell?_setCell_other _ ⟨b, 1, none⟩ ⟨b, 0, none⟩ _ (by simp)).trans h0
  have hnot : ∀ (x : Bool) (w : World), (Op.unary .not (.bool x)).run Tryz.prog w = .ok (.bool (!x)) w := fun _ _ => rfl
  go_enter_defers Tryz.func226, Tryz.ntmps226
  go_wp2_with (go_at_call 237; refine (lock_got ⟨b, 1, none⟩ _ (by go_simp) (by go_simp)).mono ?_; rintro e w' ⟨rfl, rfl⟩)
  go_wp2_with (first
    | (go_at_call 225; refine (done_get ⟨b, 0, none⟩ _ hd1).mono ?_; rintro e w' ⟨rfl, rfl⟩)
    | (go_at_call 202; refine hC.mono ?_; rintro e w2 ⟨rfl, hq⟩))
  refine leaves_cons (f := 239) (args := #[.pointer (some ⟨b, 0, none⟩), .bool true]) (by simp) (by simp [go_sem]) ?_
  refine (done_set ⟨b, 0, none⟩ (.int .u32 0) .returning _ (hQ _ hq).1 (hQ _ hq).2.2.1).mono ?_
  rintro e u' w'' ⟨rfl, rfl, rfl⟩
  refine leaves_cons (f := 238) (args := #[.pointer (some ⟨b, 1, none⟩)]) (by simp [settle]) (by simp [go_sem]) ?_
  refine (lock_let ⟨b, 1, none⟩ _ _ ?_ ?_).mono ?_
  · refine (World.cell?_setCell_other _ ⟨b, 0, none⟩ ⟨b, 1, none⟩ _ (by simp)).trans ?_
    rw [World.cell?_drew]
    exact (hQ _ hq).2.1
  · simp [(hQ _ hq).2.2.2]
  rintro e u' w'' ⟨rfl, rfl, rfl⟩
  simp [Leaves, settle, results, Tryz.results226]
  exact ⟨w2, hq, rfl⟩

set_option maxHeartbeats 1600000 in
theorem once_build (b : Nat) (w : World) (Q : World → Prop)
    (h0 : w.cell? ⟨b, 0, none⟩ = some (.int .u32 0)) (h1 : w.cell? ⟨b, 1, none⟩ = some (.int .i32 0)) (f0 : w.frozen? ⟨b, 0, none⟩ = false) (f1 : w.frozen? ⟨b, 1, none⟩ = false)
    (hC : Calls Tryz.prog 202 #[.pointer (some ⟨b, 0, none⟩)] (w.setCell ⟨b, 1, none⟩ (.int .i32 1)) fun e w' => e = .returned (.tuple #[]) ∧ Q w')
    (hQ : ∀ w', Q w' → w'.cell? ⟨b, 0, none⟩ = some (.int .u32 0) ∧ w'.cell? ⟨b, 1, none⟩ = some (.int .i32 1) ∧ w'.frozen? ⟨b, 0, none⟩ = false ∧ w'.frozen? ⟨b, 1, none⟩ = false) :
    Calls Tryz.prog 201 #[.pointer (some ⟨b, 0, none⟩), .func (.func 202) #[.pointer (some ⟨b, 0, none⟩)] #[]] w fun e w' => e = .returned (.tuple #[]) ∧
      ∃ w1, Q w1 ∧ w' = (w1.drew.setCell ⟨b, 0, none⟩ (.int .u32 1)).setCell ⟨b, 1, none⟩ (.int .i32 0) := by
  have hnot : ∀ (x : Bool) (w : World), (Op.unary .not (.bool x)).run Tryz.prog w = .ok (.bool (!x)) w := fun _ _ => rfl
  go_enter Tryz.func201, Tryz.ntmps201
  go_wp2_with (first
    | (go_at_call 225; refine (done_get ⟨b, 0, none⟩ _ h0).mono ?_; rintro e w' ⟨rfl, rfl⟩)
    | (go_at_call 226; refine (slow_build b _ Q h0 h1 f0 f1 hC hQ).mono ?_; rintro e w' ⟨rfl, hq⟩))
  go_end0
  exact ⟨rfl, hq⟩
end Go.Proofs.YtcmmbceacjechaaGreatDoor

/- WALKS of strings.Replacer's buildOnce and of its Do. No statement is proved here. -/
namespace Go.Proofs.YtcmmbceacjechaaGreatDoor
open Go.RowKit
set_option linter.unusedVariables false
set_option linter.unusedSimpArgs false
set_option maxRecDepth 100000
/-- behind buildOnce -/
def BuiltQ (W : World) (b : Nat) (w w' : World) : Prop :=
  RepAt W b (w.heap.size + 1) w' ∧ w'.cell? ⟨b, 3, none⟩ = some (.iface 215 (.pointer (some ⟨w.heap.size + 1, 0, none⟩))) ∧
  w'.cell? ⟨b, 0, none⟩ = some (.int .u32 0) ∧ w'.cell? ⟨b, 1, none⟩ = some (.int .i32 1) ∧ w'.frozen? ⟨b, 0, none⟩ = false ∧ w'.frozen? ⟨b, 1, none⟩ = false
set_option maxHeartbeats 1600000 in
theorem buildOnce_any (b g c : Nat) (W w : World) (hW : Below W.heap.size W w) (hWb : W.heap.size ≤ b) (h0 : w.cell? ⟨b, 0, none⟩ = some (.int .u32 0)) (h1 : w.cell? ⟨b, 1, none⟩ = some (.int .i32 1)) (h3 : w.cell? ⟨b, 3, none⟩ = some .nilIface)
    (hf : ∀ i : Nat, w.frozen? ⟨b, i, none⟩ = false) (h4 : w.cell? ⟨b, 4, none⟩ = some (.slice (some ⟨g, 0, none⟩) 4 c)) (hg : OldNew g w) :
    Calls Tryz.prog 202 #[.pointer (some ⟨b, 0, none⟩)] w fun e w' => e = .returned (.tuple #[]) ∧ BuiltQ W b w w' := by
  have hbl : b < w.heap.size := World.block_lt_of_cell? w _ h0
  go_enter Tryz.func202, Tryz.ntmps202
  go_wp2_with (go_at_call 227; refine (build_any b g c _ h4 hg).mono ?_; rintro e w2 ⟨rfl, hr⟩; have HR := hide hr; have hb2 := hr.below; have k3 := (hb2.cell (p := ⟨b, 3, none⟩) hbl).trans h3; have k4 := (hb2.cell (p := ⟨b, 4, none⟩) hbl).trans h4; have z3 := (hb2.frozen (p := ⟨b, 3, none⟩) hbl).trans (hf 3); have z4 := (hb2.frozen (p := ⟨b, 4, none⟩) hbl).trans (hf 4); have HB2 := hide hb2; clear hr hb2)
  go_end0
  have k0 := (HB2.out.cell (p := ⟨b, 0, none⟩) hbl).trans h0
  have k1 := (HB2.out.cell (p := ⟨b, 1, none⟩) hbl).trans h1
  have z0 := (HB2.out.frozen (p := ⟨b, 0, none⟩) hbl).trans (hf 0)
  have z1 := (HB2.out.frozen (p := ⟨b, 1, none⟩) hbl).trans (hf 1)
  refine ⟨rfl, ((HR.out.at hW hWb hbl).set 3 _).set 4 _, ?_, ?_, ?_, ?_, ?_⟩
  · exact (World.cell?_setCell_other _ _ _ _ (ne_off (by decide))).trans (World.cell?_setCell_same _ _ _ k3)
  · exact ((World.cell?_setCell_other _ _ _ _ (ne_off (by decide))).trans (World.cell?_setCell_other _ _ _ _ (ne_off (by decide)))).trans k0
  · exact ((World.cell?_setCell_other _ _ _ _ (ne_off (by decide))).trans (World.cell?_setCell_other _ _ _ _ (ne_off (by decide)))).trans k1
  · rw [World.frozen?_setCell, World.frozen?_setCell]; exact z0
  · rw [World.frozen?_setCell, World.frozen?_setCell]; exact z1
theorem do_build (b : Nat) (W w : World) (hW : Below W.heap.size W w) (hWb : W.heap.size ≤ b) (hn : NewAt b w) :
    Calls Tryz.prog 201 #[.pointer (some ⟨b, 0, none⟩), .func (.func 202) #[.pointer (some ⟨b, 0, none⟩)] #[]] w fun e w' => e = .returned (.tuple #[]) ∧
      RepAt W b (w.heap.size + 1) w' ∧ w'.cell? ⟨b, 3, none⟩ = some (.iface 215 (.pointer (some ⟨w.heap.size + 1, 0, none⟩))) := by
  obtain ⟨h0, h1, h3, hf, g, c, h4, ⟨o0, o1, o2, o3⟩, hbg⟩ := hn
  have es : (w.setCell ⟨b, 1, none⟩ (.int .i32 1)).heap.size = w.heap.size := World.size_setCell ..
  have hb := buildOnce_any b g c W (w.setCell ⟨b, 1, none⟩ (.int .i32 1)) (hW.setCell hWb _) hWb
    ((World.cell?_setCell_other _ _ _ _ (ne_off (by decide))).trans h0) (World.cell?_setCell_same _ _ _ h1) ((World.cell?_setCell_other _ _ _ _ (ne_off (by decide))).trans h3)
    (fun i => by rw [World.frozen?_setCell]; exact hf i) ((World.cell?_setCell_other _ _ _ _ (ne_off (by decide))).trans h4)
    ⟨(World.cell?_setCell_other _ _ _ _ (ne_blk hbg)).trans o0, (World.cell?_setCell_other _ _ _ _ (ne_blk hbg)).trans o1, (World.cell?_setCell_other _ _ _ _ (ne_blk hbg)).trans o2, (World.cell?_setCell_other _ _ _ _ (ne_blk hbg)).trans o3⟩
  refine (once_build b w _ h0 h1 (hf 0) (hf 1) hb (fun w' hq => ⟨hq.2.2.1, hq.2.2.2.1, hq.2.2.2.2.1, hq.2.2.2.2.2⟩)).mono ?_
  rintro e w' ⟨rfl, w1, hq, rfl⟩
  refine ⟨rfl, ?_, ?_⟩
  · have := (hq.1.drew.set 0 (.int .u32 1)).set 1 (.int .i32 0)
    rw [es] at this
    exact this
  · have := hq.2.1
    rw [es] at this
    refine ((World.cell?_setCell_other _ _ _ _ (ne_off (by decide))).trans (World.cell?_setCell_other _ _ _ _ (ne_off (by decide)))).trans ?_
    rw [World.cell?_drew]; exact this
end Go.Proofs.YtcmmbceacjechaaGreatDoor

/- What package quote computes, as functions on lists of bytes, and facts on them. No statement is proved here. -/
namespace Go.Proofs.YtcmmbceacjechaaGreatDoor
set_option linter.unusedVariables false
set_option linter.unusedSimpArgs false

/-- a quoted stretch behind its sign: what it says, how many bytes it has with the sign that ends it; p: does the byte ahead pair the next one? -/
def qrd : Bool → List UInt8 → List UInt8 × Nat
  | _, [] => ([], 0)
  | p, c :: r =>
    if !p && c == 34 then ([], 1)
    else if !p && c == 92 then ((qrd true r).1, (qrd true r).2 + 1)
    else (c :: (qrd false r).1, (qrd false r).2 + 1)
def readQ (l : List UInt8) : List UInt8 × Nat :=
  match l with
  | [] => ([], 0)
  | c :: r => if c == 34 then ((qrd false r).1, (qrd false r).2 + 1) else ([], 0)
def escC (c : UInt8) : List UInt8 := if c = 34 ∨ c = 92 then [92, c] else [c]
def escL (l : List UInt8) : List UInt8 := l.flatMap escC
def quoteL (l : List UInt8) : List UInt8 := 34 :: (escL l ++ [34])
theorem qrd_le (p : Bool) (l : List UInt8) : (qrd p l).1.length ≤ l.length ∧ (qrd p l).2 ≤ l.length := by
  induction l generalizing p with
  | nil => exact ⟨Nat.le_refl _, Nat.le_refl _⟩
  | cons c r ih =>
    unfold qrd
    split
    · simp
    · split
      · have := ih true; simp; omega
      · have := ih false; simp; omega
theorem readQ_le (l : List UInt8) : (readQ l).1.length ≤ l.length ∧ (readQ l).2 ≤ l.length := by
  cases l with
  | nil => exact ⟨Nat.le_refl _, Nat.le_refl _⟩
  | cons c r =>
    have := qrd_le false r
    unfold readQ
    simp only []
    split
    · simp; omega
    · simp
theorem qrd_esc (x r : List UInt8) : qrd false (escL x ++ 34 :: r) = (x, (escL x).length + 1) := by
  induction x with
  | nil => rfl
  | cons c t ih =>
    have e : escL (c :: t) = escC c ++ escL t := rfl
    rw [e]
    by_cases h : c = 34 ∨ c = 92
    · rw [show escC c = [92, c] from if_pos h]
      show qrd false (92 :: c :: (escL t ++ 34 :: r)) = _
      have h1 : qrd false (92 :: c :: (escL t ++ 34 :: r)) = ((qrd true (c :: (escL t ++ 34 :: r))).1, (qrd true (c :: (escL t ++ 34 :: r))).2 + 1) := rfl
      have h2 : qrd true (c :: (escL t ++ 34 :: r)) = (c :: (qrd false (escL t ++ 34 :: r)).1, (qrd false (escL t ++ 34 :: r)).2 + 1) := rfl
      rw [h1, h2, ih]
      simp
    · rw [show escC c = [c] from if_neg h]
      have h34 : (c == 34) = false := beq_eq_false_iff_ne.2 (fun e => h (.inl e))
      have h92 : (c == 92) = false := beq_eq_false_iff_ne.2 (fun e => h (.inr e))
      show qrd false (c :: (escL t ++ 34 :: r)) = _
      unfold qrd
      rw [h34, h92, ih]
      simp
/-- what is written is read, whatever follows -/
theorem readQ_quote (x r : List UInt8) : readQ (quoteL x ++ r) = (x, (quoteL x).length) := by
  have e : quoteL x ++ r = 34 :: (escL x ++ 34 :: r) := by simp [quoteL]
  rw [e]
  show ((qrd false (escL x ++ 34 :: r)).1, (qrd false (escL x ++ 34 :: r)).2 + 1) = _
  rw [qrd_esc]
  simp [quoteL]
theorem escC_length (c : UInt8) : (escC c).length ≤ 2 := by unfold escC; split <;> simp
theorem escL_length (l : List UInt8) : (escL l).length ≤ 2 * l.length := by
  induction l with
  | nil => exact Nat.le_refl _
  | cons c r ih =>
    have := escC_length c
    show (escC c ++ escL r).length ≤ _
    rw [List.length_append, List.length_cons]; omega
/-- a control sign: below 32, or 127 -/
def ctlB (c : UInt8) : Bool := decide (c.toNat < 32) || c == 127
end Go.Proofs.YtcmmbceacjechaaGreatDoor

/- How many signs a quoted stretch pairs. No statement is proved here. -/
namespace Go.Proofs.YtcmmbceacjechaaGreatDoor
set_option linter.unusedVariables false
set_option linter.unusedSimpArgs false
def cnB (c : UInt8) (l : List UInt8) : Nat := l.count c
def qn (l : List UInt8) : Nat := cnB 92 l + cnB 34 l
theorem qn_snoc (l : List UInt8) (c : UInt8) : qn (l ++ [c]) = qn l + (escC c).length - 1 := by
  unfold qn cnB escC
  rw [List.count_append, List.count_append, List.count_singleton, List.count_singleton]
  by_cases h1 : c = 34
  · subst h1; simp; omega
  · by_cases h2 : c = 92
    · subst h2; simp; omega
    · simp [h1, h2]
theorem escL_len (l : List UInt8) : (escL l).length = l.length + qn l := by
  induction l with
  | nil => rfl
  | cons c t ih =>
    show (escC c ++ escL t).length = _
    rw [List.length_append, ih]
    unfold qn cnB escC
    rw [List.count_cons, List.count_cons, List.length_cons]
    by_cases h1 : c = 34
    · subst h1; simp; omega
    · by_cases h2 : c = 92
      · subst h2; simp; omega
      · simp [h1, h2]; omega
theorem escL_same (l : List UInt8) (h : qn l = 0) : escL l = l := by
  unfold qn cnB at h
  induction l with
  | nil => rfl
  | cons c t ih =>
    rw [List.count_cons, List.count_cons] at h
    have h1 : ¬ c = 34 := fun e => by subst e; simp at h
    have h2 : ¬ c = 92 := fun e => by subst e; simp at h
    show escC c ++ escL t = _
    rw [ih (by omega)]
    simp [escC, h1, h2]
theorem escL_snoc (l : List UInt8) (c : UInt8) : escL (l ++ [c]) = escL l ++ escC c := by simp [escL]
theorem escL_take (s : ByteArray) (k : Nat) (h : k < s.size) : escL (s.data.toList.take (k + 1)) = escL (s.data.toList.take k) ++ escC s[k] := by rw [take_snoc s k h, escL_snoc]
theorem qn_take (s : ByteArray) (k : Nat) (h : k < s.size) : qn (s.data.toList.take (k + 1)) = qn (s.data.toList.take k) + (escC s[k]).length - 1 := by rw [take_snoc s k h, qn_snoc]
theorem qn_le (l : List UInt8) : qn l ≤ l.length := by
  have h1 := escL_len l
  have h2 := escL_length l
  omega
theorem escL_part (s : ByteArray) (k : Nat) : (escL (s.data.toList.take k)).length ≤ (escL s.data.toList).length := by
  have e : escL s.data.toList = escL (s.data.toList.take k) ++ escL (s.data.toList.drop k) := by
    unfold escL
    rw [← List.flatMap_append, List.take_append_drop]
  rw [e, List.length_append]; exact Nat.le_add_right _ _
/-- o, then as many zeroes as N wants -/
def padL (N : Nat) (o : List UInt8) : List UInt8 := o ++ List.replicate (N - o.length) 0
theorem padL_length {N : Nat} {o : List UInt8} (h : o.length ≤ N) : (padL N o).length = N := by unfold padL; simp; omega
theorem padL_set {N : Nat} {o : List UInt8} (c : UInt8) (h : o.length < N) : (padL N o).set o.length c = padL N (o ++ [c]) := by
  unfold padL
  rw [List.set_append_right _ _ (Nat.le_refl _), Nat.sub_self]
  obtain ⟨m, hm⟩ : ∃ m, N - o.length = m + 1 := ⟨N - o.length - 1, by omega⟩
  have hm2 : N - (o ++ [c]).length = m := by simp; omega
  rw [hm, hm2, List.replicate_succ]
  simp
theorem padL_full (o : List UInt8) : padL o.length o = o := by unfold padL; simp
end Go.Proofs.YtcmmbceacjechaaGreatDoor

