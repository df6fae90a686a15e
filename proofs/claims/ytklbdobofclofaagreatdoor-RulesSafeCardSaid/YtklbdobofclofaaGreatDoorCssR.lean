/- Two rows of texts behind two boxes: append to one keeps the other; Contains, Reverse and Join over an owned row. Pure: what Clean gathers from the end. No statement is proved here. Own work of the verifier. -/
import Derived.Test.YtklbdobofclofaaGreatDoorCssB
import Derived.Maps.AppendAt
import Derived.Maps.OwnIn
import Derived.Lib.LazyBuf
import Derived.Laws.IdiomCopy
import Derived.Deep.Upon
namespace Go.Proofs.YtklbdobofclofaaGreatDoor
open Go.RowKit Go.Shelf
set_option linter.unusedVariables false
set_option linter.unusedSimpArgs false
set_option maxRecDepth 100000

/-! ### what is gathered from the end -/
def lastR (pre : List IdxL) : List DeclL := (lastD ((pre.map (·.2)).reverse)).reverse
theorem lastR_nil : lastR [] = [] := rfl
def hasN (L : List DeclL) (n : List UInt8) : Bool := L.any (fun e => e.1 == n)
theorem hasN_iff (L : List DeclL) (n : List UInt8) : hasN L n = true ↔ ∃ e ∈ L, e.1 = n := by
  unfold hasN
  rw [List.any_eq_true]
  constructor
  · rintro ⟨e, h, he⟩; exact ⟨e, h, by simpa using he⟩
  · rintro ⟨e, h, he⟩; exact ⟨e, h, by simpa using he⟩
theorem lastR_step (pre : List IdxL) (x : IdxL) : lastR (pre ++ [x]) = if safeD x.2 = true ∧ hasN (lastR pre) x.2.1 = false then lastR pre ++ [x.2] else lastR pre := by
  have e : ((pre ++ [x]).map (·.2)).reverse = x.2 :: (pre.map (·.2)).reverse := by simp
  have hh : hasN (lastR pre) x.2.1 = ((pre.map (·.2)).reverse).any (fun e => e.1 == x.2.1 && safeD e) := by
    rw [Bool.eq_iff_iff, hasN_iff, List.any_eq_true]
    unfold lastR
    constructor
    · rintro ⟨e, h, he⟩
      obtain ⟨y, hy, hn, hs⟩ := (lastD_names _ _).1 ⟨e, List.mem_reverse.1 h, he⟩
      exact ⟨y, hy, by rw [hn, hs]; simp⟩
    · rintro ⟨e, h, he⟩
      rw [Bool.and_eq_true, beq_iff_eq] at he
      obtain ⟨y, hy, hn⟩ := (lastD_names ((pre.map (·.2)).reverse) x.2.1).2 ⟨e, h, he.1, he.2⟩
      exact ⟨y, List.mem_reverse.2 hy, hn⟩
  rw [hh]
  unfold lastR
  rw [e, lastD]
  split
  · rw [List.reverse_cons]
  · rfl
theorem lastR_yes {pre : List IdxL} {x : IdxL} (h1 : safeD x.2 = true) (h2 : hasN (lastR pre) x.2.1 = false) : lastR (pre ++ [x]) = lastR pre ++ [x.2] := by rw [lastR_step, if_pos ⟨h1, h2⟩]
theorem lastR_no1 {pre : List IdxL} {x : IdxL} (h1 : safeD x.2 = false) : lastR (pre ++ [x]) = lastR pre := by rw [lastR_step, if_neg (fun h => by rw [h1] at h; cases h.1)]
theorem lastR_no2 {pre : List IdxL} {x : IdxL} (h2 : hasN (lastR pre) x.2.1 = true) : lastR (pre ++ [x]) = lastR pre := by rw [lastR_step, if_neg (fun h => by rw [h2] at h; cases h.2)]
theorem lastR_len (pre : List IdxL) : (lastR pre).length ≤ pre.length := by
  unfold lastR
  have := (lastD_sub ((pre.map (·.2)).reverse)).length_le
  simpa using this
theorem backN_snd (D : List DeclL) : ∀ k, k ≤ D.length → ((backN D k).map (·.2)).reverse = D.take k
  | 0, _ => rfl
  | k + 1, h => by
    rw [backN, List.map_cons, List.reverse_cons, backN_snd D k (by omega), List.take_succ_eq_append_getElem (by omega)]
    rw [List.getD_eq_getElem?_getD, List.getElem?_eq_getElem (by omega)]; rfl
theorem lastR_back (D : List DeclL) : lastR (backN D D.length) = (lastD D).reverse := by
  unfold lastR
  rw [backN_snd D D.length (Nat.le_refl _), List.take_length]
theorem join_show (L : List DeclL) : Lib.join (L.map showD) [59, 32] = joinD L := by
  unfold Lib.join
  induction L with
  | nil => rfl
  | cons d r ih =>
    cases r with
    | nil => simp [List.intercalate, joinD]
    | cons e r =>
      have : ([59, 32] : List UInt8).intercalate ((d :: e :: r).map showD) = showD d ++ ([59, 32] ++ ([59, 32] : List UInt8).intercalate ((e :: r).map showD)) := by
        simp [List.intercalate]
      rw [this, ih]; rfl

/-! ### rows -/
/-- in W the []string value v owns the texts l, in a block from B on -/
def SRow (B : Nat) (v : Value) (l : List ByteArray) (W : World) : Prop := W.ownsRow B 9 1 v l.length (strVals l)
theorem SRow.nil (B : Nat) (W : World) : SRow B (.slice none 0 0) [] W := World.ownsRow_nil W B _ 1
theorem SRow.form {B : Nat} {v : Value} {l : List ByteArray} {W : World} (h : SRow B v l W) : (v = .slice none 0 0 ∧ l = []) ∨ ∃ g cap, v = .slice (some ⟨g, 0, none⟩) l.length cap ∧ l.length ≤ cap ∧ B ≤ g ∧ g < W.heap.size ∧ (∀ (j : Nat) x, l[j]? = some x → W.cell? ⟨g, 0 + j, none⟩ = some (.string x)) ∧ (∀ j : Nat, W.frozen? ⟨g, 0 + j, none⟩ = false) := by
  have h1 : W.ownsRow B 9 1 v l.length (strVals l) := h
  rcases h.2 with ⟨rfl, h0⟩ | ⟨g, cap, cur, rfl, hg, hh, hc, hm, _⟩
  · exact .inl ⟨rfl, List.eq_nil_of_length_eq_zero h0⟩
  · refine .inr ⟨g, cap, rfl, hc, hg, lt_of_block hh, fun j x hj => ?_, fun j => ?_⟩
    · have hlt := (List.getElem?_eq_some_iff.1 hj).1
      rw [Nat.zero_add, h1.cellAt j (by omega)]
      simp [strVals, hj]
    · unfold World.frozen?
      rw [hh]; simp
theorem SRow.slice_len {B : Nat} {v : Value} {l : List ByteArray} {W : World} (h : SRow B v l W) : ∃ A c, v = .slice A l.length c := by
  rcases h.form with ⟨rfl, rfl⟩ | ⟨g, cap, rfl, _⟩
  · exact ⟨_, _, rfl⟩
  · exact ⟨_, _, rfl⟩
theorem SRow.kept {B : Nat} {v : Value} {l : List ByteArray} {W W' : World} {row : Option Nat} (h : SRow B v l W) (hg : W.grownBy W' row) (hr : v.ownBlock = none ∨ v.ownBlock ≠ row) : SRow B v l W' := World.ownsRow.kept h hg hr
theorem SRow.lt {B : Nat} {v : Value} {l : List ByteArray} {W : World} (h : SRow B v l W) : ∀ b, v.ownBlock = some b → B ≤ b ∧ b < W.heap.size := fun b hb => World.ownsRow.lt h b hb
theorem SRow.block {B : Nat} {v : Value} {l : List ByteArray} {W : World} (h : SRow B v l W) {b : Nat} (hb : v.ownBlock = some b) : ∃ cur fr, W.heap[b]? = some (.cells cur 9 fr) := by
  rcases h.2 with ⟨rfl, _⟩ | ⟨g, cap, cur, rfl, _, hh, _⟩
  · simp [Value.ownBlock] at hb
  · have e : g = b := by simpa [Value.ownBlock] using hb
    subst e
    exact ⟨_, _, hh⟩
/-- two boxes, each with a row of texts, apart from one another -/
structure TwoRows (b1 b2 B : Nat) (v1 v2 : Value) (l1 l2 : List ByteArray) (W : World) : Prop where
  x1 : Boxed W b1 66 v1
  x2 : Boxed W b2 66 v2
  r1 : SRow B v1 l1 W
  r2 : SRow B v2 l2 W
  ap : ∀ b, v1.ownBlock = some b → v2.ownBlock ≠ some b
theorem TwoRows.symm {b1 b2 B : Nat} {v1 v2 : Value} {l1 l2 : List ByteArray} {W : World} (h : TwoRows b1 b2 B v1 v2 l1 l2 W) : TwoRows b2 b1 B v2 v1 l2 l1 W := ⟨h.x2, h.x1, h.r2, h.r1, fun b h2 h1 => h.ap b h1 h2⟩
theorem TwoRows.grown {b1 b2 B : Nat} {v1 v2 : Value} {l1 l2 : List ByteArray} {W W' : World} {row : Option Nat} (h : TwoRows b1 b2 B v1 v2 l1 l2 W) (hg : W.grownBy W' row) (hr : ∀ r, row = some r → ∃ o : Obj, W.heap[r]? = some o ∧ o.isCells = false) : TwoRows b1 b2 B v1 v2 l1 l2 W' := by
  have hc : ∀ {k : Nat} {cs : Array Value} {t : TypeId} {fr : Nat × Nat}, W.heap[k]? = some (.cells cs t fr) → some k ≠ row := by
    intro k cs t fr hk e
    obtain ⟨o, ho, hc⟩ := hr k e.symm
    rw [hk] at ho
    injection ho with ho
    subst ho
    cases hc
  have hv : ∀ {v : Value} {l : List ByteArray}, SRow B v l W → v.ownBlock = none ∨ v.ownBlock ≠ row := by
    intro v l hl
    cases e : v.ownBlock with
    | none => exact .inl rfl
    | some b =>
      obtain ⟨cur, fr, hb⟩ := hl.block e
      exact .inr (hc hb)
  exact ⟨h.x1.kept hg (hc h.x1), h.x2.kept hg (hc h.x2), h.r1.kept hg (hv h.r1), h.r2.kept hg (hv h.r2), h.ap⟩
/-- append to the first row, and the store into its box -/
theorem TwoRows.app {b1 b2 B : Nat} {v1 v2 v' : Value} {l1 l2 : List ByteArray} {W w1 : World} {tmp : Obj} {c : ByteArray} (h : TwoRows b1 b2 B v1 v2 l1 l2 W) (h1 : b1 < B) (h2 : b2 < B) (hne : b1 ≠ b2) (hB : B ≤ W.heap.size)
    (ho : w1.ownsRow B 9 1 v' (l1.length + 1) (strVals l1 ++ [.string c])) (hg : (W.alloc tmp).grownBy w1 v1.ownBlock) (hat : v'.ownBlock = v1.ownBlock ∨ v'.ownBlock = some (W.alloc tmp).heap.size) :
    Boxed w1 b1 66 v1 ∧ Boxed w1 b2 66 v2 ∧ TwoRows b1 b2 B v' v2 (l1 ++ [c]) l2 (w1.setCell ⟨b1, 0, none⟩ v') ∧ KeepsOthers W (w1.setCell ⟨b1, 0, none⟩ v') ∧ (∀ b, b < B → b ≠ b1 → (w1.setCell ⟨b1, 0, none⟩ v').heap[b]? = W.heap[b]?) ∧ W.heap.size ≤ (w1.setCell ⟨b1, 0, none⟩ v').heap.size ∧ (∀ b0, b0 ≤ b1 → b0 ≤ B → Below b0 W (w1.setCell ⟨b1, 0, none⟩ v')) := by
  have hz : (W.alloc tmp).heap.size = W.heap.size + 1 := World.size_alloc ..
  have hnb : ∀ {b : Nat}, b < B → some b ≠ v1.ownBlock := fun hb e => by have := (h.r1.lt _ e.symm).1; omega
  have hx1 : Boxed w1 b1 66 v1 := (h.x1.alloc tmp).kept hg (hnb h1)
  have hx2 : Boxed w1 b2 66 v2 := (h.x2.alloc tmp).kept hg (hnb h2)
  have hr2 : SRow B v2 l2 w1 := SRow.kept (World.ownsRow.alloc h.r2 tmp) hg (by
    cases e : v2.ownBlock with
    | none => exact .inl rfl
    | some b => exact .inr (fun e2 => h.ap b e2.symm e))
  have hr1 : SRow B v' (l1 ++ [c]) w1 := by
    unfold SRow
    rw [List.length_append, List.length_singleton, strVals, List.map_append]
    exact ho
  have hap : ∀ b, v'.ownBlock = some b → v2.ownBlock ≠ some b := by
    intro b hb e2
    rcases hat with hat | hat
    · exact h.ap b (by rw [← hat]; exact hb) e2
    · rw [hb] at hat
      injection hat with hat
      have := (h.r2.lt b e2).2
      omega
  have hso : ∀ {v : Value} {l : List ByteArray}, SRow B v l w1 → SRow B v l (w1.setCell ⟨b1, 0, none⟩ v') := fun {v l} hl => SRow.kept hl (grownBy_setCell' w1 b1 v') (by
    cases e : v.ownBlock with
    | none => exact .inl rfl
    | some b => exact .inr (fun e2 => by have := (hl.lt b e).1; injection e2 with e2; omega))
  refine ⟨hx1, hx2, ⟨hx1.set v', hx2.other (Ne.symm hne) v', hso hr1, hso hr2, hap⟩, ?_, fun b hb hb1 => ?_, ?_, fun b0 hb0 hb0B => ?_⟩
  · refine ((KeepsOthers.alloc W tmp).trans (KeepsOthers.of_grownBy hg fun j o ej hj => ?_)).trans (KeepsOthers.setCell _ _ _)
    obtain ⟨cur, fr, hb⟩ := SRow.block (World.ownsRow.alloc h.r1 tmp) ej
    rw [hb] at hj; cases hj; rfl
  · refine (Below.heap_setCell w1 ⟨b1, 0, none⟩ v' b hb1).trans ?_
    refine (hg.block b (by rw [hz]; omega) (hnb hb)).trans ?_
    exact Below.heap_alloc W tmp b (by omega)
  · have e1 := hg.size
    have e2 : (w1.setCell ⟨b1, 0, none⟩ v').heap.size = w1.heap.size := World.size_setCell ..
    omega
  · exact (((Below.refl b0 W).alloc (by omega) tmp).grown hg (by omega) fun j ej => Nat.le_trans hb0B (h.r1.lt j ej).1).setCell (p := ⟨b1, 0, none⟩) hb0 _
theorem contains_any (B : Nat) (v : Value) (L : List DeclL) (n : List UInt8) (W : World) (h : SRow B v (L.map fun e => str e.1) W) (hl : L.length ≤ 1048576) :
    Calls Tryz.prog 78 #[v, .string (str n)] W fun e W' => e = .returned (.bool (hasN L n)) ∧ W = W' := by
  rcases h.form with ⟨rfl, hn⟩ | ⟨g, cap, rfl, _, _, _, hc, _⟩
  · have hL : L = [] := by simpa using hn
    subst hL
    exact (Tryz.slices_Contains_string_empty _ _ _ _).mono fun e w' ⟨he, hw⟩ => ⟨he, hw.symm⟩
  · have f1 : (L.map fun e => str e.1).length ≤ 9223372036854775807 := by rw [List.length_map]; omega
    have f2 : ∀ j, j < (L.map fun e => str e.1).length → W.cell? ⟨g, 0 + j, none⟩ = some (.string ((L.map fun e => str e.1).getD j ByteArray.empty)) := fun j hj => by
      refine hc j _ ?_
      rw [List.getD_eq_getElem?_getD, List.getElem?_eq_getElem hj]; rfl
    have hh := Tryz.slices_Contains_string g 0 (L.map fun e => str e.1).length cap (L.map fun e => str e.1) (str n) W (Nat.le_refl _) f1 f2
    have ee : Lib.containsS ((L.map fun e => str e.1).take (L.map fun e => str e.1).length) (str n) = hasN L n := by
      rw [List.take_length]
      rw [Bool.eq_iff_iff, Lib.containsS_iff, hasN_iff]
      constructor
      · intro hm
        obtain ⟨e, he, hs⟩ := List.mem_map.1 hm
        exact ⟨e, he, by rw [← str_toList e.1, hs, str_toList]⟩
      · rintro ⟨e, he, rfl⟩
        exact List.mem_map.2 ⟨e, he, rfl⟩
    rw [ee] at hh
    exact hh.mono fun e w' ⟨he, hw⟩ => ⟨he, hw.symm⟩
/-- a row turned round -/
theorem reverse_any (B b0 : Nat) (v : Value) (l : List ByteArray) (W0 W : World) (h : SRow B v l W) (hl : l.length ≤ 1048576) (hb : Below b0 W0 W) (hB : b0 ≤ B) :
    Calls Tryz.prog 79 #[v] W fun e W' => e = .returned (.tuple #[]) ∧ Below b0 W0 W' ∧ W'.heap.size = W.heap.size ∧ (∀ b, v.ownBlock ≠ some b → b < W.heap.size → W'.heap[b]? = W.heap[b]?) ∧
      ∀ g cap, v = .slice (some ⟨g, 0, none⟩) l.length cap → ∀ (j : Nat) x, l.reverse[j]? = some x → W'.cell? ⟨g, 0 + j, none⟩ = some (.string x) := by
  rcases h.form with ⟨rfl, hn⟩ | ⟨g, cap, rfl, _, hg, hlt, hc, hf⟩
  · refine (Tryz.slices_Reverse_string_empty _ _ _).mono fun e w' ⟨he, hw⟩ => ?_
    subst hw
    exact ⟨he, hb, rfl, fun _ _ _ => rfl, fun g cap e => by cases e⟩
  · refine (Tryz.slices_Reverse_string_cells g 0 l.length cap (fun i => l.getD i ByteArray.empty) W (by omega) (fun i hi => hc i _ (by rw [List.getD_eq_getElem?_getD, List.getElem?_eq_getElem hi]; rfl)) (fun j _ => hf j)).mono fun e w' ⟨he, q, hw⟩ => ?_
    subst hw
    have hvs : (Lib.strsOf (fun i => l.getD i ByteArray.empty) l.length).reverse.map encStr = (l.reverse).map Value.string := by
      unfold Lib.strsOf
      rw [← List.map_reverse, List.map_map]
      have : l.reverse = (List.range l.length).reverse.map fun i => l.getD i ByteArray.empty := by
        rw [List.map_reverse]
        congr 1
        apply List.ext_getElem
        · simp
        · intro i h1 h2
          simp [List.getD_eq_getElem?_getD, List.getElem?_eq_getElem h1]
      rw [this, List.map_map]
      apply List.map_congr_left
      intro i _
      show Value.string ⟨(l.getD i ByteArray.empty).data.toList.toArray⟩ = Value.string (l.getD i ByteArray.empty)
      exact congrArg Value.string (str_of _)
    rw [hvs]
    have hsz : ∀ (vs : List Value) (o : Nat) (w : World), (w.setCells g o vs).heap.size = w.heap.size := by
      intro vs
      induction vs with
      | nil => intro o w; rfl
      | cons v r ih => intro o w; rw [World.setCells, ih]; exact World.size_setCell ..
    have hsz := fun o => hsz ((l.reverse).map Value.string) o (W.drewN q)
    have hb' : Below b0 W0 (W.drewN q) := ⟨hb.os, hb.tape, hb.output, hb.size, hb.block⟩
    refine ⟨he, below_setCells (Nat.le_trans hB hg) _ _ _ hb', ?_, fun b hne hbl => ?_, fun g' cap' e j x hj => ?_⟩
    · exact (hsz _).trans rfl
    · exact World.heap_setCells_other (W.drewN q) g _ _ hbl (fun e => hne (by rw [e]; rfl))
    · injection e with e1 e2 e3
      injection e1 with e1
      injection e1 with e1
      subst e1
      have hjl : j < ((l.reverse).map Value.string).length := by rw [List.length_map]; exact (List.getElem?_eq_some_iff.1 hj).1
      have := World.cell?_setCells_in g ((l.reverse).map Value.string) 0 (W.drewN q) (fun i hi => by
        rw [List.length_map, List.length_reverse] at hi
        have := hc i (l[i]) (by rw [List.getElem?_eq_getElem hi])
        show (W.cell? _).isSome = true
        rw [this]; rfl) j hjl
      rw [this]
      have hx := (List.getElem?_eq_some_iff.1 hj).2
      simp only [List.getElem_map, hx]
end Go.Proofs.YtklbdobofclofaaGreatDoor
