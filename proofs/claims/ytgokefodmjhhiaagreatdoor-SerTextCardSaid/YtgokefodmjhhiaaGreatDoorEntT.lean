/- The trie of ent.Text's replacer, built add by add. No statement is proved here. -/
import Derived.Test.YtgokefodmjhhiaaGreatDoorEntS
namespace Go.Proofs.YtgokefodmjhhiaaGreatDoor
open Go.RowKit
set_option linter.unusedVariables false
set_option linter.unusedSimpArgs false
set_option maxRecDepth 100000
def nodeZ : Obj := .cells #[.string ⟨#[]⟩, .int .i64 0, .string ⟨#[]⟩, .pointer none, .slice none 0 0] 224
/-- a new node n hung into place m of the table T; all else stands -/
structure Hung (T m n : Nat) (w w' : World) : Prop where
  size : w.heap.size < w'.heap.size
  mine : w.heap.size ≤ n ∧ n < w'.heap.size
  hit : w'.cell? ⟨T, m, none⟩ = some (.pointer (some ⟨n, 0, none⟩))
  tab : ∀ j : Nat, j ≠ m → w'.cell? ⟨T, j, none⟩ = w.cell? ⟨T, j, none⟩
  cell : ∀ b o : Nat, b ≠ T → b < w.heap.size → w'.cell? ⟨b, o, none⟩ = w.cell? ⟨b, o, none⟩
  fr : ∀ b o : Nat, b < w.heap.size → w'.frozen? ⟨b, o, none⟩ = w.frozen? ⟨b, o, none⟩
  below : ∀ B : Nat, B ≤ T → B ≤ w.heap.size → Below B w w'
theorem Hung.node {T m n b : Nat} {w w' : World} (h : Hung T m n w w') (hT : b ≠ T) (hb : b < w.heap.size) {val pre : ByteArray} {prio : Int} {nx : Option Addr} {tab : Value} (hn : Node w b val prio pre nx tab) : Node w' b val prio pre nx tab := by
  obtain ⟨a0, a1, a2, a3, a4⟩ := hn
  exact ⟨(h.cell b 0 hT hb).trans a0, (h.cell b 1 hT hb).trans a1, (h.cell b 2 hT hb).trans a2, (h.cell b 3 hT hb).trans a3, (h.cell b 4 hT hb).trans a4⟩
theorem z_set (w : World) (p : Addr) (x : Value) : (w.setCell p x).heap.size = w.heap.size := by simp [World.setCell]
theorem z_all (w : World) (o : Obj) : (w.alloc o).heap.size = w.heap.size + 1 := World.size_alloc ..
theorem z_tab (w : World) (T m : Nat) (k : Nat) : ((tabW w T m).drewN k).heap.size = w.heap.size + 1 := by
  show (tabW w T m).heap.size = _
  rw [tabW, z_set, z_all]
theorem new_cell (w : World) (o : Nat) : (w.alloc nodeZ).cell? ⟨w.heap.size, o, none⟩ = (#[Value.string ⟨#[]⟩, .int .i64 0, .string ⟨#[]⟩, .pointer none, .slice none 0 0] : Array Value)[o]? := by
  rw [nodeZ, World.cell?_alloc_at _ _ _ _ rfl]
theorem tab_node (w : World) (T m k : Nat) (hT : T < w.heap.size) (o : Nat) : ((tabW w T m).drewN k).cell? ⟨w.heap.size, o, none⟩ = (#[Value.string ⟨#[]⟩, .int .i64 0, .string ⟨#[]⟩, .pointer none, .slice none 0 0] : Array Value)[o]? := by
  show (tabW w T m).cell? _ = _
  rw [tabW, World.cell?_setCell_other _ _ _ _ (ne_blk (by omega))]
  exact new_cell w o
theorem tab_free (w : World) (T m k : Nat) (o : Nat) : ((tabW w T m).drewN k).frozen? ⟨w.heap.size, o, none⟩ = false := by
  show (tabW w T m).frozen? _ = _
  rw [tabW, World.frozen?_setCell]
  exact World.frozen?_alloc_at _ _ _ _ rfl
theorem tab_hung (w : World) (T m k : Nat) (hT : T < w.heap.size) (ct : w.cell? ⟨T, m, none⟩ = some (.pointer none)) : Hung T m w.heap.size w ((tabW w T m).drewN k) := by
  refine ⟨by rw [z_tab]; omega, ⟨Nat.le_refl _, by rw [z_tab]; omega⟩, ?_, ?_, ?_, ?_, ?_⟩
  · show (tabW w T m).cell? _ = _
    rw [tabW]
    exact World.cell?_setCell_same _ _ _ ((World.cell?_alloc_past _ _ _ hT).trans ct)
  · intro j hj
    show (tabW w T m).cell? _ = _
    rw [tabW, World.cell?_setCell_other _ _ _ _ (ne_off (Ne.symm hj)), World.cell?_alloc_past _ _ _ hT]
  · intro b o hb hl
    show (tabW w T m).cell? _ = _
    rw [tabW, World.cell?_setCell_other _ _ _ _ (ne_blk (Ne.symm hb)), World.cell?_alloc_past _ _ _ hl]
  · intro b o hl
    show (tabW w T m).frozen? _ = _
    rw [tabW, World.frozen?_setCell, World.frozen?_alloc_past _ _ _ hl]
  · intro B hB hw
    exact (((Below.refl B w).alloc hw _).setCell hB _).trans ⟨rfl, rfl, rfl, Nat.le_refl _, fun _ _ => rfl⟩
/-- what a leaf's write keeps -/
theorem leaf_hung {T m n : Nat} {w w1 : World} (h : Hung T m n w w1) (b : Nat) (hb : w.heap.size ≤ b) (hT : T < w.heap.size) (val : ByteArray) (p : Int) : Hung T m n w (leafW w1 b val p) := by
  have zz : (leafW w1 b val p).heap.size = w1.heap.size := by rw [leafW, z_set, z_set]
  have oc : ∀ c o : Nat, c < w.heap.size → (leafW w1 b val p).cell? ⟨c, o, none⟩ = w1.cell? ⟨c, o, none⟩ := fun c o hc => by
    rw [leafW, World.cell?_setCell_other _ _ _ _ (ne_blk (by omega)), World.cell?_setCell_other _ _ _ _ (ne_blk (by omega))]
  refine ⟨by rw [zz]; exact h.size, ⟨h.mine.1, by rw [zz]; exact h.mine.2⟩, (oc T m hT).trans h.hit, fun j hj => (oc T j hT).trans (h.tab j hj), fun c o hc hl => (oc c o hl).trans (h.cell c o hc hl), fun c o hl => ?_, fun B hB hw => ?_⟩
  · rw [leafW, World.frozen?_setCell, World.frozen?_setCell]; exact h.fr c o hl
  · exact ((h.below B hB hw).setCell (by show B ≤ b; omega) _).setCell (by show B ≤ b; omega) _
/-- add of a key of one byte -/
theorem add_one (G T m : Nat) (s val : ByteArray) (p : Int) (w : World) (h1 : s.size = 1) (hT : T < w.heap.size) (m5 : m < 5) (c2 : w.cell? ⟨G, 2, none⟩ = some (.string ⟨#[]⟩)) (c4 : w.cell? ⟨G, 4, none⟩ = some (.slice (some ⟨T, 0, none⟩) 5 5))
    (cm : w.cell? ⟨G, 6 + (s[0]'(by omega)).toNat, none⟩ = some (.int .u8 (m : Int))) (ct : w.cell? ⟨T, m, none⟩ = some (.pointer none)) (ft : w.frozen? ⟨T, m, none⟩ = false) (hGT : G ≠ T) :
    Calls Tryz.prog 216 #[.pointer (some ⟨G, 0, none⟩), .string s, .string val, .int .i64 p, .pointer (some ⟨G, 0, none⟩)] w fun e w' => e = .returned (.tuple #[]) ∧ Hung T m w.heap.size w w' ∧ Node w' w.heap.size val p ⟨#[]⟩ none (.slice none 0 0) := by
  have hx : s.extract 1 s.size = ⟨#[]⟩ := by
    apply ext_list
    rw [h1, extract_none]
  refine (add_root G T m s val p w (fun k => leafW ((tabW w T m).drewN k) w.heap.size val p) hT (by omega) m5 c2 c4 cm ct ft hGT (fun k => ?_)).mono ?_
  · rw [hx]
    exact add_leaf w.heap.size val ⟨#[]⟩ p ⟨G, 0, none⟩ _ (tab_node w T m k hT 0) (tab_node w T m k hT 1) (fun i => tab_free w T m k i)
  · rintro e w' ⟨he, k, rfl⟩
    refine ⟨he, leaf_hung (tab_hung w T m k hT ct) _ (Nat.le_refl _) hT val p, ?_⟩
    have t := tab_node w T m k hT
    refine ⟨?_, ?_, ?_, ?_, ?_⟩
    · rw [leafW, World.cell?_setCell_other _ _ _ _ (ne_off (by decide))]
      exact World.cell?_setCell_same _ _ _ (t 0)
    · rw [leafW]
      exact World.cell?_setCell_same _ _ _ ((World.cell?_setCell_other _ _ _ _ (ne_off (by decide))).trans (t 1))
    · rw [leafW, World.cell?_setCell_other _ _ _ _ (ne_off (by decide)), World.cell?_setCell_other _ _ _ _ (ne_off (by decide))]; exact t 2
    · rw [leafW, World.cell?_setCell_other _ _ _ _ (ne_off (by decide)), World.cell?_setCell_other _ _ _ _ (ne_off (by decide))]; exact t 3
    · rw [leafW, World.cell?_setCell_other _ _ _ _ (ne_off (by decide)), World.cell?_setCell_other _ _ _ _ (ne_off (by decide))]; exact t 4
/-- add of a key of two bytes -/
theorem add_two (G T m : Nat) (s val : ByteArray) (p : Int) (w : World) (h2 : s.size = 2) (hT : T < w.heap.size) (m5 : m < 5) (c2 : w.cell? ⟨G, 2, none⟩ = some (.string ⟨#[]⟩)) (c4 : w.cell? ⟨G, 4, none⟩ = some (.slice (some ⟨T, 0, none⟩) 5 5))
    (cm : w.cell? ⟨G, 6 + (s[0]'(by omega)).toNat, none⟩ = some (.int .u8 (m : Int))) (ct : w.cell? ⟨T, m, none⟩ = some (.pointer none)) (ft : w.frozen? ⟨T, m, none⟩ = false) (hGT : G ≠ T) :
    Calls Tryz.prog 216 #[.pointer (some ⟨G, 0, none⟩), .string s, .string val, .int .i64 p, .pointer (some ⟨G, 0, none⟩)] w fun e w' => e = .returned (.tuple #[]) ∧ Hung T m w.heap.size w w' ∧
      Node w' w.heap.size ⟨#[]⟩ 0 (s.extract 1 s.size) (some ⟨w.heap.size + 1, 0, none⟩) (.slice none 0 0) ∧ Node w' (w.heap.size + 1) val p ⟨#[]⟩ none (.slice none 0 0) ∧ w.heap.size + 1 < w'.heap.size := by
  have hk : (s.extract 1 s.size).toList.isEmpty = false := by
    rw [bytes_list]
    cases e : (s.extract 1 s.size).data.toList with
    | nil =>
      have := congrArg List.length e
      rw [toList_length, ByteArray.size_extract, h2] at this
      exact absurd this (by decide)
    | cons a r => rfl
  refine (add_root G T m s val p w (fun k => leafW (preW ((tabW w T m).drewN k) w.heap.size (s.extract 1 s.size)) (w.heap.size + 1) val p) hT (by omega) m5 c2 c4 cm ct ft hGT (fun k => ?_)).mono ?_
  · have := add_pre w.heap.size (s.extract 1 s.size) val (.pointer none) p ⟨G, 0, none⟩ ((tabW w T m).drewN k) (by rw [z_tab]; omega) hk (tab_node w T m k hT 2) (tab_node w T m k hT 3) (tab_node w T m k hT 4) (fun i => tab_free w T m k i)
    rw [z_tab] at this
    exact this
  · rintro e w' ⟨he, k, rfl⟩
    have h0 := tab_hung w T m k hT ct
    have t := tab_node w T m k hT
    have zk := z_tab w T m k
    generalize (tabW w T m).drewN k = u at h0 t zk
    have ps : ((u.setCell ⟨w.heap.size, 2, none⟩ (.string (s.extract 1 s.size))).setCell ⟨w.heap.size, 3, none⟩ (.pointer (some ⟨u.heap.size, 0, none⟩))).heap.size = u.heap.size := by rw [z_set, z_set]
    have pz : (preW u w.heap.size (s.extract 1 s.size)).heap.size = w.heap.size + 2 := by rw [preW, z_all, ps, zk]
    -- old blocks
    have oc : ∀ c o : Nat, c < w.heap.size → (preW u w.heap.size (s.extract 1 s.size)).cell? ⟨c, o, none⟩ = u.cell? ⟨c, o, none⟩ := fun c o hc => by
      rw [preW, World.cell?_alloc_past _ _ _ (by rw [ps, zk]; exact Nat.lt_succ_of_lt hc), World.cell?_setCell_other _ _ _ _ (ne_blk (by omega)), World.cell?_setCell_other _ _ _ _ (ne_blk (by omega))]
    have h1 : Hung T m w.heap.size w (preW u w.heap.size (s.extract 1 s.size)) := by
      refine ⟨by rw [pz]; omega, ⟨Nat.le_refl _, by rw [pz]; omega⟩, (oc T m hT).trans h0.hit, fun j hj => (oc T j hT).trans (h0.tab j hj), fun c o hc hl => (oc c o hl).trans (h0.cell c o hc hl), fun c o hl => ?_, fun B hB hw => ?_⟩
      · rw [preW, World.frozen?_alloc_past _ _ _ (by rw [ps, zk]; exact Nat.lt_succ_of_lt hl), World.frozen?_setCell, World.frozen?_setCell]; exact h0.fr c o hl
      · exact (((h0.below B hB hw).setCell (by show B ≤ w.heap.size; omega) _).setCell (by show B ≤ w.heap.size; omega) _).alloc (by rw [ps, zk]; omega) _
    -- the first new node
    have n1 : ∀ o : Nat, (preW u w.heap.size (s.extract 1 s.size)).cell? ⟨w.heap.size, o, none⟩ = ((u.setCell ⟨w.heap.size, 2, none⟩ (.string (s.extract 1 s.size))).setCell ⟨w.heap.size, 3, none⟩ (.pointer (some ⟨u.heap.size, 0, none⟩))).cell? ⟨w.heap.size, o, none⟩ := fun o => by
      rw [preW, World.cell?_alloc_past _ _ _ (by rw [ps, zk]; exact Nat.lt_succ_self _)]
    have n2 : ∀ o : Nat, (preW u w.heap.size (s.extract 1 s.size)).cell? ⟨w.heap.size + 1, o, none⟩ = (#[Value.string ⟨#[]⟩, .int .i64 0, .string ⟨#[]⟩, .pointer none, .slice none 0 0] : Array Value)[o]? := fun o => by
      rw [preW, World.cell?_alloc_at _ _ _ _ (by rw [ps, zk])]
    have lf : ∀ o : Nat, (leafW (preW u w.heap.size (s.extract 1 s.size)) (w.heap.size + 1) val p).cell? ⟨w.heap.size, o, none⟩ = (preW u w.heap.size (s.extract 1 s.size)).cell? ⟨w.heap.size, o, none⟩ := fun o => by
      rw [leafW, World.cell?_setCell_other _ _ _ _ (ne_blk (by omega)), World.cell?_setCell_other _ _ _ _ (ne_blk (by omega))]
    refine ⟨he, leaf_hung h1 _ (Nat.le_succ _) hT val p, ⟨?_, ?_, ?_, ?_, ?_⟩, ⟨?_, ?_, ?_, ?_, ?_⟩, ?_⟩
    · rw [lf, n1, World.cell?_setCell_other _ _ _ _ (ne_off (by decide)), World.cell?_setCell_other _ _ _ _ (ne_off (by decide))]; exact t 0
    · rw [lf, n1, World.cell?_setCell_other _ _ _ _ (ne_off (by decide)), World.cell?_setCell_other _ _ _ _ (ne_off (by decide))]; exact t 1
    · rw [lf, n1, World.cell?_setCell_other _ _ _ _ (ne_off (by decide))]; exact World.cell?_setCell_same _ _ _ (t 2)
    · rw [lf, n1, zk]; exact World.cell?_setCell_same _ _ _ ((World.cell?_setCell_other _ _ _ _ (ne_off (by decide))).trans (t 3))
    · rw [lf, n1, World.cell?_setCell_other _ _ _ _ (ne_off (by decide)), World.cell?_setCell_other _ _ _ _ (ne_off (by decide))]; exact t 4
    · rw [leafW, World.cell?_setCell_other _ _ _ _ (ne_off (by decide))]
      exact World.cell?_setCell_same _ _ _ (n2 0)
    · rw [leafW]
      exact World.cell?_setCell_same _ _ _ ((World.cell?_setCell_other _ _ _ _ (ne_off (by decide))).trans (n2 1))
    · rw [leafW, World.cell?_setCell_other _ _ _ _ (ne_off (by decide)), World.cell?_setCell_other _ _ _ _ (ne_off (by decide))]; exact n2 2
    · rw [leafW, World.cell?_setCell_other _ _ _ _ (ne_off (by decide)), World.cell?_setCell_other _ _ _ _ (ne_off (by decide))]; exact n2 3
    · rw [leafW, World.cell?_setCell_other _ _ _ _ (ne_off (by decide)), World.cell?_setCell_other _ _ _ _ (ne_off (by decide))]; exact n2 4
    · rw [leafW, z_set, z_set, pz]; omega
/-- the replacer G with its table T, of which the first k keys are hung in -/
structure TSt (B : Nat) (W0 : World) (G T k : Nat) (w : World) : Prop where
  below : Below B W0 w
  lo : B ≤ G ∧ B ≤ T ∧ G ≠ T ∧ G < w.heap.size ∧ T < w.heap.size ∧ B ≤ w.heap.size
  root : Node w G ⟨#[]⟩ 0 ⟨#[]⟩ none (.slice (some ⟨T, 0, none⟩) 5 5)
  size : w.cell? ⟨G, 5, none⟩ = some (.int .i64 5)
  map : ∀ c : UInt8, w.cell? ⟨G, 6 + c.toNat, none⟩ = some (.int .u8 (mapC c))
  fr : ∀ i : Nat, w.frozen? ⟨T, i, none⟩ = false
  t3 : w.cell? ⟨T, 3, none⟩ = some (.pointer none)
  old : ∀ j, j < 3 → (j < k → ∃ n : Nat, B ≤ n ∧ n < w.heap.size ∧ n ≠ T ∧ w.cell? ⟨T, j, none⟩ = some (.pointer (some ⟨n, 0, none⟩)) ∧ Node w n (valE j) (8 - 2 * j) ⟨#[]⟩ none (.slice none 0 0)) ∧ (k ≤ j → w.cell? ⟨T, j, none⟩ = some (.pointer none))
  t4 : (k ≤ 3 → w.cell? ⟨T, 4, none⟩ = some (.pointer none)) ∧ (3 < k → ∃ n4 n5 : Nat, B ≤ n4 ∧ B ≤ n5 ∧ n4 < w.heap.size ∧ n5 < w.heap.size ∧ w.cell? ⟨T, 4, none⟩ = some (.pointer (some ⟨n4, 0, none⟩)) ∧ Node w n4 ⟨#[]⟩ 0 ⟨#[160]⟩ (some ⟨n5, 0, none⟩) (.slice none 0 0) ∧ Node w n5 (str nbT) 2 ⟨#[]⟩ none (.slice none 0 0))
theorem TSt.one {B G T k : Nat} {W0 w w' : World} (h : TSt B W0 G T k w) (hk : k < 3) (hh : Hung T k w.heap.size w w') (hn : Node w' w.heap.size (valE k) (8 - 2 * k) ⟨#[]⟩ none (.slice none 0 0)) : TSt B W0 G T (k + 1) w' := by
  obtain ⟨l1, l2, l3, l4, l5, l6⟩ := h.lo
  refine ⟨h.below.trans (hh.below B l2 l6), ⟨l1, l2, l3, Nat.lt_trans l4 hh.size, Nat.lt_trans l5 hh.size, Nat.le_trans l6 (Nat.le_of_lt hh.size)⟩, hh.node l3 l4 h.root, (hh.cell G 5 l3 l4).trans h.size, fun c => (hh.cell G _ l3 l4).trans (h.map c), fun i => (hh.fr T i l5).trans (h.fr i), (hh.tab 3 (by omega)).trans h.t3, fun j hj => ⟨fun hjk => ?_, fun hjk => (hh.tab j (by omega)).trans ((h.old j hj).2 (by omega))⟩, fun hk3 => (hh.tab 4 (by omega)).trans (h.t4.1 (by omega)), fun hk3 => absurd hk3 (by omega)⟩
  by_cases e : j = k
  · subst e
    exact ⟨w.heap.size, l6, hh.mine.2, by omega, hh.hit, hn⟩
  · obtain ⟨n, n1, n2, n3, n4, n5⟩ := (h.old j hj).1 (by omega)
    exact ⟨n, n1, Nat.lt_trans n2 hh.size, n3, (hh.tab j e).trans n4, hh.node n3 n2 n5⟩
/-- all four keys are hung in -/
theorem TSt.last {B G T : Nat} {W0 w w' : World} (h : TSt B W0 G T 3 w) (hh : Hung T 4 w.heap.size w w') (h4 : Node w' w.heap.size ⟨#[]⟩ 0 ⟨#[160]⟩ (some ⟨w.heap.size + 1, 0, none⟩) (.slice none 0 0)) (h5 : Node w' (w.heap.size + 1) (str nbT) 2 ⟨#[]⟩ none (.slice none 0 0)) (hz : w.heap.size + 1 < w'.heap.size) : TSt B W0 G T 4 w' := by
  obtain ⟨l1, l2, l3, l4, l5, l6⟩ := h.lo
  refine ⟨h.below.trans (hh.below B l2 l6), ⟨l1, l2, l3, Nat.lt_trans l4 hh.size, Nat.lt_trans l5 hh.size, Nat.le_trans l6 (Nat.le_of_lt hh.size)⟩, hh.node l3 l4 h.root, (hh.cell G 5 l3 l4).trans h.size, fun c => (hh.cell G _ l3 l4).trans (h.map c), fun i => (hh.fr T i l5).trans (h.fr i), (hh.tab 3 (by omega)).trans h.t3, fun j hj => ⟨fun hjk => ?_, fun hjk => absurd hjk (by omega)⟩, fun hk3 => absurd hk3 (by omega), fun _ => ⟨w.heap.size, w.heap.size + 1, l6, Nat.le_succ_of_le l6, hh.mine.2, hz, hh.hit, h4, h5⟩⟩
  obtain ⟨n, n1, n2, n3, n4, n5⟩ := (h.old j hj).1 (by omega)
  exact ⟨n, n1, Nat.lt_trans n2 hh.size, n3, (hh.tab j (by omega)).trans n4, hh.node n3 n2 n5⟩
/-- the trie whose blocks are all at B or above -/
def TrieX (B G : Nat) (w : World) : Prop := ∃ T n0 n1 n2 n4 n5 : Nat, Trie w G T n0 n1 n2 n4 n5 ∧ (B ≤ G ∧ B ≤ T ∧ B ≤ n0 ∧ B ≤ n1 ∧ B ≤ n2 ∧ B ≤ n4 ∧ B ≤ n5) ∧ (G < w.heap.size ∧ T < w.heap.size ∧ n0 < w.heap.size ∧ n1 < w.heap.size ∧ n2 < w.heap.size ∧ n4 < w.heap.size ∧ n5 < w.heap.size)
theorem TSt.trie {B G T : Nat} {W0 w : World} (h : TSt B W0 G T 4 w) : TrieX B G w := by
  obtain ⟨l1, l2, l3, l4, l5, l6⟩ := h.lo
  obtain ⟨n0, a1, a2, a3, a4, a5⟩ := (h.old 0 (by omega)).1 (by omega)
  obtain ⟨n1, b1, b2, b3, b4, b5⟩ := (h.old 1 (by omega)).1 (by omega)
  obtain ⟨n2, c1, c2, c3, c4, c5⟩ := (h.old 2 (by omega)).1 (by omega)
  obtain ⟨n4, n5, d1, d2, d3, d4, d5, d6, d7⟩ := h.t4.2 (by omega)
  exact ⟨T, n0, n1, n2, n4, n5, ⟨h.root, h.size, h.map, a4, b4, c4, h.t3, d5, a5, b5, c5, d6, d7⟩, ⟨l1, l2, a1, b1, c1, d1, d2⟩, ⟨l4, l5, a2, b2, c2, d3, d4⟩⟩
/-- cells below the trie's blocks may be written -/
theorem TrieX.set {B G b o : Nat} {w : World} (h : TrieX B G w) (hb : b < B) (x : Value) : TrieX B G (w.setCell ⟨b, o, none⟩ x) := by
  obtain ⟨T, n0, n1, n2, n4, n5, ht, ⟨l0, l1, l2, l3, l4, l5, l6⟩, hi⟩ := h
  have key : ∀ (c i : Nat), B ≤ c → (w.setCell ⟨b, o, none⟩ x).cell? ⟨c, i, none⟩ = w.cell? ⟨c, i, none⟩ := fun c i hc => World.cell?_setCell_other _ _ _ _ (ne_blk (by omega))
  have kn : ∀ {c val prio pre nx tab}, B ≤ c → Node w c val prio pre nx tab → Node (w.setCell ⟨b, o, none⟩ x) c val prio pre nx tab := by
    intro c val prio pre nx tab hc ⟨a0, a1, a2, a3, a4⟩
    exact ⟨(key _ _ hc).trans a0, (key _ _ hc).trans a1, (key _ _ hc).trans a2, (key _ _ hc).trans a3, (key _ _ hc).trans a4⟩
  refine ⟨T, n0, n1, n2, n4, n5, ⟨kn l0 ht.root, (key _ _ l0).trans ht.size, fun c => (key _ _ l0).trans (ht.map c), (key _ _ l1).trans ht.t0, (key _ _ l1).trans ht.t1, (key _ _ l1).trans ht.t2, (key _ _ l1).trans ht.t3, (key _ _ l1).trans ht.t4, kn l2 ht.k0, kn l3 ht.k1, kn l4 ht.k2, kn l5 ht.k4, kn l6 ht.k5⟩, ⟨l0, l1, l2, l3, l4, l5, l6⟩, ?_⟩
  rw [z_set]; exact hi
theorem TrieX.drew {B G : Nat} {w : World} (h : TrieX B G w) : TrieX B G w.drew := by
  obtain ⟨T, n0, n1, n2, n4, n5, ht, lo, hi⟩ := h
  exact ⟨T, n0, n1, n2, n4, n5, ⟨ht.1, ht.2, ht.3, ht.4, ht.5, ht.6, ht.7, ht.8, ht.9, ht.10, ht.11, ht.12, ht.13⟩, lo, hi⟩
end Go.Proofs.YtgokefodmjhhiaaGreatDoor
