/- More of the first texts of this claim in one: each with its own head. No statement is proved here. -/
import Derived.Test.YtiejmkjpgjbodaaGreatDoorBaseN
import Derived.Laws.OwnMore
import Derived.BigQuiet
import Derived.Deep.QuietTactic
import Derived.BigRegion
import Derived.Deep.RegionLaw
import Derived.IntWalk
namespace Go.Proofs.YtiejmkjpgjbodaaGreatDoor
open Go.RowKit
set_option linter.unusedVariables false
set_option linter.unusedSimpArgs false
set_option maxRecDepth 100000
structure ArV where
  h : NdH
  av : Value
  ks : List Nat
  kv : Value
def ArV.toN (p : ArV) : ArN := (p.h, p.ks)
def arCells (p : ArV) : List Value := [.string (str p.h.name), p.av, .string (str p.h.text), .slice none 0 0, p.kv]
def arVals (l : List ArV) : List Value := l.flatMap arCells
def intVals (l : List Nat) : List Value := l.map fun n : Nat => Value.int .i64 n
theorem arVals_append (a b : List ArV) : arVals (a ++ b) = arVals a ++ arVals b := by unfold arVals; rw [List.flatMap_append]
theorem arVals_at {l : List ArV} {i : Nat} {p : ArV} (h : l[i]? = some p) (j : Nat) (hj : j < 5) : (arVals l)[i * 5 + j]? = (arCells p)[j]? := by
  induction l generalizing i with
  | nil => simp at h
  | cons q r ih =>
    have e : arVals (q :: r) = arCells q ++ arVals r := by unfold arVals; rw [List.flatMap_cons]
    cases i with
    | zero =>
      simp only [List.getElem?_cons_zero, Option.some.injEq] at h
      subst h
      rw [e, Nat.zero_mul, Nat.zero_add, List.getElem?_append_left (by simp [arCells]; omega)]
    | succ i =>
      rw [e, List.getElem?_append_right (by simp [arCells]; omega), show (i + 1) * 5 + j - (arCells q).length = i * 5 + j by simp [arCells]; omega]
      exact ih (by simpa using h)
theorem arVals_set {l : List ArV} {i : Nat} {p p' : ArV} (h : l[i]? = some p) (j : Nat) (u : Value) (hj : j < 5) (he : (arCells p).set j u = arCells p') : (arVals l).set (i * 5 + j) u = arVals (l.set i p') := by
  induction l generalizing i with
  | nil => simp at h
  | cons q r ih =>
    have e : ∀ (q : ArV) r, arVals (q :: r) = arCells q ++ arVals r := fun q r => by unfold arVals; rw [List.flatMap_cons]
    cases i with
    | zero =>
      simp only [List.getElem?_cons_zero, Option.some.injEq] at h
      subst h
      rw [e, Nat.zero_mul, Nat.zero_add, List.set_append_left _ _ (by simp [arCells]; omega), he, List.set_cons_zero, e]
    | succ i =>
      rw [e, List.set_append_right _ _ (by simp [arCells]; omega), show (i + 1) * 5 + j - (arCells q).length = i * 5 + j by simp [arCells]; omega, ih (by simpa using h), List.set_cons_succ, e]
structure AB (B b : Nat) (r o : Value) (l : List ArV) (opn : List Nat) (W0 w : World) : Prop where
  blk : w.heap[b]? = some (.cells #[r, o] 68 (0, 0))
  row : w.ownsRow B 65 5 r l.length (arVals l)
  opn : w.ownsRow B 3 1 o opn.length (intVals opn)
  attrs : ∀ (i : Nat) p, l[i]? = some p → AttrsC (fun g => g < B) w p.av p.h.attrs
  kids : ∀ (i : Nat) p, l[i]? = some p → w.ownsRow B 3 1 p.kv p.ks.length (intVals p.ks)
  apart : ∀ (i j : Nat) p q, i ≠ j → l[i]? = some p → l[j]? = some q → p.kv.ownBlock = none ∨ p.kv.ownBlock ≠ q.kv.ownBlock
  free : ∀ (i : Nat) p, l[i]? = some p → p.kv.ownBlock = none ∨ p.kv.ownBlock ≠ o.ownBlock
  base : B ≤ b
  below : Below B W0 w
  size : B ≤ w.heap.size
theorem ne_symm {a b : Option Nat} (h : a = none ∨ a ≠ b) : b = none ∨ b ≠ a := by
  cases b with
  | none => exact .inl rfl
  | some k => rcases h with h | h
              · exact .inr (by rw [h]; simp)
              · exact .inr (fun e => h e.symm)
theorem hole_block {w : World} {b : Nat} {cs : Array Value} {T : TypeId} (h : w.heap[b]? = some (.cells cs T (0, 0))) (cur : Array Value) (e : TypeId) (he : e ≠ T) : w.heap[b]? ≠ some (.cells cur e (0, 0)) := fun hx => by
  rw [h] at hx
  injection hx with hx
  injection hx with _ hx
  exact he hx.symm
theorem own_hole {w : World} {B : Nat} {e e' : TypeId} {sz n g c : Nat} {xs : List Value} (h : w.ownsRow B e sz (.slice (some ⟨g, 0, none⟩) n c) n xs) (cur : Array Value) (he : e' ≠ e) : w.heap[g]? ≠ some (.cells cur e' (0, 0)) := by
  rcases h.2 with ⟨h0, _⟩ | ⟨g', cap', cur', h0, _, hh, _⟩
  · cases h0
  · injection h0 with h0 _ _
    injection h0 with h0
    injection h0 with h0
    subst h0
    exact hole_block hh cur e' he
theorem AB.kept {B b : Nat} {r o : Value} {l : List ArV} {opn : List Nat} {W0 w w' : World} (h : AB B b r o l opn W0 w) (hb : Below w.heap.size w w') : AB B b r o l opn W0 w' := by
  have hg := grown_none hb
  have hn : ∀ v : Value, v.ownBlock = none ∨ v.ownBlock ≠ none := fun v => by cases v.ownBlock <;> simp
  exact ⟨(hb.block b (lt_of_block h.blk)).trans h.blk, h.row.kept hg (hn _), h.opn.kept hg (hn _), fun i p hp => (h.attrs i p hp).mono (fun g hgB => hb.block g (Nat.lt_of_lt_of_le hgB h.size)) (fun _ x => x), fun i p hp => (h.kids i p hp).kept hg (hn _), h.apart, h.free, h.base, h.below.trans (hb.mono h.size), Nat.le_trans h.size hb.size⟩
theorem AB.c0 {B b : Nat} {r o : Value} {l : List ArV} {opn : List Nat} {W0 w : World} (h : AB B b r o l opn W0 w) : w.cell? ⟨b, 0, none⟩ = some r := by rw [Lib.cell_of_heap h.blk]; rfl
theorem AB.c1 {B b : Nat} {r o : Value} {l : List ArV} {opn : List Nat} {W0 w : World} (h : AB B b r o l opn W0 w) : w.cell? ⟨b, 1, none⟩ = some o := by rw [Lib.cell_of_heap h.blk]; rfl
theorem AB.f {B b : Nat} {r o : Value} {l : List ArV} {opn : List Nat} {W0 w : World} (h : AB B b r o l opn W0 w) (i : Nat) : w.frozen? ⟨b, i, none⟩ = false := Lib.frozen_of_heap h.blk i
theorem own_form {w : World} {B : Nat} {e : TypeId} {sz n : Nat} {v : Value} {xs : List Value} (h : w.ownsRow B e sz v n xs) (hn : 0 < n) : ∃ g c, v = .slice (some ⟨g, 0, none⟩) n c ∧ n ≤ c ∧ c ≤ maxLen ∧ B ≤ g ∧ g < w.heap.size := by
  rcases h.2 with ⟨_, h0⟩ | ⟨g, c, cur, hv, hg, hh, h1, h2, _⟩
  · omega
  · exact ⟨g, c, hv, h1, h2, hg, lt_of_block hh⟩
theorem own_slice {w : World} {B : Nat} {e : TypeId} {sz n : Nat} {v : Value} {xs : List Value} (h : w.ownsRow B e sz v n xs) : ∃ A c, v = .slice A n c ∧ n ≤ c ∧ c ≤ maxLen := by
  rcases h.2 with ⟨hv, h0⟩ | ⟨g, c, cur, hv, hg, hh, h1, h2, _⟩
  · exact ⟨none, 0, by rw [hv, h0], by omega, Nat.zero_le _⟩
  · exact ⟨_, c, hv, h1, h2⟩
theorem AB.after {B b : Nat} {r o : Value} {l : List ArV} {opn : List Nat} {W0 w w2 : World} (h : AB B b r o l opn W0 w) {B' : Nat} {e : TypeId} {sz n : Nat} {v : Value} {xs : List Value} (hv : w.ownsRow B' e sz v n xs) (he : e ≠ 68) (hg : w.grownBy w2 v.ownBlock) :
    w2.heap[b]? = some (.cells #[r, o] 68 (0, 0)) ∧ w2.cell? ⟨b, 0, none⟩ = some r ∧ w2.cell? ⟨b, 1, none⟩ = some o ∧ ∀ i, w2.frozen? ⟨b, i, none⟩ = false := by
  have hb2 : w2.heap[b]? = some (.cells #[r, o] 68 (0, 0)) := (hg.block b (lt_of_block h.blk) (fun e2 => (ownsRow_other hv (r := b) (fun cur => hole_block h.blk cur _ he)) e2.symm)).trans h.blk
  exact ⟨hb2, by rw [Lib.cell_of_heap hb2]; rfl, by rw [Lib.cell_of_heap hb2]; rfl, fun i => Lib.frozen_of_heap hb2 i⟩
theorem AB.node {B b g c n : Nat} {o : Value} {l : List ArV} {opn : List Nat} {W0 w : World} (h : AB B b (.slice (some ⟨g, 0, none⟩) n c) o l opn W0 w) {i : Nat} {p : ArV} (hp : l[i]? = some p) :
    w.cell? ⟨g, i * 5, none⟩ = some (.string (str p.h.name)) ∧ w.cell? ⟨g, i * 5 + 1, none⟩ = some p.av ∧ w.cell? ⟨g, i * 5 + 2, none⟩ = some (.string (str p.h.text)) ∧ w.cell? ⟨g, i * 5 + 3, none⟩ = some (.slice none 0 0) ∧ w.cell? ⟨g, i * 5 + 4, none⟩ = some p.kv ∧ (∀ k, w.frozen? ⟨g, k, none⟩ = false) := by
  have hi : i < l.length := (List.getElem?_eq_some_iff.1 hp).1
  have hr := h.row
  obtain ⟨A, c2, hv, _⟩ := own_slice hr
  injection hv with _ hv _
  subst hv
  have hc : ∀ j, j < 5 → w.cell? ⟨g, i * 5 + j, none⟩ = (arCells p)[j]? := fun j hj => by
    rw [hr.cellAt _ (by omega), arVals_at hp j hj]
  exact ⟨hc 0 (by decide), hc 1 (by decide), hc 2 (by decide), hc 3 (by decide), hc 4 (by decide), fun k => hr.frozenAt k⟩
theorem own_int {w : World} {B g n c : Nat} {l : List Nat} (h : w.ownsRow B 3 1 (.slice (some ⟨g, 0, none⟩) n c) n (intVals l)) {i k : Nat} (hi : l[i]? = some k) (hn : n = l.length) : w.cell? ⟨g, i, none⟩ = some (.int .i64 k) := by
  have hlt : i < l.length := (List.getElem?_eq_some_iff.1 hi).1
  rw [h.cellAt _ (by omega)]
  unfold intVals
  rw [List.getElem?_map, hi]; rfl
theorem AB.rowHole {B b g c n : Nat} {o : Value} {l : List ArV} {opn : List Nat} {W0 w : World} (h : AB B b (.slice (some ⟨g, 0, none⟩) n c) o l opn W0 w) (cur : Array Value) {e : TypeId} (he : e ≠ 65) : w.heap[g]? ≠ some (.cells cur e (0, 0)) := by
  have hr := h.row
  obtain ⟨A, c2, hv, _⟩ := own_slice hr
  injection hv with _ hv _
  subst hv
  exact own_hole hr cur he
theorem AB.afterKids {B b g c n : Nat} {o : Value} {l : List ArV} {opn : List Nat} {W0 w w2 : World} (h : AB B b (.slice (some ⟨g, 0, none⟩) n c) o l opn W0 w) {B' : Nat} {m : Nat} {v : Value} {xs : List Value} (hv : w.ownsRow B' 3 1 v m xs) (hg : w.grownBy w2 v.ownBlock) {i : Nat} {p : ArV} (hp : l[i]? = some p) :
    w2.cell? ⟨g, i * 5 + 4, none⟩ = some p.kv ∧ ∀ k, w2.frozen? ⟨g, k, none⟩ = false := by
  have hi : i < l.length := (List.getElem?_eq_some_iff.1 hp).1
  have hr := h.row
  obtain ⟨A, c2, hs, _⟩ := own_slice hr
  injection hs with _ hs _
  subst hs
  have hr2 := hr.kept hg (ownsRow_diff (by decide) hr hv)
  exact ⟨by rw [hr2.cellAt _ (by omega), arVals_at hp 4 (by decide)]; rfl, fun k => hr2.frozenAt k⟩
theorem AB.pushNode {B b : Nat} {r r' o : Value} {l : List ArV} {opn : List Nat} {W0 w w2 : World} {hd : NdH} {av : Value} (h : AB B b r o l opn W0 w)
    (ho : w2.ownsRow B 65 5 r' (l.length + 1) (arVals (l ++ [⟨hd, av, [], .slice none 0 0⟩]))) (hg : w.grownBy w2 r.ownBlock)
    (ha : AttrsC (fun g => g < B) w av hd.attrs) : AB B b r' o (l ++ [⟨hd, av, [], .slice none 0 0⟩]) opn W0 (w2.setCell ⟨b, 0, none⟩ r') := by
  have hb2 : w2.heap[b]? = some (.cells #[r, o] 68 (0, 0)) := (hg.block b (lt_of_block h.blk) (fun e => (ownsRow_other h.row (r := b) (fun cur => hole_block h.blk cur _ (by decide))) e.symm)).trans h.blk
  have hg3 := grown_put w2 b 0 r'
  have keep : ∀ {e : TypeId} {sz m : Nat} {v : Value} {xs : List Value}, e ≠ 65 → e ≠ 68 → w.ownsRow B e sz v m xs → (w2.setCell ⟨b, 0, none⟩ r').ownsRow B e sz v m xs := fun {e sz m v xs} h1 h2 hx =>
    own_type (hx.kept hg (ownsRow_diff h1 hx h.row)) hg3 (fun cur => hole_block hb2 cur e h2)
  have hB : Below B w (w2.setCell ⟨b, 0, none⟩ r') := ((Below.refl B w).grown hg h.size (fun k e => (h.row.lt k e).1)).grown hg3 (Nat.le_trans h.size hg.size) (fun k e => by injection e with e; rw [← e]; exact h.base)
  have hk : ∀ g, g < B → (w2.setCell ⟨b, 0, none⟩ r').heap[g]? = w.heap[g]? := fun g hgB => hB.block g hgB
  have split : ∀ (i : Nat) p, (l ++ [⟨hd, av, [], .slice none 0 0⟩])[i]? = some p → l[i]? = some p ∨ p = ⟨hd, av, [], .slice none 0 0⟩ := fun i p hp => by
    by_cases hlt : i < l.length
    · rw [List.getElem?_append_left hlt] at hp; exact .inl hp
    · rw [List.getElem?_append_right (by omega)] at hp
      have := List.mem_of_getElem? hp
      exact .inr (List.mem_singleton.1 this)
  refine ⟨by rw [heap_put0 hb2]; rfl, ?_, keep (by decide) (by decide) h.opn, fun i p hp => ?_, fun i p hp => ?_, fun i j p q hij hp hq => ?_, fun i p hp => ?_, h.base, h.below.trans hB, Nat.le_trans h.size (Nat.le_trans hg.size hg3.size)⟩
  · rw [List.length_append]
    exact own_type ho hg3 (fun cur => hole_block hb2 cur _ (by decide))
  · rcases split i p hp with hp | rfl
    · exact (h.attrs i p hp).mono hk (fun _ x => x)
    · exact ha.mono hk (fun _ x => x)
  · rcases split i p hp with hp | rfl
    · exact keep (by decide) (by decide) (h.kids i p hp)
    · exact World.ownsRow_nil _ B _ 1
  · rcases split i p hp with hp | rfl
    · rcases split j q hq with hq | rfl
      · exact h.apart i j p q hij hp hq
      · exact ne_symm (.inl rfl)
    · exact .inl rfl
  · rcases split i p hp with hp | rfl
    · exact h.free i p hp
    · exact .inl rfl
theorem AB.setNode {B b g c n : Nat} {o : Value} {l : List ArV} {opn : List Nat} {W0 w : World} (h : AB B b (.slice (some ⟨g, 0, none⟩) n c) o l opn W0 w) {i : Nat} {p p' : ArV} (hp : l[i]? = some p) (j : Nat) (u : Value) (hj : j < 5) (he : (arCells p).set j u = arCells p')
    (ha : p'.av = p.av ∧ p'.h.attrs = p.h.attrs) (hk : w.ownsRow B 3 1 p'.kv p'.ks.length (intVals p'.ks)) (hap : ∀ (j : Nat) q, i ≠ j → l[j]? = some q → p'.kv.ownBlock = none ∨ p'.kv.ownBlock ≠ q.kv.ownBlock) (hfr : p'.kv.ownBlock = none ∨ p'.kv.ownBlock ≠ o.ownBlock) :
    AB B b (.slice (some ⟨g, 0, none⟩) n c) o (l.set i p') opn W0 (w.setCell ⟨g, i * 5 + j, none⟩ u) := by
  have hi : i < l.length := (List.getElem?_eq_some_iff.1 hp).1
  have hr := h.row
  obtain ⟨A, c2, hv, _⟩ := own_slice hr
  injection hv with _ hv _
  subst hv
  obtain ⟨r1, hg3⟩ := hr.stored (i * 5 + j) u
  have hBg : B ≤ g := (hr.lt g rfl).1
  have keep : ∀ {e : TypeId} {sz m : Nat} {v : Value} {xs : List Value}, e ≠ 65 → w.ownsRow B e sz v m xs → (w.setCell ⟨g, i * 5 + j, none⟩ u).ownsRow B e sz v m xs := fun {e sz m v xs} h1 hx =>
    own_type hx hg3 (fun cur => own_hole hr cur h1)
  have hB : Below B w (w.setCell ⟨g, i * 5 + j, none⟩ u) := (Below.refl B w).grown hg3 h.size (fun k e => by injection e with e; rw [← e]; exact hBg)
  have hk2 : ∀ g', g' < B → (w.setCell ⟨g, i * 5 + j, none⟩ u).heap[g']? = w.heap[g']? := fun g' hgB => hB.block g' hgB
  have split : ∀ (k : Nat) q, (l.set i p')[k]? = some q → (k = i ∧ q = p') ∨ (k ≠ i ∧ l[k]? = some q) := fun k q hq => by
    by_cases e : k = i
    · subst e
      rw [List.getElem?_set_self hi] at hq
      injection hq with hq
      exact .inl ⟨rfl, hq.symm⟩
    · rw [List.getElem?_set_ne (fun e2 => e e2.symm)] at hq
      exact .inr ⟨e, hq⟩
  refine ⟨?_, ?_, keep (by decide) h.opn, fun k q hq => ?_, fun k q hq => ?_, fun k m q s hkm hq hs => ?_, fun k q hq => ?_, h.base, h.below.trans hB, Nat.le_trans h.size hg3.size⟩
  · rw [hg3.block b (lt_of_block h.blk) (fun e => by
      injection e with e
      have := own_hole hr #[.slice (some ⟨g, 0, none⟩) l.length c, o] (e' := 68) (by decide)
      exact this (by rw [show w.heap[g]? = w.heap[b]? by rw [e]]; exact h.blk))]
    exact h.blk
  · rw [List.length_set, ← arVals_set hp j u hj he]
    exact r1
  · rcases split k q hq with ⟨_, rfl⟩ | ⟨_, hq⟩
    · rw [ha.1, ha.2]; exact (h.attrs i p hp).mono hk2 (fun _ x => x)
    · exact (h.attrs k q hq).mono hk2 (fun _ x => x)
  · rcases split k q hq with ⟨_, rfl⟩ | ⟨_, hq⟩
    · exact keep (by decide) hk
    · exact keep (by decide) (h.kids k q hq)
  · rcases split k q hq with ⟨e1, rfl⟩ | ⟨e1, hq⟩
    · rcases split m s hs with ⟨e2, rfl⟩ | ⟨e2, hs⟩
      · exact absurd (e1.trans e2.symm) hkm
      · exact hap m s (fun e => e2 e.symm) hs
    · rcases split m s hs with ⟨e2, e3⟩ | ⟨e2, hs⟩
      · rw [e3]; exact ne_symm (hap k q (fun e => e1 e.symm) hq)
      · exact h.apart k m q s hkm hq hs
  · rcases split k q hq with ⟨_, rfl⟩ | ⟨_, hq⟩
    · exact hfr
    · exact h.free k q hq
theorem AB.pushKid {B b g c n : Nat} {o : Value} {l : List ArV} {opn : List Nat} {W0 w w2 : World} {i k : Nat} {p : ArV} {kv' : Value} (h : AB B b (.slice (some ⟨g, 0, none⟩) n c) o l opn W0 w) (hp : l[i]? = some p) (hg : w.grownBy w2 p.kv.ownBlock)
    (ho : w2.ownsRow B 3 1 kv' (p.ks.length + 1) (intVals (p.ks ++ [k]))) (hor : kv'.ownBlock = p.kv.ownBlock ∨ kv'.ownBlock = some w.heap.size) :
    AB B b (.slice (some ⟨g, 0, none⟩) n c) o (l.set i { p with kv := kv', ks := p.ks ++ [k] }) opn W0 (w2.setCell ⟨g, i * 5 + 4, none⟩ kv') := by
  have hi : i < l.length := (List.getElem?_eq_some_iff.1 hp).1
  have hkp := h.kids i p hp
  have hr := h.row
  obtain ⟨A, c2, hv, _⟩ := own_slice hr
  injection hv with _ hv _
  subst hv
  have keep : ∀ {e : TypeId} {sz m : Nat} {v : Value} {xs : List Value}, e ≠ 3 → w.ownsRow B e sz v m xs → w2.ownsRow B e sz v m xs := fun {e sz m v xs} h1 hx => hx.kept hg (ownsRow_diff h1 hx hkp)
  have hr2 := keep (by decide) hr
  have hb2 : w2.heap[b]? = some (.cells #[.slice (some ⟨g, 0, none⟩) l.length c, o] 68 (0, 0)) := (hg.block b (lt_of_block h.blk) (fun e => (ownsRow_other hkp (r := b) (fun cur => hole_block h.blk cur _ (by decide))) e.symm)).trans h.blk
  obtain ⟨r1, hg3⟩ := hr2.stored (i * 5 + 4) kv'
  have hBg : B ≤ g := (hr.lt g rfl).1
  have keep3 : ∀ {e : TypeId} {sz m : Nat} {v : Value} {xs : List Value}, e ≠ 65 → w2.ownsRow B e sz v m xs → (w2.setCell ⟨g, i * 5 + 4, none⟩ kv').ownsRow B e sz v m xs := fun {e sz m v xs} h1 hx =>
    own_type hx hg3 (fun cur => own_hole hr2 cur h1)
  have hB2 : Below B w w2 := (Below.refl B w).grown hg h.size (fun k e => (hkp.lt k e).1)
  have hB : Below B w (w2.setCell ⟨g, i * 5 + 4, none⟩ kv') := hB2.grown hg3 (Nat.le_trans h.size hg.size) (fun k e => by injection e with e; rw [← e]; exact hBg)
  have hk2 : ∀ g', g' < B → (w2.setCell ⟨g, i * 5 + 4, none⟩ kv').heap[g']? = w.heap[g']? := fun g' hgB => hB.block g' hgB
  have split : ∀ (m : Nat) q, (l.set i { p with kv := kv', ks := p.ks ++ [k] })[m]? = some q → (m = i ∧ q = { p with kv := kv', ks := p.ks ++ [k] }) ∨ (m ≠ i ∧ l[m]? = some q) := fun m q hq => by
    by_cases e : m = i
    · subst e
      rw [List.getElem?_set_self hi] at hq
      injection hq with hq
      exact .inl ⟨rfl, hq.symm⟩
    · rw [List.getElem?_set_ne (fun e2 => e e2.symm)] at hq
      exact .inr ⟨e, hq⟩
  have hnew : ∀ (v : Value), (p.kv.ownBlock = none ∨ p.kv.ownBlock ≠ v.ownBlock) → (∀ k, v.ownBlock = some k → k < w.heap.size) → kv'.ownBlock = none ∨ kv'.ownBlock ≠ v.ownBlock := fun v h1 h2 => by
    rcases hor with e | e
    · rw [e]; exact h1
    · rw [e]; exact .inr (fun e2 => Nat.lt_irrefl _ (h2 _ e2.symm))
  refine ⟨?_, ?_, keep3 (by decide) (h.opn.kept hg (ne_symm (h.free i p hp))), fun m q hq => ?_, fun m q hq => ?_, fun m s q t hms hq ht => ?_, fun m q hq => ?_, h.base, h.below.trans hB, Nat.le_trans h.size (Nat.le_trans hg.size hg3.size)⟩
  · rw [hg3.block b (lt_of_block hb2) (fun e => by
      injection e with e
      have := own_hole hr2 #[.slice (some ⟨g, 0, none⟩) l.length c, o] (e' := 68) (by decide)
      exact this (by rw [show w2.heap[g]? = w2.heap[b]? by rw [e]]; exact hb2))]
    exact hb2
  · rw [List.length_set, ← arVals_set (p' := { p with kv := kv', ks := p.ks ++ [k] }) hp 4 kv' (by decide) rfl]
    exact r1
  · rcases split m q hq with ⟨_, rfl⟩ | ⟨_, hq⟩
    · exact (h.attrs i p hp).mono hk2 (fun _ x => x)
    · exact (h.attrs m q hq).mono hk2 (fun _ x => x)
  · rcases split m q hq with ⟨_, rfl⟩ | ⟨hne, hq⟩
    · exact keep3 (by decide) (by rw [List.length_append]; exact ho)
    · exact keep3 (by decide) ((h.kids m q hq).kept hg (h.apart m i q p hne hq hp))
  · rcases split m q hq with ⟨e1, rfl⟩ | ⟨e1, hq⟩
    · rcases split s t ht with ⟨e2, rfl⟩ | ⟨e2, ht⟩
      · exact absurd (e1.trans e2.symm) hms
      · exact hnew t.kv (h.apart i s p t (fun e => e2 e.symm) hp ht) (fun k e => ((h.kids s t ht).lt k e).2)
    · rcases split s t ht with ⟨e2, rfl⟩ | ⟨e2, ht⟩
      · exact ne_symm (hnew q.kv (h.apart i m p q (fun e => e1 e.symm) hp hq) (fun k e => ((h.kids m q hq).lt k e).2))
      · exact h.apart m s q t hms hq ht
  · rcases split m q hq with ⟨_, rfl⟩ | ⟨_, hq⟩
    · exact hnew o (h.free i p hp) (fun k e => (h.opn.lt k e).2)
    · exact h.free m q hq
theorem AB.setOpen {B b : Nat} {r o o' : Value} {l : List ArV} {opn opn' : List Nat} {W0 w w2 : World} (h : AB B b r o l opn W0 w) (hg : w.grownBy w2 o.ownBlock)
    (ho : w2.ownsRow B 3 1 o' opn'.length (intVals opn')) (hor : o'.ownBlock = o.ownBlock ∨ o'.ownBlock = some w.heap.size) : AB B b r o' l opn' W0 (w2.setCell ⟨b, 1, none⟩ o') := by
  have hb2 : w2.heap[b]? = some (.cells #[r, o] 68 (0, 0)) := (hg.block b (lt_of_block h.blk) (fun e => (ownsRow_other h.opn (r := b) (fun cur => hole_block h.blk cur _ (by decide))) e.symm)).trans h.blk
  have hg3 := grown_put w2 b 1 o'
  have keep3 : ∀ {e : TypeId} {sz m : Nat} {v : Value} {xs : List Value}, e ≠ 68 → w2.ownsRow B e sz v m xs → (w2.setCell ⟨b, 1, none⟩ o').ownsRow B e sz v m xs := fun {e sz m v xs} h2 hx =>
    own_type hx hg3 (fun cur => hole_block hb2 cur e h2)
  have hB : Below B w (w2.setCell ⟨b, 1, none⟩ o') := ((Below.refl B w).grown hg h.size (fun k e => (h.opn.lt k e).1)).grown hg3 (Nat.le_trans h.size hg.size) (fun k e => by injection e with e; rw [← e]; exact h.base)
  have hk : ∀ g, g < B → (w2.setCell ⟨b, 1, none⟩ o').heap[g]? = w.heap[g]? := fun g hgB => hB.block g hgB
  refine ⟨by rw [heap_put0 hb2]; rfl, keep3 (by decide) (h.row.kept hg (ownsRow_diff (by decide) h.row h.opn)), keep3 (by decide) ho, fun i p hp => (h.attrs i p hp).mono hk (fun _ x => x), fun i p hp => keep3 (by decide) ((h.kids i p hp).kept hg (h.free i p hp)), h.apart, fun i p hp => ?_, h.base, h.below.trans hB, Nat.le_trans h.size (Nat.le_trans hg.size hg3.size)⟩
  rcases hor with e | e
  · rw [e]; exact h.free i p hp
  · rw [e]
    cases hv : p.kv.ownBlock with
    | none => exact .inl rfl
    | some k => exact .inr (fun e2 => by
        injection e2 with e2
        have := ((h.kids i p hp).lt k hv).2
        omega)
theorem own_take {w : World} {B : Nat} {g n c m : Nat} {l : List Nat} (h : w.ownsRow B 3 1 (.slice (some ⟨g, 0, none⟩) n c) n (intVals l)) (hn : n = l.length) (hm : m ≤ n) : w.ownsRow B 3 1 (.slice (some ⟨g, 0, none⟩) (l.take m).length c) (l.take m).length (intVals (l.take m)) := by
  subst hn
  have hl : (l.take m).length = m := by rw [List.length_take]; omega
  rw [hl]
  rcases h.2 with ⟨h0, _⟩ | ⟨g', c', cur, h0, hg, hh, h1, h2, h3, h4⟩
  · cases h0
  · injection h0 with e1 e2 e3
    injection e1 with e1
    injection e1 with e1
    subst e1 e3
    refine ⟨by unfold intVals; rw [List.length_map, hl, Nat.mul_one], .inr ⟨g, c, cur, rfl, hg, hh, by omega, h2, h3, ?_⟩⟩
    have e5 := congrArg (List.take (m * 1)) h4
    rw [List.take_take, Nat.min_eq_left (by omega)] at e5
    rw [e5]
    unfold intVals
    rw [List.map_take, Nat.mul_one]
def TokS (w w' : World) : Prop := ∀ (g : Nat) (cur : Array Value), w.heap[g]? = some (Obj.cells cur 51 (0, 0)) → w'.heap[g]? = w.heap[g]?
theorem TokS.refl (w : World) : TokS w w := fun _ _ _ => rfl
theorem TokS.trans {a b c : World} (h : TokS a b) (k : TokS b c) : TokS a c := fun g cur hg => (k g cur ((h g cur hg).trans hg)).trans (h g cur hg)
theorem TokS.below {w w' : World} (h : Below w.heap.size w w') : TokS w w' := fun g cur hg => h.block g (lt_of_block hg)
theorem TokS.own {w w' : World} {B : Nat} {e : TypeId} {sz n : Nat} {v : Value} {xs : List Value} (ho : w.ownsRow B e sz v n xs) (hg : w.grownBy w' v.ownBlock) (he : e ≠ 51) : TokS w w' := fun g cur h =>
  hg.block g (lt_of_block h) (fun e2 => ownsRow_other ho (r := g) (fun cur' h2 => hole_block h cur' e he h2) e2.symm)
theorem TokS.store {w w2 : World} {b i : Nat} {u : Value} (h : TokS w w2) (hne : ∀ cur, w.heap[b]? ≠ some (Obj.cells cur 51 (0, 0))) : TokS w (w2.setCell ⟨b, i, none⟩ u) := fun g cur hg =>
  (Below.heap_setCell _ _ _ g (fun e => hne cur (by rw [← show g = b from e]; exact hg))).trans (h g cur hg)
def arL (l : List ArV) : List ArN := l.map ArV.toN
theorem arL_at {l : List ArV} {i : Nat} {hd : NdH} {ks : List Nat} (h : (arL l)[i]? = some (hd, ks)) : ∃ p, l[i]? = some p ∧ p.h = hd ∧ p.ks = ks := by
  unfold arL at h
  rw [List.getElem?_map] at h
  obtain ⟨p, hp, e⟩ := Option.map_eq_some_iff.1 h
  unfold ArV.toN at e
  injection e with e1 e2
  exact ⟨p, hp, e1, e2⟩
theorem arL_put {l : List ArV} {a : Nat} {p : ArV} {hd : NdH} {av kv : Value} (hp : l[a]? = some p) : arL ((l ++ [(⟨hd, av, [], .slice none 0 0⟩ : ArV)]).set a { p with kv := kv, ks := p.ks ++ [l.length] }) = arPut (arL l) a hd := by
  have hal : a < l.length := (List.getElem?_eq_some_iff.1 hp).1
  apply List.ext_getElem?
  intro i
  unfold arPut arL
  rw [List.getElem?_map, List.getElem?_modify]
  by_cases hi : a = i
  · subst hi
    rw [List.getElem?_set_self (by rw [List.length_append]; omega), List.getElem?_append_left (by rw [List.length_map]; exact hal), List.getElem?_map, hp]
    simp [ArV.toN]
  · rw [List.getElem?_set_ne hi, ← List.getElem?_map, List.map_append]
    simp [hi, ArV.toN]
theorem arL_len (l : List ArV) : (arL l).length = l.length := by unfold arL; rw [List.length_map]
end Go.Proofs.YtiejmkjpgjbodaaGreatDoor

namespace Go.Proofs.YtiejmkjpgjbodaaGreatDoor
open Go.RowKit
set_option linter.unusedVariables false
set_option linter.unusedSimpArgs false
set_option maxRecDepth 100000
theorem info_arnode : (Tryz.prog.info? 65).map (fun i => (i.zero, i.size, i.bytes)) = some (some (.agg #[.string ByteArray.empty, .slice none 0 0, .string ByteArray.empty, .slice none 0 0, .slice none 0 0]), 5, 104) := by kernel_rfl
theorem info_arint : (Tryz.prog.info? 3).map (fun i => (i.zero, i.size, i.bytes)) = some (some (.int .i64 0), 1, 8) := by kernel_rfl
theorem intVals_append (a b : List Nat) : intVals (a ++ b) = intVals a ++ intVals b := by unfold intVals; rw [List.map_append]
section
variable {ops : Array Oper} {o : Oper} {a : Act} {Q : Exit → Act → World → Prop}
theorem step_arNode {w : World} {K : Act → World → Prop} {E : Prop} (hgd : o.guard = none) (s x : Operand)
    (ho : o.op = .call { callee := .builtin .append, args := #[s, x], argTypes := #[66, 66] })
    (B : Nat) (v : Value) (l : List ArV) (hs : a.eval s = v) (hb : w.ownsRow B 65 5 v l.length (arVals l)) (hB : B ≤ w.heap.size)
    (ad : Addr) (hx : a.eval x = .slice (some ad) 1 1) (p : ArV) (h0 : w.cell? (ad.add 0) = some (.string (str p.h.name))) (h1 : w.cell? (ad.add 1) = some p.av) (h2 : w.cell? (ad.add 2) = some (.string (str p.h.text))) (h3 : w.cell? (ad.add 3) = some (.slice none 0 0)) (h4 : w.cell? (ad.add 4) = some p.kv)
    (ho1 : p.av.oneCell' = true) (ho2 : p.kv.oneCell' = true) (hlen : l.length + 1 ≤ 1000000000)
    (h : ∀ v' w', w'.ownsRow B 65 5 v' (l.length + 1) (arVals (l ++ [p])) → w.grownBy w' v.ownBlock → (v'.ownBlock = v.ownBlock ∨ v'.ownBlock = some w.heap.size) → K (a.put o.dst v') w') :
    if Region.wanted o (yielded ops a.tmps) = true then Oper.wp Tryz.prog o a w K Q else E := by
  have hw : Region.wanted o (yielded ops a.tmps) = true := by simp [Region.wanted, hgd]
  rw [if_pos hw]
  obtain ⟨i0, hi, hz0, hz1, hz2⟩ := info_parts info_arnode
  refine wp_append_own2 _ s x 66 ho B 65 i0 _ 5 104 Tryz.underlying66 hi hz0 hz1 hz2 rfl (by decide) v l.length (arVals l) hs hb ad 1 1 (arVals [p]) hx rfl ?_ ?_ (by unfold maxLen; omega) (by omega) hB ?_
  · intro j u hj
    match j, hj with
    | 0, hj => simp [arVals, arCells] at hj; subst hj; exact h0
    | 1, hj => simp [arVals, arCells] at hj; subst hj; exact h1
    | 2, hj => simp [arVals, arCells] at hj; subst hj; exact h2
    | 3, hj => simp [arVals, arCells] at hj; subst hj; exact h3
    | 4, hj => simp [arVals, arCells] at hj; subst hj; exact h4
    | (j + 5), hj => simp [arVals, arCells] at hj
  · intro u hu
    simp [arVals, arCells] at hu
    rcases hu with rfl | rfl | rfl | rfl | rfl
    · rfl
    · exact ho1
    · rfl
    · rfl
    · exact ho2
  · intro v' w' ho' hg hor
    exact h v' w' (by rw [arVals_append]; exact ho') hg hor
theorem step_arInt {w : World} {K : Act → World → Prop} {E : Prop} (hgd : o.guard = none) (s x : Operand)
    (ho : o.op = .call { callee := .builtin .append, args := #[s, x], argTypes := #[63, 63] })
    (B : Nat) (v : Value) (l : List Nat) (hs : a.eval s = v) (hb : w.ownsRow B 3 1 v l.length (intVals l)) (hB : B ≤ w.heap.size)
    (ad : Addr) (hx : a.eval x = .slice (some ad) 1 1) (k : Nat) (hc : w.cell? ad = some (.int .i64 k)) (hlen : l.length + 1 ≤ 1000000000)
    (h : ∀ v' w', w'.ownsRow B 3 1 v' (l.length + 1) (intVals (l ++ [k])) → w.grownBy w' v.ownBlock → (v'.ownBlock = v.ownBlock ∨ v'.ownBlock = some w.heap.size) → K (a.put o.dst v') w') :
    if Region.wanted o (yielded ops a.tmps) = true then Oper.wp Tryz.prog o a w K Q else E := by
  have hw : Region.wanted o (yielded ops a.tmps) = true := by simp [Region.wanted, hgd]
  rw [if_pos hw]
  obtain ⟨i0, hi, hz0, hz1, hz2⟩ := info_parts info_arint
  refine wp_append_own2 _ s x 63 ho B 3 i0 _ 1 8 Tryz.underlying63 hi hz0 hz1 hz2 rfl (by decide) v l.length (intVals l) hs hb ad 1 1 [.int .i64 k] hx rfl ?_ ?_ (by unfold maxLen; omega) (by omega) hB ?_
  · intro j u hj
    match j, hj with
    | 0, hj => simp at hj; subst hj; rw [Addr.add_zero']; exact hc
    | (j + 1), hj => simp at hj
  · intro u hu
    simp at hu; subst hu; rfl
  · intro v' w' ho' hg hor
    exact h v' w' (by rw [intVals_append]; exact ho') hg hor
theorem wpList_arInt {w : World} {rest : List Oper} (hgd : o.guard = none) (s x : Operand)
    (ho : o.op = .call { callee := .builtin .append, args := #[s, x], argTypes := #[63, 63] })
    (B : Nat) (v : Value) (l : List Nat) (hs : a.eval s = v) (hb : w.ownsRow B 3 1 v l.length (intVals l)) (hB : B ≤ w.heap.size)
    (ad : Addr) (hx : a.eval x = .slice (some ad) 1 1) (k : Nat) (hc : w.cell? ad = some (.int .i64 k)) (hlen : l.length + 1 ≤ 1000000000)
    (h : ∀ v' w', w'.ownsRow B 3 1 v' (l.length + 1) (intVals (l ++ [k])) → w.grownBy w' v.ownBlock → (v'.ownBlock = v.ownBlock ∨ v'.ownBlock = some w.heap.size) → wpList Tryz.prog ops Q rest (a.put o.dst v') w') : wpList Tryz.prog ops Q (o :: rest) a w := by
  obtain ⟨i0, hi, hz0, hz1, hz2⟩ := info_parts info_arint
  refine wpList_append_own2 _ hgd s x 63 ho B 3 i0 _ 1 8 Tryz.underlying63 hi hz0 hz1 hz2 rfl (by decide) v l.length (intVals l) hs hb ad 1 1 [.int .i64 k] hx rfl ?_ ?_ (by unfold maxLen; omega) (by omega) hB ?_
  · intro j u hj
    match j, hj with
    | 0, hj => simp at hj; subst hj; rw [Addr.add_zero']; exact hc
    | (j + 1), hj => simp at hj
  · intro u hu
    simp at hu; subst hu; rfl
  · intro v' w' ho' hg hor
    exact h v' w' (by rw [intVals_append]; exact ho') hg hor
end
theorem ar_row (W : World) (c0 c1 c2 c3 c4 : Value) : (W.alloc (.cells #[c0, c1, c2, c3, c4] 65)).cell? ((⟨W.heap.size, 0, none⟩ : Addr).add 0) = some c0 ∧ (W.alloc (.cells #[c0, c1, c2, c3, c4] 65)).cell? ((⟨W.heap.size, 0, none⟩ : Addr).add 1) = some c1 ∧ (W.alloc (.cells #[c0, c1, c2, c3, c4] 65)).cell? ((⟨W.heap.size, 0, none⟩ : Addr).add 2) = some c2 ∧ (W.alloc (.cells #[c0, c1, c2, c3, c4] 65)).cell? ((⟨W.heap.size, 0, none⟩ : Addr).add 3) = some c3 ∧ (W.alloc (.cells #[c0, c1, c2, c3, c4] 65)).cell? ((⟨W.heap.size, 0, none⟩ : Addr).add 4) = some c4 := by
  have h : (W.alloc (.cells #[c0, c1, c2, c3, c4] 65)).heap[W.heap.size]? = some (.cells #[c0, c1, c2, c3, c4] 65 (0, 0)) := by
    show (W.heap.push _)[W.heap.size]? = _
    exact Array.getElem?_push_size
  exact ⟨by rw [Addr.add_lit, Lib.cell_of_heap h]; rfl, by rw [Addr.add_lit, Lib.cell_of_heap h]; rfl, by rw [Addr.add_lit, Lib.cell_of_heap h]; rfl, by rw [Addr.add_lit, Lib.cell_of_heap h]; rfl, by rw [Addr.add_lit, Lib.cell_of_heap h]; rfl⟩
end Go.Proofs.YtiejmkjpgjbodaaGreatDoor

namespace Go.Proofs.YtiejmkjpgjbodaaGreatDoor
open Go.RowKit
set_option linter.unusedVariables false
set_option linter.unusedSimpArgs false
set_option maxRecDepth 100000
set_option maxHeartbeats 2000000 in
theorem inner14_any (C : Nat → Prop) (B b : Nat) (r : Value) (st : List PartV) (n : Nat) (W0 w : World) (h : BS C B b r st n W0 w) (hs : st ≠ []) (hl : st.length ≤ 1048576) :
    Calls Tryz.prog 39 #[.pointer (some ⟨b, 0, none⟩)] w fun e w' => (∃ g cap, r = .slice (some ⟨g, 0, none⟩) st.length cap ∧ e = .returned (.pointer (some ⟨g, (st.length - 1) * 5, none⟩))) ∧ ∃ m, w' = w.drewN m := by
  obtain ⟨g, cap, rfl, h1, h2, h3, h4⟩ := h.form hs
  have c0 := h.c0
  obtain ⟨k, hk⟩ : ∃ k, st.length = k + 1 := ⟨st.length - 1, by have := List.length_pos_iff.2 hs; omega⟩
  rw [hk] at c0 hl ⊢
  have tn1 : wrap64 (((k + 1 : Nat) : Int) - 1) = (k : Int) := by unfold wrap64; omega
  have tn4 : wrap64 ((k : Int) + 1 - 1) = (k : Int) := by unfold wrap64; omega
  have tn2 : ((k + 1 : Nat) : Int) - 1 = (k : Int) := by omega
  have tn5 : (k : Int) < (k : Int) + 1 := by omega
  clear h hs hk h1 h2 h3 h4
  go_enter Tryz.func39, Tryz.ntmps39
  go_wp2_with fail
  go_quiet (fail)
  go_wp2_with fail
  go_ret
  exact ⟨⟨g, cap, rfl, rfl⟩, nq, rfl⟩
set_option maxHeartbeats 2000000 in
theorem take_no (C : Nat → Prop) (B b : Nat) (r : Value) (st : List PartV) (W0 w : World) (h : BS C B b r st 5000 W0 w) :
    Calls Tryz.prog 85 #[.pointer (some ⟨b, 0, none⟩)] w fun e w' => e = .returned (.bool false) ∧ w = w' := by
  have c1 := h.c1
  clear h
  go_enter Tryz.func85, Tryz.ntmps85
  go_wp2_with fail
  go_ret
  exact ⟨rfl, rfl⟩
set_option maxHeartbeats 2000000 in
theorem take_yes (C : Nat → Prop) (B b : Nat) (r : Value) (st : List PartV) (n : Nat) (W0 w : World) (h : BS C B b r st n W0 w) (hn : n < 5000) :
    Calls Tryz.prog 85 #[.pointer (some ⟨b, 0, none⟩)] w fun e w' => e = .returned (.bool true) ∧ BS C B b r st (n + 1) W0 w' := by
  have c1 := h.c1
  have f1 := h.free 1
  have t0 : ((n : Int) == 5000) = false := beq_eq_false_iff_ne.2 (by omega)
  have HB := hide (h.setCount (n + 1))
  clear h
  go_enter Tryz.func85, Tryz.ntmps85
  go_wp2_with fail
  go_ret
  exact ⟨rfl, HB.out⟩
end Go.Proofs.YtiejmkjpgjbodaaGreatDoor

namespace Go.Proofs.YtiejmkjpgjbodaaGreatDoor
open Go.RowKit
set_option linter.unusedVariables false
set_option linter.unusedSimpArgs false
set_option maxRecDepth 100000
def zeroKid : KidV := ((⟨[], [], []⟩, .nil), (.slice none 0 0, .slice none 0 0))
theorem info_nd14 : (Tryz.prog.info? 33).map (fun i => (i.zero, i.size, i.bytes)) = some (some (.agg #[.string ByteArray.empty, .slice none 0 0, .string ByteArray.empty, .slice none 0 0]), 4, 80) := by kernel_rfl
theorem step_node0 {ops : Array Oper} {o : Oper} {a : Act} {w : World} {K : Act → World → Prop} {Q : Exit → Act → World → Prop} {E : Prop} (hgd : o.guard = none) (s x : Operand)
    (ho : o.op = .call { callee := .builtin .append, args := #[s, x], argTypes := #[23, 23] })
    (B : Nat) (v : Value) (ks : List KidV) (hs : a.eval s = v) (hb : w.ownsRow B 33 4 v ks.length (nodeVals ks)) (hB : B ≤ w.heap.size) (ad : Addr)
    (hx : a.eval x = .slice (some ad) 1 1) (h0 : w.cell? (ad.add 0) = some (.string ⟨#[]⟩)) (h1 : w.cell? (ad.add 1) = some (.slice none 0 0)) (h2 : w.cell? (ad.add 2) = some (.string ⟨#[]⟩)) (h3 : w.cell? (ad.add 3) = some (.slice none 0 0))
    (hlen : ks.length + 1 ≤ 1073741824)
    (h : ∀ g' cap' w', w'.ownsRow B 33 4 (.slice (some ⟨g', 0, none⟩) (ks.length + 1) cap') (ks.length + 1) (nodeVals (ks ++ [zeroKid])) → w.grownBy w' v.ownBlock → (some g' = v.ownBlock ∨ g' = w.heap.size) → ks.length + 1 ≤ cap' → cap' ≤ maxLen →
      K (a.put o.dst (.slice (some ⟨g', 0, none⟩) (ks.length + 1) cap')) w') :
    if Region.wanted o (yielded ops a.tmps) = true then Oper.wp Tryz.prog o a w K Q else E := by
  have hw : Region.wanted o (yielded ops a.tmps) = true := by simp [Region.wanted, hgd]
  rw [if_pos hw]
  obtain ⟨i0, hi, hz0, hz1, hz2⟩ := info_parts info_nd14
  refine wp_append_own2 _ s x 23 ho B 33 i0 (.agg #[.string ByteArray.empty, .slice none 0 0, .string ByteArray.empty, .slice none 0 0]) 4 80 Tryz.underlying23 hi hz0 hz1 hz2 rfl (by decide) v ks.length (nodeVals ks) hs hb ad 1 1 (nodeVals [zeroKid]) hx rfl ?_ ?_ (by unfold maxLen; omega) (by omega) hB ?_
  · intro j u hj
    match j, hj with
    | 0, hj => simp [nodeVals, zeroKid] at hj; subst hj; exact h0
    | 1, hj => simp [nodeVals, zeroKid] at hj; subst hj; exact h1
    | 2, hj => simp [nodeVals, zeroKid] at hj; subst hj; exact h2
    | 3, hj => simp [nodeVals, zeroKid] at hj; subst hj; exact h3
    | (j + 4), hj => simp [nodeVals, zeroKid] at hj
  · intro u hu
    simp [nodeVals, zeroKid] at hu
    rcases hu with rfl | rfl | rfl | rfl <;> rfl
  · intro v' w' ho' hg hor
    rcases ho'.2 with ⟨_, h0⟩ | ⟨g', cap', cur, rfl, _, hh, c1, c2, _⟩
    · cases h0
    · refine h g' cap' w' (by rw [nodeVals_append]; exact ho') hg ?_ c1 c2
      rcases hor with e | e
      · exact .inl e
      · exact .inr (by simpa [Value.ownBlock] using e)
theorem node_stored {w : World} {B g cap : Nat} {ks : List KidV} (h : w.ownsRow B 33 4 (.slice (some ⟨g, 0, none⟩) (ks.length + 1) cap) (ks.length + 1) (nodeVals (ks ++ [zeroKid]))) (q : KidV) :
    (((((w.setCell ⟨g, ks.length * 4, none⟩ (.string (str q.1.1.name))).setCell ⟨g, ks.length * 4 + 1, none⟩ q.2.1).setCell ⟨g, ks.length * 4 + 2, none⟩ (.string (str q.1.1.text))).setCell ⟨g, ks.length * 4 + 3, none⟩ q.2.2)).ownsRow B 33 4 (.slice (some ⟨g, 0, none⟩) (ks.length + 1) cap) (ks.length + 1) (nodeVals (ks ++ [q])) ∧
    (∀ k, k ≠ g → ((((w.setCell ⟨g, ks.length * 4, none⟩ (.string (str q.1.1.name))).setCell ⟨g, ks.length * 4 + 1, none⟩ q.2.1).setCell ⟨g, ks.length * 4 + 2, none⟩ (.string (str q.1.1.text))).setCell ⟨g, ks.length * 4 + 3, none⟩ q.2.2).heap[k]? = w.heap[k]?) := by
  obtain ⟨a1, b1⟩ := h.stored (ks.length * 4) (.string (str q.1.1.name))
  obtain ⟨a2, b2⟩ := a1.stored (ks.length * 4 + 1) q.2.1
  obtain ⟨a3, b3⟩ := a2.stored (ks.length * 4 + 2) (.string (str q.1.1.text))
  obtain ⟨a4, b4⟩ := a3.stored (ks.length * 4 + 3) q.2.2
  refine ⟨?_, fun k hk => ?_⟩
  · have e : ((((nodeVals (ks ++ [zeroKid])).set (ks.length * 4) (.string (str q.1.1.name))).set (ks.length * 4 + 1) q.2.1).set (ks.length * 4 + 2) (.string (str q.1.1.text))).set (ks.length * 4 + 3) q.2.2 = nodeVals (ks ++ [q]) := by
      have hs : ∀ (j : Nat) (zs : List Value) (u : Value), (nodeVals ks ++ zs).set (ks.length * 4 + j) u = nodeVals ks ++ zs.set j u := fun j zs u => by
        rw [List.set_append_right _ _ (by rw [nodeVals_length]; omega), nodeVals_length, show ks.length * 4 + j - ks.length * 4 = j by omega]
      have h0 := hs 0
      rw [Nat.add_zero] at h0
      rw [nodeVals_append, nodeVals_append, h0, hs, hs, hs]
      rfl
    rw [e] at a4
    exact a4
  · have hne : ∀ (W : World) (i : Nat) (u : Value), (W.setCell ⟨g, i, none⟩ u).heap[k]? = W.heap[k]? := fun W i u => Below.heap_setCell W ⟨g, i, none⟩ u k hk
    rw [hne, hne, hne, hne]
theorem node_row (W : World) (c0 c1 c2 c3 : Value) : (W.alloc (.cells #[c0, c1, c2, c3] 33)).cell? ((⟨W.heap.size, 0, none⟩ : Addr).add 0) = some c0 ∧ (W.alloc (.cells #[c0, c1, c2, c3] 33)).cell? ((⟨W.heap.size, 0, none⟩ : Addr).add 1) = some c1 ∧ (W.alloc (.cells #[c0, c1, c2, c3] 33)).cell? ((⟨W.heap.size, 0, none⟩ : Addr).add 2) = some c2 ∧ (W.alloc (.cells #[c0, c1, c2, c3] 33)).cell? ((⟨W.heap.size, 0, none⟩ : Addr).add 3) = some c3 := by
  have h : (W.alloc (.cells #[c0, c1, c2, c3] 33)).heap[W.heap.size]? = some (.cells #[c0, c1, c2, c3] 33 (0, 0)) := by
    show (W.heap.push _)[W.heap.size]? = _
    exact Array.getElem?_push_size
  exact ⟨by rw [Addr.add_lit, Lib.cell_of_heap h]; rfl, by rw [Addr.add_lit, Lib.cell_of_heap h]; rfl, by rw [Addr.add_lit, Lib.cell_of_heap h]; rfl, by rw [Addr.add_lit, Lib.cell_of_heap h]; rfl⟩
theorem app_facts {C : Nat → Prop} {B b g cap : Nat} {p : PartV} {rest : List PartV} {n : Nat} {W0 W : World} (h : BS C B b (.slice (some ⟨g, 0, none⟩) (rest.length + 1) cap) (p :: rest) n W0 W) {g' cap' : Nat} {w2 : World}
    (ho : w2.ownsRow B 33 4 (.slice (some ⟨g', 0, none⟩) (p.kids.length + 1) cap') (p.kids.length + 1) (nodeVals (p.kids ++ [zeroKid]))) (hg : W.grownBy w2 p.kv.ownBlock) (hor : some g' = p.kv.ownBlock ∨ g' = W.heap.size) :
    g' ≠ g ∧ (∀ i, w2.frozen? ⟨g', i, none⟩ = false) ∧ (w2.cell? ⟨g', p.kids.length * 4, none⟩ = some (.string ⟨#[]⟩) ∧ w2.cell? ⟨g', p.kids.length * 4 + 1, none⟩ = some (.slice none 0 0) ∧ w2.cell? ⟨g', p.kids.length * 4 + 2, none⟩ = some (.string ⟨#[]⟩) ∧ w2.cell? ⟨g', p.kids.length * 4 + 3, none⟩ = some (.slice none 0 0)) ∧
    (∀ i, w2.frozen? ⟨g, i, none⟩ = false) ∧ (∀ i, w2.cell? ⟨g, i, none⟩ = W.cell? ⟨g, i, none⟩) := by
  have hk := (h.kids p (List.mem_cons_self ..)).row
  obtain ⟨q1, q2, q3, q4⟩ := h.rowOut
  have hlt : g < W.heap.size := by
    obtain ⟨g0, c0, e, _, _, _, hl⟩ := h.form (by simp)
    injection e with e _ _
    injection e with e
    injection e with e
    rw [e]; exact hl
  have hnk : p.kv.ownBlock ≠ some g := ownsRow_other hk (fun cur => q4 cur _ (by decide))
  have hgg : w2.heap[g]? = W.heap[g]? := hg.block g hlt (fun e => hnk e.symm)
  have hc : ∀ j, j < 4 → w2.cell? ⟨g', p.kids.length * 4 + j, none⟩ = [Value.string ⟨#[]⟩, .slice none 0 0, .string ⟨#[]⟩, .slice none 0 0][j]? := fun j hj => by
    rw [ho.cellAt _ (by omega), nodeVals_append, List.getElem?_append_right (by rw [nodeVals_length]; omega), nodeVals_length, show p.kids.length * 4 + j - p.kids.length * 4 = j by omega]
    rfl
  refine ⟨fun e => ?_, fun i => ho.frozenAt i, ⟨hc 0 (by decide), hc 1 (by decide), hc 2 (by decide), hc 3 (by decide)⟩, fun i => ?_, fun i => World.cell?_of_block hgg⟩
  · rcases hor with e1 | e1
    · exact hnk (by rw [← e1, e])
    · omega
  · rw [World.frozen?_of_block (a := ⟨g, i, none⟩) hgg]
    exact h.cells.2.2.2.2.2 i
theorem BS.kidWritten {C : Nat → Prop} {B b g cap : Nat} {p : PartV} {rest : List PartV} {n : Nat} {W0 W : World} (h : BS C B b (.slice (some ⟨g, 0, none⟩) (rest.length + 1) cap) (p :: rest) n W0 W) {g' cap' : Nat} {w2 : World} {q : KidV}
    (ho : w2.ownsRow B 33 4 (.slice (some ⟨g', 0, none⟩) (p.kids.length + 1) cap') (p.kids.length + 1) (nodeVals (p.kids ++ [zeroKid]))) (hg : W.grownBy w2 p.kv.ownBlock) (hor : some g' = p.kv.ownBlock ∨ g' = W.heap.size)
    (hq : AttrsC C W q.2.1 q.1.1.attrs ∧ NodesC C W q.2.2 q.1.2) :
    BS C B b (.slice (some ⟨g, 0, none⟩) (rest.length + 1) cap) ({ p with kids := p.kids ++ [q], kv := .slice (some ⟨g', 0, none⟩) (p.kids.length + 1) cap' } :: rest) n W0
      (((((w2.setCell ⟨g', p.kids.length * 4, none⟩ (.string (str q.1.1.name))).setCell ⟨g', p.kids.length * 4 + 1, none⟩ q.2.1).setCell ⟨g', p.kids.length * 4 + 2, none⟩ (.string (str q.1.1.text))).setCell ⟨g', p.kids.length * 4 + 3, none⟩ q.2.2).setCell ⟨g, rest.length * 5 + 3, none⟩ (.slice (some ⟨g', 0, none⟩) (p.kids.length + 1) cap')) := by
  obtain ⟨s1, s2⟩ := node_stored ho q
  refine h.pushKid s1 ⟨hg.os, hg.tape, hg.output, by have := hg.size; simpa [World.setCell] using this, fun k hk hne => ?_⟩ (by
    rcases hor with e | e
    · exact .inl e
    · exact .inr (by rw [← e]; rfl)) hq
  rw [s2 k ?_]
  · exact hg.block k hk hne
  · rintro rfl
    rcases hor with e | e
    · exact hne e
    · omega
theorem setCell_comm (w : World) (a b : Addr) (u v : Value) (h : a.block ≠ b.block) : (w.setCell a u).setCell b v = (w.setCell b v).setCell a u := by
  unfold World.setCell
  congr 1
  apply Array.ext_getElem?
  intro i
  simp only [Array.getElem?_modify]
  by_cases h1 : b.block = i
  · have h2 : ¬ a.block = i := fun e => h (e.trans h1.symm)
    simp [h1, h2]
  · simp [h1]
theorem kid_comm (w : World) {g g' : Nat} (h : g ≠ g') (i j0 j1 j2 j3 : Nat) (r v0 v1 v2 v3 : Value) :
    (((((w.setCell ⟨g, i, none⟩ r).setCell ⟨g', j0, none⟩ v0).setCell ⟨g', j1, none⟩ v1).setCell ⟨g', j2, none⟩ v2).setCell ⟨g', j3, none⟩ v3) = (((((w.setCell ⟨g', j0, none⟩ v0).setCell ⟨g', j1, none⟩ v1).setCell ⟨g', j2, none⟩ v2).setCell ⟨g', j3, none⟩ v3).setCell ⟨g, i, none⟩ r) := by
  rw [setCell_comm w ⟨g, i, none⟩ ⟨g', j0, none⟩ r v0 h, setCell_comm _ ⟨g, i, none⟩ ⟨g', j1, none⟩ r v1 h, setCell_comm _ ⟨g, i, none⟩ ⟨g', j2, none⟩ r v2 h, setCell_comm _ ⟨g, i, none⟩ ⟨g', j3, none⟩ r v3 h]
theorem BS.noTail {C : Nat → Prop} {B b g cap : Nat} {p : PartV} {rest : List PartV} {n : Nat} {W0 w : World} (h : BS C B b (.slice (some ⟨g, 0, none⟩) (rest.length + 1) cap) (p :: rest) n W0 w) :
    BS C B b (.slice (some ⟨g, 0, none⟩) (rest.length + 1) cap) ({ p with tail := [], tv := .slice none 0 0 } :: rest) n W0 (w.setCell ⟨g, rest.length * 5 + 4, none⟩ (.slice none 0 0)) := by
  have hk := h.kids _ (List.mem_cons_self ..)
  exact h.putP { p with tail := [], tv := .slice none 0 0 } 4 (.slice none 0 0) (by decide) rfl rfl rfl hk ((List.pairwise_cons.1 h.apart).1) ⟨World.ownsRow_nil _ B _ 1, fun _ => rfl⟩
theorem BS.moreTail {C : Nat → Prop} {B b g cap : Nat} {p : PartV} {rest : List PartV} {n : Nat} {W0 w w2 : World} {tv' : Value} {tl' : List UInt8} (h : BS C B b (.slice (some ⟨g, 0, none⟩) (rest.length + 1) cap) (p :: rest) n W0 w)
    (ho : w2.ownsRow B 5 1 tv' tl'.length (cellsOf tl')) (hg : w.grownBy w2 p.tv.ownBlock) (hn : tl' = [] → tv' = .slice none 0 0) :
    BS C B b (.slice (some ⟨g, 0, none⟩) (rest.length + 1) cap) ({ p with tail := tl', tv := tv' } :: rest) n W0 (w2.setCell ⟨g, rest.length * 5 + 4, none⟩ tv') := by
  have ht := h.tails p (List.mem_cons_self ..)
  have hrest : ∀ q ∈ rest, q.tv = .slice none 0 0 := fun q hq => (h.tails q (List.mem_cons_of_mem _ hq)).2 (h.quiet q hq)
  have hC : ∀ k, C k → k < w.heap.size := fun k hk => (h.typ k hk).1
  have htC : ∀ k, p.tv.ownBlock = some k → ¬ C k := fun k e hc => by
    rcases ht.1.2 with ⟨e0, _⟩ | ⟨g0, c0, cur, e0, _, hh, _⟩
    · rw [e0] at e; cases e
    · rw [e0] at e
      obtain rfl : g0 = k := by simpa [Value.ownBlock] using e
      rcases (h.typ g0 hc).2 _ _ _ hh with e | e
      · exact absurd e (by decide)
      · exact absurd e (by decide)
  have hk : ∀ x, C x → w2.heap[x]? = w.heap[x]? := fun x hx => hg.block x (hC x hx) (fun e => htC x e.symm hx)
  have hown : ∀ {e : TypeId} {sz m : Nat} {v : Value} {xs : List Value}, e ≠ 5 → w.ownsRow B e sz v m xs → w2.ownsRow B e sz v m xs := fun {e sz m v xs} h1 hx => hx.kept hg (ownsRow_diff h1 hx ht.1)
  have hblk : w2.heap[b]? = some (.cells #[.slice (some ⟨g, 0, none⟩) (rest.length + 1) cap, .int .i64 n] 47 (0, 0)) := by
    rw [hg.block b (lt_of_block h.blk) (fun e => (ownsRow_other ht.1 (r := b) (fun cur hb => h.out.2 cur _ (by decide) hb)) e.symm)]
    exact h.blk
  have hrow := hown (by decide) h.row
  have hK : ∀ x ∈ p :: rest, KRow C B x.kv x.kids w2 := fun x hx => ⟨hown (by decide) (h.kids x hx).row, fun y hy => ⟨((h.kids x hx).each y hy).1.mono hk (fun _ x => x), ((h.kids x hx).each y hy).2.mono hk (fun _ x => x)⟩, (h.kids x hx).out⟩
  obtain ⟨r1, hgp⟩ := (show w2.ownsRow B 58 5 (.slice (some ⟨g, 0, none⟩) (rest.length + 1) cap) (rest.length + 1) (partVals (p :: rest).reverse) from hrow).stored (rest.length * 5 + 4) tv'
  have q4 : ∀ (cur : Array Value) (e : TypeId), e ≠ 58 → w2.heap[g]? ≠ some (Obj.cells cur e (0, 0)) := fun cur e h1 hx => by
    rcases hrow.2 with ⟨h0, _⟩ | ⟨g', cap', cur', h0, _, hh, _⟩
    · cases h0
    · injection h0 with h0 _ _
      injection h0 with h0
      injection h0 with h0
      subst h0
      rw [hh] at hx
      injection hx with hx
      injection hx with _ hx
      exact h1 hx.symm
  obtain ⟨q1, q2, q3, _⟩ := h.rowOut
  have hown4 : ∀ {e : TypeId} {sz m : Nat} {v : Value} {xs : List Value}, e ≠ 58 → w2.ownsRow B e sz v m xs → (w2.setCell ⟨g, rest.length * 5 + 4, none⟩ tv').ownsRow B e sz v m xs := fun {e sz m v xs} h1 hx => own_type hx hgp (fun cur => q4 cur e h1)
  have hk4 := same_put (w := w2) (i := rest.length * 5 + 4) (u := tv') q2
  have hk5 : ∀ x, C x → (w2.setCell ⟨g, rest.length * 5 + 4, none⟩ tv').heap[x]? = w.heap[x]? := fun x hx => (hk4 x hx).trans (hk x hx)
  have hrm : ∀ x ∈ rest, x ∈ p :: rest := fun x hx => List.mem_cons_of_mem _ hx
  refine ⟨?_, ?_, ?_, ?_, ?_, ?_, h.quiet, fun x hx => ⟨by have := Nat.lt_of_lt_of_le (hC x hx) hg.size; simpa [World.setCell] using this, by rw [hk5 x hx]; exact (h.typ x hx).2⟩, h.base, (h.below.grown hg h.size (fun k e => (ht.1.lt k e).1)).setCell (p := ⟨g, rest.length * 5 + 4, none⟩) q3 tv', by have := Nat.le_trans h.size hg.size; simpa [World.setCell] using this, (h.since.own ht.1 hg (.inr (.inr (.inr rfl)))).own hrow hgp (.inr (.inl rfl))⟩
  · rw [hgp.block b (lt_of_block hblk) (fun e => q1 (Option.some.inj e).symm)]
    exact hblk
  · rw [List.reverse_cons] at r1 ⊢
    have e1 := partVals_set rest.reverse p 4 (by decide) tv'
    rw [List.length_reverse] at e1
    rw [e1] at r1
    rw [partVals_append]
    exact r1
  · intro x hx
    rcases List.mem_cons.1 hx with rfl | hx
    · exact (h.attrs p (List.mem_cons_self ..)).mono hk5 (fun _ x => x)
    · exact (h.attrs x (hrm x hx)).mono hk5 (fun _ x => x)
  · intro x hx
    have hx2 : ∀ y : PartV, KRow C B y.kv y.kids w2 → KRow C B y.kv y.kids (w2.setCell ⟨g, rest.length * 5 + 4, none⟩ tv') := fun y hy => ⟨hown4 (by decide) hy.row, fun z hz => ⟨(hy.each z hz).1.mono hk4 (fun _ x => x), (hy.each z hz).2.mono hk4 (fun _ x => x)⟩, hy.out⟩
    rcases List.mem_cons.1 hx with rfl | hx
    · exact hx2 p (hK p (List.mem_cons_self ..))
    · exact hx2 x (hK x (hrm x hx))
  · exact List.pairwise_cons.2 ⟨(List.pairwise_cons.1 h.apart).1, (List.pairwise_cons.1 h.apart).2⟩
  · intro x hx
    rcases List.mem_cons.1 hx with rfl | hx
    · exact ⟨hown4 (by decide) ho, hn⟩
    · rw [hrest x hx, h.quiet x hx]
      exact ⟨World.ownsRow_nil _ B _ 1, fun _ => rfl⟩
end Go.Proofs.YtiejmkjpgjbodaaGreatDoor

namespace Go.Proofs.YtiejmkjpgjbodaaGreatDoor
open Go.RowKit
set_option linter.unusedVariables false
set_option linter.unusedSimpArgs false
set_option maxRecDepth 100000
theorem nodesAt_vals {C : Nat → Prop} {w : World} {T : Tr} {a : Addr} (h : NodesAt C w T a) : ∃ qs : List KidV, qs.map Prod.fst = T.list ∧ (∀ (j : Nat) u, (nodeVals qs)[j]? = some u → w.cell? (a.add j) = some u) ∧ ∀ q ∈ qs, AttrsC C w q.2.1 q.1.1.attrs ∧ NodesC C w q.2.2 q.1.2 := by
  induction T generalizing a with
  | nil => exact ⟨[], rfl, fun j u hj => (by simp [nodeVals] at hj), fun q hq => (by cases hq)⟩
  | cons f K R ihk ihr =>
    obtain ⟨h0, h1, h2, ⟨u, h3, h4⟩, ⟨v, h5, h6⟩, h7⟩ := h
    obtain ⟨qs, e1, e2, e3⟩ := ihr h7
    refine ⟨((f, K), (u, v)) :: qs, by rw [List.map_cons, e1]; rfl, fun j x hj => ?_, fun q hq => ?_⟩
    · have e : nodeVals (((f, K), (u, v)) :: qs) = .string (str f.name) :: u :: .string (str f.text) :: v :: nodeVals qs := rfl
      rw [e] at hj
      match j, hj with
      | 0, hj => rw [List.getElem?_cons_zero, Option.some.injEq] at hj; subst hj; rw [Addr.add_zero']; exact h1
      | 1, hj => simp only [List.getElem?_cons_succ, List.getElem?_cons_zero, Option.some.injEq] at hj; subst hj; exact h3
      | 2, hj => simp only [List.getElem?_cons_succ, List.getElem?_cons_zero, Option.some.injEq] at hj; subst hj; exact h2
      | 3, hj => simp only [List.getElem?_cons_succ, List.getElem?_cons_zero, Option.some.injEq] at hj; subst hj; exact h5
      | (j + 4), hj =>
        simp only [List.getElem?_cons_succ] at hj
        have := e2 j x hj
        rw [Addr.add_add] at this
        rw [Nat.add_comm j 4]; exact this
    · rcases List.mem_cons.1 hq with rfl | hq
      · exact ⟨h4, h6⟩
      · exact e3 q hq
theorem nodeVals_one (qs : List KidV) (h : ∀ q ∈ qs, q.2.1.oneCell' = true ∧ q.2.2.oneCell' = true) : ∀ u ∈ nodeVals qs, u.oneCell' = true := by
  intro u hu
  unfold nodeVals at hu
  obtain ⟨q, hq, hu⟩ := List.mem_flatMap.1 hu
  obtain ⟨h1, h2⟩ := h q hq
  simp only [List.mem_cons, List.not_mem_nil, or_false] at hu
  rcases hu with rfl | rfl | rfl | rfl
  · rfl
  · exact h1
  · rfl
  · exact h2
theorem KRow.nil (C : Nat → Prop) (B : Nat) (w : World) : KRow C B (.slice none 0 0) [] w := ⟨World.ownsRow_nil w B _ 4, fun q h => (by cases h), fun g e => (by cases e)⟩
theorem KRow.kept {C : Nat → Prop} {B : Nat} {v : Value} {ks : List KidV} {w w' : World} (h : KRow C B v ks w) (hC : ∀ k, C k → k < w.heap.size) (hb : Below w.heap.size w w') : KRow C B v ks w' :=
  h.turned (row := none) (grown_none hb) hC (fun k e => by cases e) (by cases hv : v.ownBlock <;> simp)
theorem KRow.widen {C C' : Nat → Prop} {B : Nat} {v : Value} {ks : List KidV} {w : World} (h : KRow C B v ks w) (hC : ∀ b, C b → C' b) (ho : ∀ g, v.ownBlock = some g → ¬ C' g) : KRow C' B v ks w :=
  ⟨h.row, fun q hq => ⟨(h.each q hq).1.mono (fun _ _ => rfl) hC, (h.each q hq).2.mono (fun _ _ => rfl) hC⟩, ho⟩
theorem KRow.slice {C : Nat → Prop} {B : Nat} {v : Value} {ks : List KidV} {w : World} (h : KRow C B v ks w) : ∃ A c, v = .slice A ks.length c ∧ ks.length ≤ c := by
  rcases h.row.2 with ⟨rfl, h0⟩ | ⟨g, cap, cur, rfl, _, _, h1, _⟩
  · rw [h0]; exact ⟨_, _, rfl, Nat.zero_le _⟩
  · exact ⟨_, _, rfl, h1⟩
theorem attrsC_one {C : Nat → Prop} {w : World} {v : Value} {l : List AtL} (h : AttrsC C w v l) : v.oneCell' = true := by
  obtain ⟨A, c, rfl⟩ := h.1.form; rfl
theorem nodesC_one {C : Nat → Prop} {w : World} {v : Value} {T : Tr} (h : NodesC C w v T) : v.oneCell' = true := by
  obtain ⟨A, c, rfl⟩ := h.form; rfl
theorem run_append_none (w : World) (ty : TypeId) (A : Option Addr) (n c : Nat) (hn : n ≤ c) :
    (Builtin.append_ #[23, 23] ty #[.slice A n c, .slice none 0 0]).run Tryz.prog w = .ok (.slice A n c) w := by
  obtain ⟨i0, hi, hz0, hz1, hz2⟩ := info_parts info_nd14
  cases A with
  | none => simp [Builtin.append_, run_underlying Tryz.underlying23, sizeOf, typeInfo, hi, Builtin.lenOf, Builtin.firstCells, hn]
  | some a => simp [Builtin.append_, run_underlying Tryz.underlying23, sizeOf, typeInfo, hi, Builtin.lenOf, Builtin.firstCells, hn, storeCells]
theorem wpList_nodes {ops : Array Oper} {rest : List Oper} {o : Oper} {a : Act} {Q : Exit → Act → World → Prop} {w : World} (hgd : o.guard = none) (s x : Operand)
    (ho : o.op = .call { callee := .builtin .append, args := #[s, x], argTypes := #[23, 23] })
    (C : Nat → Prop) (B : Nat) (v : Value) (ks : List KidV) (hs : a.eval s = v) (hk : KRow C B v ks w) (hC : ∀ k, C k → k < w.heap.size) (hB : B ≤ w.heap.size)
    (u : Value) (hx : a.eval x = u) (T : Tr) (hu : NodesC C w u T) (hlen : ks.length + T.len ≤ 1073741824)
    (h : ∀ v' qs w', KRow C B v' (ks ++ qs) w' → qs.map Prod.fst = T.list → w.grownBy w' v.ownBlock → (v'.ownBlock = v.ownBlock ∨ v'.ownBlock = some w.heap.size) → wpList Tryz.prog ops Q rest (a.put o.dst v') w') : wpList Tryz.prog ops Q (o :: rest) a w := by
  obtain ⟨i0, hi, hz0, hz1, hz2⟩ := info_parts info_nd14
  rcases hu with ⟨rfl, rfl⟩ | ⟨ad, cap, rfl, hl1, hl2, hat⟩
  · refine wpList_plain hgd fun K hK => ?_
    obtain ⟨A, c, hv, hnc⟩ := hk.slice
    have hr := run_append_none w o.type A ks.length c hnc
    rw [← hv] at hr
    unfold Oper.wp execOp
    simp only [ho, resolve, invoke, builtin, Sem.run_bind, Sem.run_pure, Result.andThen_ok, List.map_toArray, List.map_cons, List.map_nil, hs, hx, hr]
    exact hK _ _ (h v [] w (by rw [List.append_nil]; exact hk) rfl ⟨rfl, rfl, rfl, Nat.le_refl _, fun _ _ _ => rfl⟩ (.inl rfl))
  · obtain ⟨qs, e1, e2, e3⟩ := nodesAt_vals hat
    have hql : qs.length = T.len := by rw [← Tr.len_list, ← e1, List.length_map]
    refine wpList_append_own2 _ hgd s x 23 ho B 33 i0 (.agg #[.string ByteArray.empty, .slice none 0 0, .string ByteArray.empty, .slice none 0 0]) 4 80 Tryz.underlying23 hi hz0 hz1 hz2 rfl (by decide) v ks.length (nodeVals ks) hs hk.row ad T.len cap (nodeVals qs) hx (by rw [nodeVals_length, hql]) e2 (nodeVals_one qs fun q hq => ⟨attrsC_one (e3 q hq).1, nodesC_one (e3 q hq).2⟩) (by unfold maxLen; omega) (by omega) hB ?_
    intro v' w' ho' hg hor
    refine h v' qs w' ⟨by rw [nodeVals_append, List.length_append, hql]; exact ho', fun q hq => ?_, fun g hg2 hCg => ?_⟩ e1 hg hor
    · have hkk : ∀ b, C b → w'.heap[b]? = w.heap[b]? := fun b hb => hg.block b (hC b hb) (fun e => hk.out b e.symm hb)
      rcases List.mem_append.1 hq with hq | hq
      · exact ⟨(hk.each q hq).1.mono hkk (fun _ x => x), (hk.each q hq).2.mono hkk (fun _ x => x)⟩
      · exact ⟨(e3 q hq).1.mono hkk (fun _ x => x), (e3 q hq).2.mono hkk (fun _ x => x)⟩
    · rcases hor with e | e
      · exact hk.out g (by rw [← e]; exact hg2) hCg
      · rw [e] at hg2
        injection hg2 with hg2
        exact absurd (hC g hCg) (by omega)
theorem Tr.of_app (a b : List (NdH × Tr)) : Tr.of (a ++ b) = (Tr.of a).app (Tr.of b) := by
  apply Tr.list_inj
  rw [Tr.list_app, Tr.list_of, Tr.list_of, Tr.list_of]
end Go.Proofs.YtiejmkjpgjbodaaGreatDoor

namespace Go.Proofs.YtiejmkjpgjbodaaGreatDoor
open Go.RowKit
set_option linter.unusedVariables false
set_option linter.unusedSimpArgs false
set_option maxRecDepth 100000
set_option maxHeartbeats 8000000 in
theorem arPut_any (B b : Nat) (r o : Value) (l : List ArV) (opn : List Nat) (W0 w : World) (h : AB B b r o l opn W0 w) (hd : NdH) (av : Value) (ha : AttrsC (fun g => g < B) w av hd.attrs) (a : Nat) (p : ArV) (hp : l[a]? = some p) (hopn : opn[opn.length - 1]? = some a) (hl : l.length ≤ 100000) (hk : p.ks.length ≤ 100000) (ho : opn.length ≤ 100000) :
    Calls Tryz.prog 93 #[.pointer (some ⟨b, 0, none⟩), .agg #[.string (str hd.name), av, .string (str hd.text), .slice none 0 0]] w fun e w' => e = .returned (.int .i64 l.length) ∧
      TokS w w' ∧ ∃ r' l', AB B b r' o l' opn W0 w' ∧ arL l' = arPut (arL l) a hd := by
  have hal : a < l.length := (List.getElem?_eq_some_iff.1 hp).1
  obtain ⟨rA, rc, rfl, _, _⟩ := own_slice h.row
  obtain ⟨go, oc, rfl, _, _, _, _⟩ := own_form h.opn (by
    rcases Nat.eq_zero_or_pos opn.length with e | e
    · rw [List.length_eq_zero_iff.1 e] at hopn; simp at hopn
    · exact e)
  have hc := h.c0
  have hci := h.c1
  obtain ⟨X, hX⟩ : ∃ X, X = str hd.name := ⟨_, rfl⟩
  obtain ⟨Y, hY⟩ : ∃ Y, Y = str hd.text := ⟨_, rfl⟩
  rw [← hX, ← hY]
  have HH := hide h
  have HAT := hide ha
  have HAV : Hid (av.oneCell' = true) := hide (attrsC_one ha)
  have HXY : Hid (X = str hd.name ∧ Y = str hd.text) := hide ⟨hX, hY⟩
  have HP := hide hp
  have HO := hide hopn
  have HL := hide hl
  obtain ⟨avA, avc, rfl⟩ := ha.1.form
  clear h ha hX hY hp hopn
  obtain ⟨W, hW⟩ : ∃ W, W = w.alloc (Obj.cells #[.string X, .slice avA hd.attrs.length avc, .string Y, .slice none 0 0] 33) := ⟨_, rfl⟩
  have hbW : Below w.heap.size w W := by rw [hW]; exact below_one w _
  have HW := hide hW
  have HHW := hide (HH.out.kept hbW)
  have hnd : W.heap[w.heap.size]? = some (Obj.cells #[.string X, .slice avA hd.attrs.length avc, .string Y, .slice none 0 0] 33 (0, 0)) := by rw [hW]; exact heap_alloc_new w _
  have hsz : W.heap.size = w.heap.size + 1 := by rw [hW]; exact World.size_alloc _ _
  have c0 := HHW.out.c0
  have c0a : ∀ ob, (W.alloc ob).cell? ⟨b, 0, none⟩ = some (.slice rA l.length rc) := fun ob => (HHW.out.kept (below_one W ob)).c0
  have n0 : W.cell? ⟨w.heap.size, 0, none⟩ = some (.string X) := (Lib.cell_of_heap hnd 0).trans rfl
  have n1 : W.cell? ⟨w.heap.size, 1, none⟩ = some (.slice avA hd.attrs.length avc) := (Lib.cell_of_heap hnd 1).trans rfl
  have n2 : W.cell? ⟨w.heap.size, 2, none⟩ = some (.string Y) := (Lib.cell_of_heap hnd 2).trans rfl
  have n3 : W.cell? ⟨w.heap.size, 3, none⟩ = some (.slice none 0 0) := (Lib.cell_of_heap hnd 3).trans rfl
  have HOWN : Hid (∀ w', Below W.heap.size W w' → w'.ownsRow B 65 5 (.slice rA l.length rc) l.length (arVals l)) := hide fun w' hb => (HHW.out.kept hb).row
  have HAT2 : Hid (∀ w', Below W.heap.size W w' → AttrsC (fun g => g < B) w' (.slice avA hd.attrs.length avc) hd.attrs) := hide fun w' hb => HAT.out.mono (fun g hg => (((hbW.trans (hb.mono hbW.size)).block g (Nat.lt_of_lt_of_le hg HH.out.size)))) (fun _ x => x)
  have HTW := hide (TokS.below hbW)
  clear hbW hnd hW hsz
  go_enter Tryz.func93, Tryz.ntmps93
  go_wp2_with fail
  rw [← HW.out]
  go_region_law (first
    | (refine step_arNode rfl _ _ rfl B (.slice rA l.length rc) l rfl (HOWN.out _ ?_) ?_ ⟨W.heap.size, 0, none⟩ rfl ⟨hd, .slice avA hd.attrs.length avc, [], .slice none 0 0⟩ ?_ (ar_row _ _ _ _ _ _).2.1 ?_ (ar_row _ _ _ _ _ _).2.2.2.1 (ar_row _ _ _ _ _ _).2.2.2.2 rfl rfl (by have := HL.out; omega) ?_
       · exact ((Below.refl _ _).alloc (Nat.le_refl _) _).drew
       · exact Nat.le_trans HHW.out.size (((Below.refl W.heap.size W).alloc (Nat.le_refl _) _).drew).size
       · rw [← HXY.out.1]; exact (ar_row _ _ _ _ _ _).1
       · rw [← HXY.out.2]; exact (ar_row _ _ _ _ _ _).2.2.1
       intro v' w2 ho2 hg2 hor2
       obtain ⟨rA2, rc2, rfl, _, _⟩ := own_slice ho2
       have HBV := hide (HHW.out.kept (((Below.refl W.heap.size W).alloc (Nat.le_refl _) (.cells #[.string X, .slice avA hd.attrs.length avc, .string Y, .slice none 0 0, .slice none 0 0] 65)).drew))
       obtain ⟨m0, m1, m2, m3⟩ := HBV.out.after HBV.out.row (by decide) hg2
       have HO2 := hide ho2
       have HG2 := hide hg2
       have HOR := hide hor2
       clear ho2 hg2 hor2 m0))
  all_goals
    have h3 := HBV.out.pushNode HO2.out HG2.out (HAT2.out _ (((Below.refl W.heap.size W).alloc (Nat.le_refl _) _).drew))
    obtain ⟨g2, c2, hv2, q1, q2, q3, q4⟩ := own_form HO2.out (Nat.succ_pos _)
    injection hv2 with hv2 _ hv3
    subst hv2 hv3
    have hp3 : (l ++ [(⟨hd, .slice avA hd.attrs.length avc, [], .slice none 0 0⟩ : ArV)])[a]? = some p := by rw [List.getElem?_append_left hal]; exact HP.out
    obtain ⟨V, hV⟩ : ∃ V, V = w2.setCell ⟨b, 0, none⟩ (.slice (some ⟨g2, 0, none⟩) (l.length + 1) rc2) := ⟨_, rfl⟩
    have hts : TokS w V := by
      rw [hV]
      refine (HTW.out.trans ((TokS.below (((Below.refl W.heap.size W).alloc (Nat.le_refl _) _).drew)).trans (TokS.own HBV.out.row HG2.out (by decide)))).store (fun cur => hole_block HH.out.blk cur _ (by decide))
    have HTS := hide hts
    clear hts
    rw [← hV] at h3 ⊢
    have HP3 := hide hp3
    have H3 := hide h3
    obtain ⟨kA, kc, hkv, _, _⟩ := own_slice (h3.kids a p hp3)
    have d0 := h3.c0
    have d1 := h3.c1
    obtain ⟨_, _, _, _, d4, d5⟩ := h3.node hp3
    rw [hkv] at d4
    have d6 := own_int h3.opn HO.out rfl
    have d0a : ∀ ob, (V.alloc ob).cell? ⟨b, 0, none⟩ = some (.slice (some ⟨g2, 0, none⟩) (l.length + 1) rc2) := fun ob => (H3.out.kept (below_one V ob)).c0
    have d4a : ∀ ob, (V.alloc ob).cell? ⟨g2, a * 5 + 4, none⟩ = some (.slice kA p.ks.length kc) := fun ob => by rw [← hkv]; exact ((H3.out.kept (below_one V ob)).node HP3.out).2.2.2.2.1
    obtain ⟨n, hn⟩ : ∃ n, n = opn.length := ⟨_, rfl⟩
    have hn0 : 0 < n := by
      rw [hn]
      rcases Nat.eq_zero_or_pos opn.length with e | e
      · have h9 := HO.out; rw [List.length_eq_zero_iff.1 e] at h9; simp at h9
      · exact e
    rw [← hn] at d1 d6
    have e1 : ((n : Int) - 1).toNat = n - 1 := by omega
    have e2 : wrap64 ((n : Int) - 1) = (n : Int) - 1 := by unfold wrap64; omega
    have e3 : (0 : Int) ≤ (n : Int) - 1 := by clear e2; omega
    have e4 : (n : Int) - 1 < (n : Int) := by clear e2; omega
    have e5 : wrap64 (l.length : Int) = (l.length : Int) := by unfold wrap64; omega
    have e6 : (a : Int) < (l.length : Int) + 1 := by clear e2 e5; omega
    have HKV := hide hkv
    have HOW2 : Hid (∀ w', Below V.heap.size V w' → w'.ownsRow B 3 1 (.slice kA p.ks.length kc) p.ks.length (intVals p.ks)) := hide fun w' hb => by
      have := (H3.out.kept hb).kids a p HP3.out
      rw [HKV.out] at this; exact this
    have HK := hide hk
    clear m1 m2 m3 c0 c0a n0 n1 n2 n3 hc hci hV h3 hp3 hkv q1 q2 q3 q4 hn hal ho hl hk
    go_wp2_with fail
    go_region
    go_wp2_with fail
    go_region_law (first
      | (refine step_arInt rfl _ _ rfl B (.slice kA p.ks.length kc) p.ks rfl (HOW2.out _ ?_) ?_ ⟨V.heap.size, 0, none⟩ rfl l.length ?_ (by have := HK.out; omega) ?_
         · exact (((Below.refl _ _).alloc (Nat.le_refl _) _).drew).drew
         · exact Nat.le_trans H3.out.size (((Below.refl V.heap.size V).alloc (Nat.le_refl _) _).drew).size
         · exact (Lib.cell_of_heap (heap_alloc_new V _) 0).trans rfl
         intro v' w4 ho4 hg4 hor4
         obtain ⟨kA2, kc2, rfl, _, _⟩ := own_slice ho4
         have HBV2 := hide (H3.out.kept ((((Below.refl V.heap.size V).alloc (Nat.le_refl _) (.cells #[.int .i64 (l.length : Int)] 3)).drew).drew))
         have hkr := HBV2.out.kids a p HP3.out
         rw [← HKV.out] at hg4 hor4
         obtain ⟨m0, m1, m2, m3⟩ := HBV2.out.after hkr (by decide) hg4
         obtain ⟨m4, m5⟩ := HBV2.out.afterKids hkr hg4 HP3.out
         rw [HKV.out] at m4
         have HO4 := hide ho4
         have HG4 := hide hg4
         have HOR4 := hide hor4
         clear ho4 hg4 hor4 m0 hkr))
    all_goals
      have h5 := HBV2.out.pushKid HP3.out HG4.out HO4.out HOR4.out
      have H5 := hide h5
      have HT5 := hide (HTS.out.trans (((TokS.below ((((Below.refl V.heap.size V).alloc (Nat.le_refl _) (.cells #[.int .i64 (l.length : Int)] 3)).drew).drew)).trans (TokS.own (HBV2.out.kids a p HP3.out) HG4.out (by decide))).store (b := g2) (i := a * 5 + 4) (u := .slice kA2 (p.ks.length + 1) kc2) (fun cur => H3.out.rowHole cur (by decide))))
      clear h5
      go_wp2_with fail
      go_ret
      exact ⟨rfl, HT5.out, _, _, H5.out, arL_put HP.out⟩
end Go.Proofs.YtiejmkjpgjbodaaGreatDoor

namespace Go.Proofs.YtiejmkjpgjbodaaGreatDoor
open Go.RowKit
set_option linter.unusedVariables false
set_option linter.unusedSimpArgs false
set_option maxRecDepth 100000
theorem arL_grow {l : List ArV} {k : Nat} {q : ArV} {x : List UInt8} (hq : l[k]? = some q) : arL (l.set k { q with h := ⟨q.h.name, q.h.attrs, q.h.text ++ x⟩ }) = arGrow (arL l) k x := by
  apply List.ext_getElem?
  intro i
  have hk : k < l.length := (List.getElem?_eq_some_iff.1 hq).1
  unfold arGrow arL
  rw [List.getElem?_map, List.getElem?_modify]
  by_cases hi : k = i
  · subst hi
    rw [List.getElem?_set_self hk, List.getElem?_map, hq]
    simp [ArV.toN]
  · rw [List.getElem?_set_ne hi, ← List.getElem?_map]
    simp [hi]
set_option maxHeartbeats 8000000 in
theorem arGrow_any (B b : Nat) (r o : Value) (l : List ArV) (opn : List Nat) (W0 w : World) (h : AB B b r o l opn W0 w) (x : ByteArray) (a k : Nat) (p q : ArV) (hp : l[a]? = some p) (hopn : opn[opn.length - 1]? = some a) (hk : p.ks.getLast? = some k) (hq : l[k]? = some q) (hn : q.h.name = []) (hl : l.length ≤ 100000) (hks : p.ks.length ≤ 100000) (ho : opn.length ≤ 100000) (hx : q.h.text.length + x.size ≤ 100000000000000) :
    Calls Tryz.prog 42 #[.pointer (some ⟨b, 0, none⟩), .string x] w fun e w' => e = .returned (.tuple #[]) ∧
      ∃ l', AB B b r o l' opn W0 w' ∧ arL l' = arGrow (arL l) k x.data.toList := by
  have hal : a < l.length := (List.getElem?_eq_some_iff.1 hp).1
  have hkl : k < l.length := (List.getElem?_eq_some_iff.1 hq).1
  obtain ⟨g, rc, rfl, _, _, _, _⟩ := own_form h.row (by omega)
  obtain ⟨go, oc, rfl, _, _, _, _⟩ := own_form h.opn (by
    rcases Nat.eq_zero_or_pos opn.length with e | e
    · rw [List.length_eq_zero_iff.1 e] at hopn; simp at hopn
    · exact e)
  rw [List.getLast?_eq_getElem?] at hk
  have hm0 : 0 < p.ks.length := by
    rcases Nat.eq_zero_or_pos p.ks.length with e | e
    · rw [List.length_eq_zero_iff.1 e] at hk; simp at hk
    · exact e
  have hkr := h.kids a p hp
  obtain ⟨gk, kc, hkv, _, _, _, _⟩ := own_form hkr hm0
  rw [hkv] at hkr
  have d0 := h.c0
  have d1 := h.c1
  obtain ⟨_, _, _, _, d4, _⟩ := h.node hp
  rw [hkv] at d4
  obtain ⟨f0, _, f2, _, _, f5⟩ := h.node hq
  have d6 := own_int h.opn hopn rfl
  have d7 := own_int hkr hk rfl
  obtain ⟨n, hn'⟩ : ∃ n, n = opn.length := ⟨_, rfl⟩
  have hn0 : 0 < n := by
    rw [hn']
    rcases Nat.eq_zero_or_pos opn.length with e | e
    · rw [List.length_eq_zero_iff.1 e] at hopn; simp at hopn
    · exact e
  obtain ⟨m, hm⟩ : ∃ m, m = p.ks.length := ⟨_, rfl⟩
  rw [← hn'] at d1 d6
  rw [← hm] at d4 d7 hm0
  have e1 : ((n : Int) - 1).toNat = n - 1 := by omega
  have e2 : wrap64 ((n : Int) - 1) = (n : Int) - 1 := by unfold wrap64; omega
  have e3 : (0 : Int) ≤ (n : Int) - 1 := by clear e2; omega
  have e4 : (n : Int) - 1 < (n : Int) := by clear e2; omega
  have i1 : ((m : Int) - 1).toNat = m - 1 := by omega
  have i2 : wrap64 ((m : Int) - 1) = (m : Int) - 1 := by clear e2; unfold wrap64; omega
  have i3 : (0 : Int) ≤ (m : Int) - 1 := by clear e2 i2; omega
  have i4 : (m : Int) - 1 < (m : Int) := by clear e2 i2; omega
  have i5 : (a : Int) < (l.length : Int) := by clear e2 i2; omega
  have i6 : (k : Int) < (l.length : Int) := by clear e2 i2; omega
  have i7 : decide ((0 : Int) < (m : Int)) = true := decide_eq_true (by clear e2 i2; omega)
  obtain ⟨X, hX⟩ : ∃ X, X = str q.h.name := ⟨_, rfl⟩
  have q0 : X.toList.isEmpty = true := by rw [hX, str_list, hn]; rfl
  obtain ⟨Y, hY⟩ : ∃ Y, Y = str q.h.text := ⟨_, rfl⟩
  have q1 : ¬ (9223372036854775807 < Y.size + x.size) := by rw [hY, str_size]; clear e2 i2; omega
  rw [← hX] at f0
  rw [← hY] at f2
  have HQ := hide hq
  have HH := hide h
  have HY := hide hY
  have HN := hide hn'
  clear h hp hopn hk hq hn hl hks ho hx hX hY hn' hm hkr hkv hal hkl
  go_enter Tryz.func42, Tryz.ntmps42
  go_wp2_with fail
  go_region
  go_wp2_with fail
  go_region
  go_wp2_with fail
  go_region
  all_goals
    go_wp2_with fail
    have h5 := HH.out.setNode (p' := { q with h := ⟨q.h.name, q.h.attrs, q.h.text ++ x.data.toList⟩ }) HQ.out 2 (.string (Y ++ x)) (by decide) (by
      rw [HY.out, ← str_of x, ← str_append, str_of]; rfl) ⟨rfl, rfl⟩ (HH.out.kids k q HQ.out) (fun j s hj hs => HH.out.apart k j q s hj HQ.out hs) (HH.out.free k q HQ.out)
    rw [← HN.out] at h5
    have H5 := hide h5
    clear h5
    (try simp only [Exit.inBlock, Exit.then]); refine bodyPost_ret (results_none rfl _ _ _) rfl ?_
    exact ⟨rfl, _, by rw [← HN.out]; exact H5.out.kept ((((Below.refl _ _).drew).drew).drew), arL_grow HQ.out⟩
set_option maxHeartbeats 8000000 in
theorem arTextPut_any (B b : Nat) (r o : Value) (l : List ArV) (opn : List Nat) (W0 w : World) (h : AB B b r o l opn W0 w) (x : ByteArray) (a : Nat) (p : ArV) (hp : l[a]? = some p) (hopn : opn[opn.length - 1]? = some a) (hl : l.length ≤ 100000) (hks : p.ks.length ≤ 100000) (ho : opn.length ≤ 100000)
    (hlast : p.ks = [] ∨ ∃ k q, p.ks.getLast? = some k ∧ l[k]? = some q ∧ q.h.name ≠ []) (hrm : l.length ≤ 5000) :
    Calls Tryz.prog 42 #[.pointer (some ⟨b, 0, none⟩), .string x] w fun e w' => e = .returned (.tuple #[]) ∧ ∃ r' l', AB B b r' o l' opn W0 w' ∧ arL l' = arPut (arL l) a ⟨[], [], x.data.toList⟩ := by
  have hal : a < l.length := (List.getElem?_eq_some_iff.1 hp).1
  obtain ⟨g, rc, rfl, _, _, _, _⟩ := own_form h.row (by omega)
  obtain ⟨go, oc, rfl, _, _, _, _⟩ := own_form h.opn (by
    rcases Nat.eq_zero_or_pos opn.length with e | e
    · rw [List.length_eq_zero_iff.1 e] at hopn; simp at hopn
    · exact e)
  have HPUT := hide (arPut_any B b _ _ l opn W0 w.drew.drew (h.kept (((Below.refl _ _).drew).drew)) ⟨[], [], x.data.toList⟩ (.slice none 0 0) ⟨.inl ⟨rfl, rfl⟩, fun a n c e => (by cases e)⟩ a p hp hopn hl hks ho)
  rw [show str ([] : List UInt8) = (⟨#[]⟩ : ByteArray) from rfl, str_of] at HPUT
  have hkr := h.kids a p hp
  have d0 := h.c0
  have d1 := h.c1
  obtain ⟨_, _, _, _, d4, _⟩ := h.node hp
  have d6 := own_int h.opn hopn rfl
  obtain ⟨n, hn'⟩ : ∃ n, n = opn.length := ⟨_, rfl⟩
  have hn0 : 0 < n := by
    rw [hn']
    rcases Nat.eq_zero_or_pos opn.length with e | e
    · rw [List.length_eq_zero_iff.1 e] at hopn; simp at hopn
    · exact e
  have HN := hide hn'
  rw [← hn'] at d1 d6
  have e1 : ((n : Int) - 1).toNat = n - 1 := by omega
  have e2 : wrap64 ((n : Int) - 1) = (n : Int) - 1 := by unfold wrap64; omega
  have e3 : (0 : Int) ≤ (n : Int) - 1 := by clear e2; omega
  have e4 : (n : Int) - 1 < (n : Int) := by clear e2; omega
  have i5 : (a : Int) < (l.length : Int) := by clear e2; omega
  have HH := hide h
  have HLL := hide hl
  have i8 : decide ((l.length : Int) ≤ 5000) = true := decide_eq_true (by clear e2; omega)
  clear hrm
  rcases hlast with hk0 | ⟨k, q, hk, hq, hn⟩
  · obtain ⟨kA, kc, hkv, _, _⟩ := own_slice hkr
    rw [hk0, List.length_nil] at hkv
    rw [hkv] at d4
    have i7 : decide ((0 : Int) < (0 : Int)) = false := by decide
    clear h hp hopn hl hks ho hn' hkr hkv hk0 hal
    go_enter Tryz.func42, Tryz.ntmps42
    go_wp2_with fail
    go_region
    go_wp2_with fail
    go_region
    go_wp2_with fail
    refine HPUT.out.mono ?_
    rintro e w1 ⟨rfl, -, r', l', h1, h2⟩
    have H1 := hide h1
    have H2 := hide h2
    clear h1 h2
    go_wp2_with fail
    go_end0
    exact ⟨rfl, r', l', H1.out, H2.out⟩
  · rw [List.getLast?_eq_getElem?] at hk
    have hkl : k < l.length := (List.getElem?_eq_some_iff.1 hq).1
    have hm0 : 0 < p.ks.length := by
      rcases Nat.eq_zero_or_pos p.ks.length with e | e
      · rw [List.length_eq_zero_iff.1 e] at hk; simp at hk
      · exact e
    obtain ⟨gk, kc, hkv, _, _, _, _⟩ := own_form hkr hm0
    rw [hkv] at hkr d4
    obtain ⟨f0, _, f2, _, _, f5⟩ := h.node hq
    have d7 := own_int hkr hk rfl
    obtain ⟨m, hm⟩ : ∃ m, m = p.ks.length := ⟨_, rfl⟩
    rw [← hm] at d4 d7 hm0
    have i1 : ((m : Int) - 1).toNat = m - 1 := by clear e2; omega
    have i2 : wrap64 ((m : Int) - 1) = (m : Int) - 1 := by clear e2; unfold wrap64; omega
    have i3 : (0 : Int) ≤ (m : Int) - 1 := by clear e2 i2; omega
    have i4 : (m : Int) - 1 < (m : Int) := by clear e2 i2; omega
    have i6 : (k : Int) < (l.length : Int) := by clear e2 i2; omega
    have i7 : decide ((0 : Int) < (m : Int)) = true := decide_eq_true (by clear e2 i2; omega)
    obtain ⟨X, hX⟩ : ∃ X, X = str q.h.name := ⟨_, rfl⟩
    have q0 : X.toList.isEmpty = false := by rw [hX, str_list]; cases hz : q.h.name with | nil => exact absurd hz hn | cons _ _ => rfl
    rw [← hX] at f0
    clear h hp hopn hk hq hn hl hks ho hX hn' hm hkr hkv hal hkl f2
    go_enter Tryz.func42, Tryz.ntmps42
    go_wp2_with fail
    go_region
    go_wp2_with fail
    go_region
    go_wp2_with fail
    refine HPUT.out.mono ?_
    rintro e w1 ⟨rfl, -, r', l', h1, h2⟩
    have H1 := hide h1
    have H2 := hide h2
    clear h1 h2
    go_wp2_with fail
    go_end0
    exact ⟨rfl, r', l', H1.out, H2.out⟩
set_option maxHeartbeats 8000000 in
theorem arTextNo_any (B b : Nat) (r o : Value) (l : List ArV) (opn : List Nat) (W0 w : World) (h : AB B b r o l opn W0 w) (x : ByteArray) (a : Nat) (p : ArV) (hp : l[a]? = some p) (hopn : opn[opn.length - 1]? = some a) (hl : l.length ≤ 100000) (hks : p.ks.length ≤ 100000) (ho : opn.length ≤ 100000)
    (hlast : p.ks = [] ∨ ∃ k q, p.ks.getLast? = some k ∧ l[k]? = some q ∧ q.h.name ≠ []) (hrm : 5000 < l.length) :
    Calls Tryz.prog 42 #[.pointer (some ⟨b, 0, none⟩), .string x] w fun e w' => e = .returned (.tuple #[]) ∧ AB B b r o l opn W0 w' := by
  have hal : a < l.length := (List.getElem?_eq_some_iff.1 hp).1
  obtain ⟨g, rc, rfl, _, _, _, _⟩ := own_form h.row (by omega)
  obtain ⟨go, oc, rfl, _, _, _, _⟩ := own_form h.opn (by
    rcases Nat.eq_zero_or_pos opn.length with e | e
    · rw [List.length_eq_zero_iff.1 e] at hopn; simp at hopn
    · exact e)
  have HPUT := hide (arPut_any B b _ _ l opn W0 w.drew.drew (h.kept (((Below.refl _ _).drew).drew)) ⟨[], [], x.data.toList⟩ (.slice none 0 0) ⟨.inl ⟨rfl, rfl⟩, fun a n c e => (by cases e)⟩ a p hp hopn hl hks ho)
  rw [show str ([] : List UInt8) = (⟨#[]⟩ : ByteArray) from rfl, str_of] at HPUT
  have hkr := h.kids a p hp
  have d0 := h.c0
  have d1 := h.c1
  obtain ⟨_, _, _, _, d4, _⟩ := h.node hp
  have d6 := own_int h.opn hopn rfl
  obtain ⟨n, hn'⟩ : ∃ n, n = opn.length := ⟨_, rfl⟩
  have hn0 : 0 < n := by
    rw [hn']
    rcases Nat.eq_zero_or_pos opn.length with e | e
    · rw [List.length_eq_zero_iff.1 e] at hopn; simp at hopn
    · exact e
  have HN := hide hn'
  rw [← hn'] at d1 d6
  have e1 : ((n : Int) - 1).toNat = n - 1 := by omega
  have e2 : wrap64 ((n : Int) - 1) = (n : Int) - 1 := by unfold wrap64; omega
  have e3 : (0 : Int) ≤ (n : Int) - 1 := by clear e2; omega
  have e4 : (n : Int) - 1 < (n : Int) := by clear e2; omega
  have i5 : (a : Int) < (l.length : Int) := by clear e2; omega
  have HH := hide h
  have HLL := hide hl
  have i8 : decide ((l.length : Int) ≤ 5000) = false := decide_eq_false (by clear e2; omega)
  clear hrm
  rcases hlast with hk0 | ⟨k, q, hk, hq, hn⟩
  · obtain ⟨kA, kc, hkv, _, _⟩ := own_slice hkr
    rw [hk0, List.length_nil] at hkv
    rw [hkv] at d4
    have i7 : decide ((0 : Int) < (0 : Int)) = false := by decide
    clear h hp hopn hl hks ho hn' hkr hkv hk0 hal
    go_enter Tryz.func42, Tryz.ntmps42
    go_wp2_with fail
    go_region
    go_wp2_with fail
    go_region
    go_wp2_with fail
    go_end0
    exact ⟨rfl, HH.out.kept ⟨rfl, rfl, rfl, Nat.le_refl _, fun _ _ => rfl⟩⟩
  · rw [List.getLast?_eq_getElem?] at hk
    have hkl : k < l.length := (List.getElem?_eq_some_iff.1 hq).1
    have hm0 : 0 < p.ks.length := by
      rcases Nat.eq_zero_or_pos p.ks.length with e | e
      · rw [List.length_eq_zero_iff.1 e] at hk; simp at hk
      · exact e
    obtain ⟨gk, kc, hkv, _, _, _, _⟩ := own_form hkr hm0
    rw [hkv] at hkr d4
    obtain ⟨f0, _, f2, _, _, f5⟩ := h.node hq
    have d7 := own_int hkr hk rfl
    obtain ⟨m, hm⟩ : ∃ m, m = p.ks.length := ⟨_, rfl⟩
    rw [← hm] at d4 d7 hm0
    have i1 : ((m : Int) - 1).toNat = m - 1 := by clear e2; omega
    have i2 : wrap64 ((m : Int) - 1) = (m : Int) - 1 := by clear e2; unfold wrap64; omega
    have i3 : (0 : Int) ≤ (m : Int) - 1 := by clear e2 i2; omega
    have i4 : (m : Int) - 1 < (m : Int) := by clear e2 i2; omega
    have i6 : (k : Int) < (l.length : Int) := by clear e2 i2; omega
    have i7 : decide ((0 : Int) < (m : Int)) = true := decide_eq_true (by clear e2 i2; omega)
    obtain ⟨X, hX⟩ : ∃ X, X = str q.h.name := ⟨_, rfl⟩
    have q0 : X.toList.isEmpty = false := by rw [hX, str_list]; cases hz : q.h.name with | nil => exact absurd hz hn | cons _ _ => rfl
    rw [← hX] at f0
    clear h hp hopn hk hq hn hl hks ho hX hn' hm hkr hkv hal hkl f2
    go_enter Tryz.func42, Tryz.ntmps42
    go_wp2_with fail
    go_region
    go_wp2_with fail
    go_region
    go_wp2_with fail
    go_end0
    exact ⟨rfl, HH.out.kept ⟨rfl, rfl, rfl, Nat.le_refl _, fun _ _ => rfl⟩⟩
end Go.Proofs.YtiejmkjpgjbodaaGreatDoor

namespace Go.Proofs.YtiejmkjpgjbodaaGreatDoor
open Go.RowKit
set_option linter.unusedVariables false
set_option linter.unusedSimpArgs false
set_option maxRecDepth 100000
set_option maxHeartbeats 8000000 in
theorem isWall_any (n : ByteArray) (w : World) : Calls Tryz.prog 87 #[.string n] w fun e w' => e = .returned (.bool (wallL.contains n.data.toList)) ∧ w = w' := by
  cases hk : wallL.contains n.data.toList with
  | true =>
    have hc : n.data.toList = [116, 97, 98, 108, 101] ∨ n.data.toList = [98, 117, 116, 116, 111, 110] ∨ n.data.toList = [117, 108] ∨ n.data.toList = [111, 108] ∨ n.data.toList = [100, 108] ∨ n.data.toList = [115, 118, 103] ∨ n.data.toList = [109, 97, 116, 104] ∨ n.data.toList = [116, 101, 109, 112, 108, 97, 116, 101] ∨ n.data.toList = [111, 98, 106, 101, 99, 116] ∨ n.data.toList = [97, 112, 112, 108, 101, 116] ∨ n.data.toList = [109, 97, 114, 113, 117, 101, 101] := by simpa [wallL] using hk
    clear hk
    rcases hc with h | h | h | h | h | h | h | h | h | h | h
    · obtain rfl : n = ⟨#[116, 97, 98, 108, 101]⟩ := ext_list h
      clear h
      go_enter Tryz.func87, Tryz.ntmps87
      go_wp2_with fail
      go_ret
      exact ⟨rfl, rfl⟩
    · obtain rfl : n = ⟨#[98, 117, 116, 116, 111, 110]⟩ := ext_list h
      clear h
      go_enter Tryz.func87, Tryz.ntmps87
      go_wp2_with fail
      go_ret
      exact ⟨rfl, rfl⟩
    · obtain rfl : n = ⟨#[117, 108]⟩ := ext_list h
      clear h
      go_enter Tryz.func87, Tryz.ntmps87
      go_wp2_with fail
      go_ret
      exact ⟨rfl, rfl⟩
    · obtain rfl : n = ⟨#[111, 108]⟩ := ext_list h
      clear h
      go_enter Tryz.func87, Tryz.ntmps87
      go_wp2_with fail
      go_ret
      exact ⟨rfl, rfl⟩
    · obtain rfl : n = ⟨#[100, 108]⟩ := ext_list h
      clear h
      go_enter Tryz.func87, Tryz.ntmps87
      go_wp2_with fail
      go_ret
      exact ⟨rfl, rfl⟩
    · obtain rfl : n = ⟨#[115, 118, 103]⟩ := ext_list h
      clear h
      go_enter Tryz.func87, Tryz.ntmps87
      go_wp2_with fail
      go_ret
      exact ⟨rfl, rfl⟩
    · obtain rfl : n = ⟨#[109, 97, 116, 104]⟩ := ext_list h
      clear h
      go_enter Tryz.func87, Tryz.ntmps87
      go_wp2_with fail
      go_ret
      exact ⟨rfl, rfl⟩
    · obtain rfl : n = ⟨#[116, 101, 109, 112, 108, 97, 116, 101]⟩ := ext_list h
      clear h
      go_enter Tryz.func87, Tryz.ntmps87
      go_wp2_with fail
      go_ret
      exact ⟨rfl, rfl⟩
    · obtain rfl : n = ⟨#[111, 98, 106, 101, 99, 116]⟩ := ext_list h
      clear h
      go_enter Tryz.func87, Tryz.ntmps87
      go_wp2_with fail
      go_ret
      exact ⟨rfl, rfl⟩
    · obtain rfl : n = ⟨#[97, 112, 112, 108, 101, 116]⟩ := ext_list h
      clear h
      go_enter Tryz.func87, Tryz.ntmps87
      go_wp2_with fail
      go_ret
      exact ⟨rfl, rfl⟩
    · obtain rfl : n = ⟨#[109, 97, 114, 113, 117, 101, 101]⟩ := ext_list h
      clear h
      go_enter Tryz.func87, Tryz.ntmps87
      go_wp2_with fail
      go_ret
      exact ⟨rfl, rfl⟩
  | false =>
    have hc : n.data.toList ≠ [116, 97, 98, 108, 101] ∧ n.data.toList ≠ [98, 117, 116, 116, 111, 110] ∧ n.data.toList ≠ [117, 108] ∧ n.data.toList ≠ [111, 108] ∧ n.data.toList ≠ [100, 108] ∧ n.data.toList ≠ [115, 118, 103] ∧ n.data.toList ≠ [109, 97, 116, 104] ∧ n.data.toList ≠ [116, 101, 109, 112, 108, 97, 116, 101] ∧ n.data.toList ≠ [111, 98, 106, 101, 99, 116] ∧ n.data.toList ≠ [97, 112, 112, 108, 101, 116] ∧ n.data.toList ≠ [109, 97, 114, 113, 117, 101, 101] := by simpa [wallL] using hk
    clear hk
    obtain ⟨tn0, tn1, tn2, tn3, tn4, tn5, tn6, tn7, tn8, tn9, tn10⟩ := hc
    have t0 : (n.toList == [116, 97, 98, 108, 101]) = false := beq_eq_false_iff_ne.2 (by rw [bytes_list]; exact tn0)
    have t1 : (n.toList == [98, 117, 116, 116, 111, 110]) = false := beq_eq_false_iff_ne.2 (by rw [bytes_list]; exact tn1)
    have t2 : (n.toList == [117, 108]) = false := beq_eq_false_iff_ne.2 (by rw [bytes_list]; exact tn2)
    have t3 : (n.toList == [111, 108]) = false := beq_eq_false_iff_ne.2 (by rw [bytes_list]; exact tn3)
    have t4 : (n.toList == [100, 108]) = false := beq_eq_false_iff_ne.2 (by rw [bytes_list]; exact tn4)
    have t5 : (n.toList == [115, 118, 103]) = false := beq_eq_false_iff_ne.2 (by rw [bytes_list]; exact tn5)
    have t6 : (n.toList == [109, 97, 116, 104]) = false := beq_eq_false_iff_ne.2 (by rw [bytes_list]; exact tn6)
    have t7 : (n.toList == [116, 101, 109, 112, 108, 97, 116, 101]) = false := beq_eq_false_iff_ne.2 (by rw [bytes_list]; exact tn7)
    have t8 : (n.toList == [111, 98, 106, 101, 99, 116]) = false := beq_eq_false_iff_ne.2 (by rw [bytes_list]; exact tn8)
    have t9 : (n.toList == [97, 112, 112, 108, 101, 116]) = false := beq_eq_false_iff_ne.2 (by rw [bytes_list]; exact tn9)
    have t10 : (n.toList == [109, 97, 114, 113, 117, 101, 101]) = false := beq_eq_false_iff_ne.2 (by rw [bytes_list]; exact tn10)
    clear tn0 tn1 tn2 tn3 tn4 tn5 tn6 tn7 tn8 tn9 tn10
    go_enter Tryz.func87, Tryz.ntmps87
    go_wp2_with fail
    go_ret
    exact ⟨rfl, rfl⟩
set_option maxHeartbeats 8000000 in
theorem isHeading_any (n : ByteArray) (w : World) : Calls Tryz.prog 80 #[.string n] w fun e w' => e = .returned (.bool (headNL.contains n.data.toList)) ∧ w = w' := by
  cases hk : headNL.contains n.data.toList with
  | true =>
    have hc : n.data.toList = [104, 49] ∨ n.data.toList = [104, 50] ∨ n.data.toList = [104, 51] ∨ n.data.toList = [104, 52] ∨ n.data.toList = [104, 53] ∨ n.data.toList = [104, 54] := by simpa [headNL] using hk
    clear hk
    rcases hc with h | h | h | h | h | h
    · obtain rfl : n = ⟨#[104, 49]⟩ := ext_list h
      clear h
      go_enter Tryz.func80, Tryz.ntmps80
      go_wp2_with fail
      go_ret
      exact ⟨rfl, rfl⟩
    · obtain rfl : n = ⟨#[104, 50]⟩ := ext_list h
      clear h
      go_enter Tryz.func80, Tryz.ntmps80
      go_wp2_with fail
      go_ret
      exact ⟨rfl, rfl⟩
    · obtain rfl : n = ⟨#[104, 51]⟩ := ext_list h
      clear h
      go_enter Tryz.func80, Tryz.ntmps80
      go_wp2_with fail
      go_ret
      exact ⟨rfl, rfl⟩
    · obtain rfl : n = ⟨#[104, 52]⟩ := ext_list h
      clear h
      go_enter Tryz.func80, Tryz.ntmps80
      go_wp2_with fail
      go_ret
      exact ⟨rfl, rfl⟩
    · obtain rfl : n = ⟨#[104, 53]⟩ := ext_list h
      clear h
      go_enter Tryz.func80, Tryz.ntmps80
      go_wp2_with fail
      go_ret
      exact ⟨rfl, rfl⟩
    · obtain rfl : n = ⟨#[104, 54]⟩ := ext_list h
      clear h
      go_enter Tryz.func80, Tryz.ntmps80
      go_wp2_with fail
      go_ret
      exact ⟨rfl, rfl⟩
  | false =>
    have hc : n.data.toList ≠ [104, 49] ∧ n.data.toList ≠ [104, 50] ∧ n.data.toList ≠ [104, 51] ∧ n.data.toList ≠ [104, 52] ∧ n.data.toList ≠ [104, 53] ∧ n.data.toList ≠ [104, 54] := by simpa [headNL] using hk
    clear hk
    obtain ⟨tn0, tn1, tn2, tn3, tn4, tn5⟩ := hc
    have t0 : (n.toList == [104, 49]) = false := beq_eq_false_iff_ne.2 (by rw [bytes_list]; exact tn0)
    have t1 : (n.toList == [104, 50]) = false := beq_eq_false_iff_ne.2 (by rw [bytes_list]; exact tn1)
    have t2 : (n.toList == [104, 51]) = false := beq_eq_false_iff_ne.2 (by rw [bytes_list]; exact tn2)
    have t3 : (n.toList == [104, 52]) = false := beq_eq_false_iff_ne.2 (by rw [bytes_list]; exact tn3)
    have t4 : (n.toList == [104, 53]) = false := beq_eq_false_iff_ne.2 (by rw [bytes_list]; exact tn4)
    have t5 : (n.toList == [104, 54]) = false := beq_eq_false_iff_ne.2 (by rw [bytes_list]; exact tn5)
    clear tn0 tn1 tn2 tn3 tn4 tn5
    go_enter Tryz.func80, Tryz.ntmps80
    go_wp2_with fail
    go_ret
    exact ⟨rfl, rfl⟩
set_option maxHeartbeats 8000000 in
theorem void14_any (n : ByteArray) (w : World) : Calls Tryz.prog 31 #[.string n] w fun e w' => e = .returned (.bool (voidL.contains n.data.toList)) ∧ w = w' := by
  cases hk : voidL.contains n.data.toList with
  | true =>
    have hc : n.data.toList = [97, 114, 101, 97] ∨ n.data.toList = [98, 97, 115, 101] ∨ n.data.toList = [98, 114] ∨ n.data.toList = [99, 111, 108] ∨ n.data.toList = [101, 109, 98, 101, 100] ∨ n.data.toList = [104, 114] ∨ n.data.toList = [105, 109, 103] ∨ n.data.toList = [105, 110, 112, 117, 116] ∨ n.data.toList = [108, 105, 110, 107] ∨ n.data.toList = [109, 101, 116, 97] ∨ n.data.toList = [115, 111, 117, 114, 99, 101] ∨ n.data.toList = [116, 114, 97, 99, 107] ∨ n.data.toList = [119, 98, 114] := by simpa [voidL] using hk
    clear hk
    rcases hc with h | h | h | h | h | h | h | h | h | h | h | h | h
    · obtain rfl : n = ⟨#[97, 114, 101, 97]⟩ := ext_list h
      clear h
      go_enter Tryz.func31, Tryz.ntmps31
      go_wp2_with fail
      go_ret
      exact ⟨rfl, rfl⟩
    · obtain rfl : n = ⟨#[98, 97, 115, 101]⟩ := ext_list h
      clear h
      go_enter Tryz.func31, Tryz.ntmps31
      go_wp2_with fail
      go_ret
      exact ⟨rfl, rfl⟩
    · obtain rfl : n = ⟨#[98, 114]⟩ := ext_list h
      clear h
      go_enter Tryz.func31, Tryz.ntmps31
      go_wp2_with fail
      go_ret
      exact ⟨rfl, rfl⟩
    · obtain rfl : n = ⟨#[99, 111, 108]⟩ := ext_list h
      clear h
      go_enter Tryz.func31, Tryz.ntmps31
      go_wp2_with fail
      go_ret
      exact ⟨rfl, rfl⟩
    · obtain rfl : n = ⟨#[101, 109, 98, 101, 100]⟩ := ext_list h
      clear h
      go_enter Tryz.func31, Tryz.ntmps31
      go_wp2_with fail
      go_ret
      exact ⟨rfl, rfl⟩
    · obtain rfl : n = ⟨#[104, 114]⟩ := ext_list h
      clear h
      go_enter Tryz.func31, Tryz.ntmps31
      go_wp2_with fail
      go_ret
      exact ⟨rfl, rfl⟩
    · obtain rfl : n = ⟨#[105, 109, 103]⟩ := ext_list h
      clear h
      go_enter Tryz.func31, Tryz.ntmps31
      go_wp2_with fail
      go_ret
      exact ⟨rfl, rfl⟩
    · obtain rfl : n = ⟨#[105, 110, 112, 117, 116]⟩ := ext_list h
      clear h
      go_enter Tryz.func31, Tryz.ntmps31
      go_wp2_with fail
      go_ret
      exact ⟨rfl, rfl⟩
    · obtain rfl : n = ⟨#[108, 105, 110, 107]⟩ := ext_list h
      clear h
      go_enter Tryz.func31, Tryz.ntmps31
      go_wp2_with fail
      go_ret
      exact ⟨rfl, rfl⟩
    · obtain rfl : n = ⟨#[109, 101, 116, 97]⟩ := ext_list h
      clear h
      go_enter Tryz.func31, Tryz.ntmps31
      go_wp2_with fail
      go_ret
      exact ⟨rfl, rfl⟩
    · obtain rfl : n = ⟨#[115, 111, 117, 114, 99, 101]⟩ := ext_list h
      clear h
      go_enter Tryz.func31, Tryz.ntmps31
      go_wp2_with fail
      go_ret
      exact ⟨rfl, rfl⟩
    · obtain rfl : n = ⟨#[116, 114, 97, 99, 107]⟩ := ext_list h
      clear h
      go_enter Tryz.func31, Tryz.ntmps31
      go_wp2_with fail
      go_ret
      exact ⟨rfl, rfl⟩
    · obtain rfl : n = ⟨#[119, 98, 114]⟩ := ext_list h
      clear h
      go_enter Tryz.func31, Tryz.ntmps31
      go_wp2_with fail
      go_ret
      exact ⟨rfl, rfl⟩
  | false =>
    have hc : n.data.toList ≠ [97, 114, 101, 97] ∧ n.data.toList ≠ [98, 97, 115, 101] ∧ n.data.toList ≠ [98, 114] ∧ n.data.toList ≠ [99, 111, 108] ∧ n.data.toList ≠ [101, 109, 98, 101, 100] ∧ n.data.toList ≠ [104, 114] ∧ n.data.toList ≠ [105, 109, 103] ∧ n.data.toList ≠ [105, 110, 112, 117, 116] ∧ n.data.toList ≠ [108, 105, 110, 107] ∧ n.data.toList ≠ [109, 101, 116, 97] ∧ n.data.toList ≠ [115, 111, 117, 114, 99, 101] ∧ n.data.toList ≠ [116, 114, 97, 99, 107] ∧ n.data.toList ≠ [119, 98, 114] := by simpa [voidL] using hk
    clear hk
    obtain ⟨tn0, tn1, tn2, tn3, tn4, tn5, tn6, tn7, tn8, tn9, tn10, tn11, tn12⟩ := hc
    have t0 : (n.toList == [97, 114, 101, 97]) = false := beq_eq_false_iff_ne.2 (by rw [bytes_list]; exact tn0)
    have t1 : (n.toList == [98, 97, 115, 101]) = false := beq_eq_false_iff_ne.2 (by rw [bytes_list]; exact tn1)
    have t2 : (n.toList == [98, 114]) = false := beq_eq_false_iff_ne.2 (by rw [bytes_list]; exact tn2)
    have t3 : (n.toList == [99, 111, 108]) = false := beq_eq_false_iff_ne.2 (by rw [bytes_list]; exact tn3)
    have t4 : (n.toList == [101, 109, 98, 101, 100]) = false := beq_eq_false_iff_ne.2 (by rw [bytes_list]; exact tn4)
    have t5 : (n.toList == [104, 114]) = false := beq_eq_false_iff_ne.2 (by rw [bytes_list]; exact tn5)
    have t6 : (n.toList == [105, 109, 103]) = false := beq_eq_false_iff_ne.2 (by rw [bytes_list]; exact tn6)
    have t7 : (n.toList == [105, 110, 112, 117, 116]) = false := beq_eq_false_iff_ne.2 (by rw [bytes_list]; exact tn7)
    have t8 : (n.toList == [108, 105, 110, 107]) = false := beq_eq_false_iff_ne.2 (by rw [bytes_list]; exact tn8)
    have t9 : (n.toList == [109, 101, 116, 97]) = false := beq_eq_false_iff_ne.2 (by rw [bytes_list]; exact tn9)
    have t10 : (n.toList == [115, 111, 117, 114, 99, 101]) = false := beq_eq_false_iff_ne.2 (by rw [bytes_list]; exact tn10)
    have t11 : (n.toList == [116, 114, 97, 99, 107]) = false := beq_eq_false_iff_ne.2 (by rw [bytes_list]; exact tn11)
    have t12 : (n.toList == [119, 98, 114]) = false := beq_eq_false_iff_ne.2 (by rw [bytes_list]; exact tn12)
    clear tn0 tn1 tn2 tn3 tn4 tn5 tn6 tn7 tn8 tn9 tn10 tn11 tn12
    go_enter Tryz.func31, Tryz.ntmps31
    go_wp2_with fail
    go_ret
    exact ⟨rfl, rfl⟩
set_option maxHeartbeats 8000000 in
theorem isBlock_any (n : ByteArray) (w : World) : Calls Tryz.prog 79 #[.string n] w fun e w' => e = .returned (.bool (blockNL.contains n.data.toList)) ∧ w = w' := by
  have hh : ∀ bb : Bool, headNL.contains n.data.toList = bb → Calls Tryz.prog 80 #[.string n] w fun e w' => e = .returned (.bool bb) ∧ w = w' := fun bb e => by rw [← e]; exact isHeading_any n w
  cases hk : blockNL.contains n.data.toList with
  | true =>
    have hc : n.data.toList = [97, 100, 100, 114, 101, 115, 115] ∨ n.data.toList = [97, 114, 116, 105, 99, 108, 101] ∨ n.data.toList = [97, 115, 105, 100, 101] ∨ n.data.toList = [98, 108, 111, 99, 107, 113, 117, 111, 116, 101] ∨ n.data.toList = [99, 101, 110, 116, 101, 114] ∨ n.data.toList = [100, 101, 116, 97, 105, 108, 115] ∨ n.data.toList = [100, 105, 118] ∨ n.data.toList = [100, 108] ∨ n.data.toList = [102, 105, 101, 108, 100, 115, 101, 116] ∨ n.data.toList = [102, 105, 103, 117, 114, 101] ∨ n.data.toList = [102, 111, 111, 116, 101, 114] ∨ n.data.toList = [102, 111, 114, 109] ∨ n.data.toList = [104, 101, 97, 100, 101, 114] ∨ n.data.toList = [104, 114] ∨ n.data.toList = [108, 105] ∨ n.data.toList = [109, 97, 105, 110] ∨ n.data.toList = [110, 97, 118] ∨ n.data.toList = [111, 108] ∨ n.data.toList = [112] ∨ n.data.toList = [112, 114, 101] ∨ n.data.toList = [115, 101, 99, 116, 105, 111, 110] ∨ n.data.toList = [116, 97, 98, 108, 101] ∨ n.data.toList = [117, 108] ∨ n.data.toList = [100, 100] ∨ n.data.toList = [100, 116] ∨ n.data.toList = [104, 49] ∨ n.data.toList = [104, 50] ∨ n.data.toList = [104, 51] ∨ n.data.toList = [104, 52] ∨ n.data.toList = [104, 53] ∨ n.data.toList = [104, 54] := by simpa [blockNL] using hk
    clear hk
    rcases hc with h | h | h | h | h | h | h | h | h | h | h | h | h | h | h | h | h | h | h | h | h | h | h | h | h | h | h | h | h | h | h
    · obtain rfl : n = ⟨#[97, 100, 100, 114, 101, 115, 115]⟩ := ext_list h
      clear h hh
      go_enter Tryz.func79, Tryz.ntmps79
      go_wp2_with fail
      go_ret
      exact ⟨rfl, rfl⟩
    · obtain rfl : n = ⟨#[97, 114, 116, 105, 99, 108, 101]⟩ := ext_list h
      clear h hh
      go_enter Tryz.func79, Tryz.ntmps79
      go_wp2_with fail
      go_ret
      exact ⟨rfl, rfl⟩
    · obtain rfl : n = ⟨#[97, 115, 105, 100, 101]⟩ := ext_list h
      clear h hh
      go_enter Tryz.func79, Tryz.ntmps79
      go_wp2_with fail
      go_ret
      exact ⟨rfl, rfl⟩
    · obtain rfl : n = ⟨#[98, 108, 111, 99, 107, 113, 117, 111, 116, 101]⟩ := ext_list h
      clear h hh
      go_enter Tryz.func79, Tryz.ntmps79
      go_wp2_with fail
      go_ret
      exact ⟨rfl, rfl⟩
    · obtain rfl : n = ⟨#[99, 101, 110, 116, 101, 114]⟩ := ext_list h
      clear h hh
      go_enter Tryz.func79, Tryz.ntmps79
      go_wp2_with fail
      go_ret
      exact ⟨rfl, rfl⟩
    · obtain rfl : n = ⟨#[100, 101, 116, 97, 105, 108, 115]⟩ := ext_list h
      clear h hh
      go_enter Tryz.func79, Tryz.ntmps79
      go_wp2_with fail
      go_ret
      exact ⟨rfl, rfl⟩
    · obtain rfl : n = ⟨#[100, 105, 118]⟩ := ext_list h
      clear h hh
      go_enter Tryz.func79, Tryz.ntmps79
      go_wp2_with fail
      go_ret
      exact ⟨rfl, rfl⟩
    · obtain rfl : n = ⟨#[100, 108]⟩ := ext_list h
      clear h hh
      go_enter Tryz.func79, Tryz.ntmps79
      go_wp2_with fail
      go_ret
      exact ⟨rfl, rfl⟩
    · obtain rfl : n = ⟨#[102, 105, 101, 108, 100, 115, 101, 116]⟩ := ext_list h
      clear h hh
      go_enter Tryz.func79, Tryz.ntmps79
      go_wp2_with fail
      go_ret
      exact ⟨rfl, rfl⟩
    · obtain rfl : n = ⟨#[102, 105, 103, 117, 114, 101]⟩ := ext_list h
      clear h hh
      go_enter Tryz.func79, Tryz.ntmps79
      go_wp2_with fail
      go_ret
      exact ⟨rfl, rfl⟩
    · obtain rfl : n = ⟨#[102, 111, 111, 116, 101, 114]⟩ := ext_list h
      clear h hh
      go_enter Tryz.func79, Tryz.ntmps79
      go_wp2_with fail
      go_ret
      exact ⟨rfl, rfl⟩
    · obtain rfl : n = ⟨#[102, 111, 114, 109]⟩ := ext_list h
      clear h hh
      go_enter Tryz.func79, Tryz.ntmps79
      go_wp2_with fail
      go_ret
      exact ⟨rfl, rfl⟩
    · obtain rfl : n = ⟨#[104, 101, 97, 100, 101, 114]⟩ := ext_list h
      clear h hh
      go_enter Tryz.func79, Tryz.ntmps79
      go_wp2_with fail
      go_ret
      exact ⟨rfl, rfl⟩
    · obtain rfl : n = ⟨#[104, 114]⟩ := ext_list h
      clear h hh
      go_enter Tryz.func79, Tryz.ntmps79
      go_wp2_with fail
      go_ret
      exact ⟨rfl, rfl⟩
    · obtain rfl : n = ⟨#[108, 105]⟩ := ext_list h
      clear h hh
      go_enter Tryz.func79, Tryz.ntmps79
      go_wp2_with fail
      go_ret
      exact ⟨rfl, rfl⟩
    · obtain rfl : n = ⟨#[109, 97, 105, 110]⟩ := ext_list h
      clear h hh
      go_enter Tryz.func79, Tryz.ntmps79
      go_wp2_with fail
      go_ret
      exact ⟨rfl, rfl⟩
    · obtain rfl : n = ⟨#[110, 97, 118]⟩ := ext_list h
      clear h hh
      go_enter Tryz.func79, Tryz.ntmps79
      go_wp2_with fail
      go_ret
      exact ⟨rfl, rfl⟩
    · obtain rfl : n = ⟨#[111, 108]⟩ := ext_list h
      clear h hh
      go_enter Tryz.func79, Tryz.ntmps79
      go_wp2_with fail
      go_ret
      exact ⟨rfl, rfl⟩
    · obtain rfl : n = ⟨#[112]⟩ := ext_list h
      clear h hh
      go_enter Tryz.func79, Tryz.ntmps79
      go_wp2_with fail
      go_ret
      exact ⟨rfl, rfl⟩
    · obtain rfl : n = ⟨#[112, 114, 101]⟩ := ext_list h
      clear h hh
      go_enter Tryz.func79, Tryz.ntmps79
      go_wp2_with fail
      go_ret
      exact ⟨rfl, rfl⟩
    · obtain rfl : n = ⟨#[115, 101, 99, 116, 105, 111, 110]⟩ := ext_list h
      clear h hh
      go_enter Tryz.func79, Tryz.ntmps79
      go_wp2_with fail
      go_ret
      exact ⟨rfl, rfl⟩
    · obtain rfl : n = ⟨#[116, 97, 98, 108, 101]⟩ := ext_list h
      clear h hh
      go_enter Tryz.func79, Tryz.ntmps79
      go_wp2_with fail
      go_ret
      exact ⟨rfl, rfl⟩
    · obtain rfl : n = ⟨#[117, 108]⟩ := ext_list h
      clear h hh
      go_enter Tryz.func79, Tryz.ntmps79
      go_wp2_with fail
      go_ret
      exact ⟨rfl, rfl⟩
    · obtain rfl : n = ⟨#[100, 100]⟩ := ext_list h
      clear h hh
      go_enter Tryz.func79, Tryz.ntmps79
      go_wp2_with fail
      go_ret
      exact ⟨rfl, rfl⟩
    · obtain rfl : n = ⟨#[100, 116]⟩ := ext_list h
      clear h hh
      go_enter Tryz.func79, Tryz.ntmps79
      go_wp2_with fail
      go_ret
      exact ⟨rfl, rfl⟩
    · obtain rfl : n = ⟨#[104, 49]⟩ := ext_list h
      have HH := hide (hh true (by decide))
      clear h hh
      go_enter Tryz.func79, Tryz.ntmps79
      go_wp2_with fail
      refine HH.out.mono ?_
      rintro e w1 ⟨rfl, rfl⟩
      go_wp2_with fail
      go_ret
      exact ⟨rfl, rfl⟩
    · obtain rfl : n = ⟨#[104, 50]⟩ := ext_list h
      have HH := hide (hh true (by decide))
      clear h hh
      go_enter Tryz.func79, Tryz.ntmps79
      go_wp2_with fail
      refine HH.out.mono ?_
      rintro e w1 ⟨rfl, rfl⟩
      go_wp2_with fail
      go_ret
      exact ⟨rfl, rfl⟩
    · obtain rfl : n = ⟨#[104, 51]⟩ := ext_list h
      have HH := hide (hh true (by decide))
      clear h hh
      go_enter Tryz.func79, Tryz.ntmps79
      go_wp2_with fail
      refine HH.out.mono ?_
      rintro e w1 ⟨rfl, rfl⟩
      go_wp2_with fail
      go_ret
      exact ⟨rfl, rfl⟩
    · obtain rfl : n = ⟨#[104, 52]⟩ := ext_list h
      have HH := hide (hh true (by decide))
      clear h hh
      go_enter Tryz.func79, Tryz.ntmps79
      go_wp2_with fail
      refine HH.out.mono ?_
      rintro e w1 ⟨rfl, rfl⟩
      go_wp2_with fail
      go_ret
      exact ⟨rfl, rfl⟩
    · obtain rfl : n = ⟨#[104, 53]⟩ := ext_list h
      have HH := hide (hh true (by decide))
      clear h hh
      go_enter Tryz.func79, Tryz.ntmps79
      go_wp2_with fail
      refine HH.out.mono ?_
      rintro e w1 ⟨rfl, rfl⟩
      go_wp2_with fail
      go_ret
      exact ⟨rfl, rfl⟩
    · obtain rfl : n = ⟨#[104, 54]⟩ := ext_list h
      have HH := hide (hh true (by decide))
      clear h hh
      go_enter Tryz.func79, Tryz.ntmps79
      go_wp2_with fail
      refine HH.out.mono ?_
      rintro e w1 ⟨rfl, rfl⟩
      go_wp2_with fail
      go_ret
      exact ⟨rfl, rfl⟩
  | false =>
    have hc : n.data.toList ≠ [97, 100, 100, 114, 101, 115, 115] ∧ n.data.toList ≠ [97, 114, 116, 105, 99, 108, 101] ∧ n.data.toList ≠ [97, 115, 105, 100, 101] ∧ n.data.toList ≠ [98, 108, 111, 99, 107, 113, 117, 111, 116, 101] ∧ n.data.toList ≠ [99, 101, 110, 116, 101, 114] ∧ n.data.toList ≠ [100, 101, 116, 97, 105, 108, 115] ∧ n.data.toList ≠ [100, 105, 118] ∧ n.data.toList ≠ [100, 108] ∧ n.data.toList ≠ [102, 105, 101, 108, 100, 115, 101, 116] ∧ n.data.toList ≠ [102, 105, 103, 117, 114, 101] ∧ n.data.toList ≠ [102, 111, 111, 116, 101, 114] ∧ n.data.toList ≠ [102, 111, 114, 109] ∧ n.data.toList ≠ [104, 101, 97, 100, 101, 114] ∧ n.data.toList ≠ [104, 114] ∧ n.data.toList ≠ [108, 105] ∧ n.data.toList ≠ [109, 97, 105, 110] ∧ n.data.toList ≠ [110, 97, 118] ∧ n.data.toList ≠ [111, 108] ∧ n.data.toList ≠ [112] ∧ n.data.toList ≠ [112, 114, 101] ∧ n.data.toList ≠ [115, 101, 99, 116, 105, 111, 110] ∧ n.data.toList ≠ [116, 97, 98, 108, 101] ∧ n.data.toList ≠ [117, 108] ∧ n.data.toList ≠ [100, 100] ∧ n.data.toList ≠ [100, 116] ∧ n.data.toList ≠ [104, 49] ∧ n.data.toList ≠ [104, 50] ∧ n.data.toList ≠ [104, 51] ∧ n.data.toList ≠ [104, 52] ∧ n.data.toList ≠ [104, 53] ∧ n.data.toList ≠ [104, 54] := by simpa [blockNL] using hk
    obtain ⟨tn0, tn1, tn2, tn3, tn4, tn5, tn6, tn7, tn8, tn9, tn10, tn11, tn12, tn13, tn14, tn15, tn16, tn17, tn18, tn19, tn20, tn21, tn22, tn23, tn24, tn25, tn26, tn27, tn28, tn29, tn30⟩ := hc
    have HH := hide (hh false (by
      have : ¬ headNL.contains n.data.toList = true := by
        simp only [headNL, List.contains_cons, List.contains_nil, Bool.or_false, Bool.or_eq_true, beq_iff_eq, not_or]
        exact ⟨tn25, tn26, tn27, tn28, tn29, tn30⟩
      simpa using this))
    clear hk hh
    have t0 : (n.toList == [97, 100, 100, 114, 101, 115, 115]) = false := beq_eq_false_iff_ne.2 (by rw [bytes_list]; exact tn0)
    have t1 : (n.toList == [97, 114, 116, 105, 99, 108, 101]) = false := beq_eq_false_iff_ne.2 (by rw [bytes_list]; exact tn1)
    have t2 : (n.toList == [97, 115, 105, 100, 101]) = false := beq_eq_false_iff_ne.2 (by rw [bytes_list]; exact tn2)
    have t3 : (n.toList == [98, 108, 111, 99, 107, 113, 117, 111, 116, 101]) = false := beq_eq_false_iff_ne.2 (by rw [bytes_list]; exact tn3)
    have t4 : (n.toList == [99, 101, 110, 116, 101, 114]) = false := beq_eq_false_iff_ne.2 (by rw [bytes_list]; exact tn4)
    have t5 : (n.toList == [100, 101, 116, 97, 105, 108, 115]) = false := beq_eq_false_iff_ne.2 (by rw [bytes_list]; exact tn5)
    have t6 : (n.toList == [100, 105, 118]) = false := beq_eq_false_iff_ne.2 (by rw [bytes_list]; exact tn6)
    have t7 : (n.toList == [100, 108]) = false := beq_eq_false_iff_ne.2 (by rw [bytes_list]; exact tn7)
    have t8 : (n.toList == [102, 105, 101, 108, 100, 115, 101, 116]) = false := beq_eq_false_iff_ne.2 (by rw [bytes_list]; exact tn8)
    have t9 : (n.toList == [102, 105, 103, 117, 114, 101]) = false := beq_eq_false_iff_ne.2 (by rw [bytes_list]; exact tn9)
    have t10 : (n.toList == [102, 111, 111, 116, 101, 114]) = false := beq_eq_false_iff_ne.2 (by rw [bytes_list]; exact tn10)
    have t11 : (n.toList == [102, 111, 114, 109]) = false := beq_eq_false_iff_ne.2 (by rw [bytes_list]; exact tn11)
    have t12 : (n.toList == [104, 101, 97, 100, 101, 114]) = false := beq_eq_false_iff_ne.2 (by rw [bytes_list]; exact tn12)
    have t13 : (n.toList == [104, 114]) = false := beq_eq_false_iff_ne.2 (by rw [bytes_list]; exact tn13)
    have t14 : (n.toList == [108, 105]) = false := beq_eq_false_iff_ne.2 (by rw [bytes_list]; exact tn14)
    have t15 : (n.toList == [109, 97, 105, 110]) = false := beq_eq_false_iff_ne.2 (by rw [bytes_list]; exact tn15)
    have t16 : (n.toList == [110, 97, 118]) = false := beq_eq_false_iff_ne.2 (by rw [bytes_list]; exact tn16)
    have t17 : (n.toList == [111, 108]) = false := beq_eq_false_iff_ne.2 (by rw [bytes_list]; exact tn17)
    have t18 : (n.toList == [112]) = false := beq_eq_false_iff_ne.2 (by rw [bytes_list]; exact tn18)
    have t19 : (n.toList == [112, 114, 101]) = false := beq_eq_false_iff_ne.2 (by rw [bytes_list]; exact tn19)
    have t20 : (n.toList == [115, 101, 99, 116, 105, 111, 110]) = false := beq_eq_false_iff_ne.2 (by rw [bytes_list]; exact tn20)
    have t21 : (n.toList == [116, 97, 98, 108, 101]) = false := beq_eq_false_iff_ne.2 (by rw [bytes_list]; exact tn21)
    have t22 : (n.toList == [117, 108]) = false := beq_eq_false_iff_ne.2 (by rw [bytes_list]; exact tn22)
    have t23 : (n.toList == [100, 100]) = false := beq_eq_false_iff_ne.2 (by rw [bytes_list]; exact tn23)
    have t24 : (n.toList == [100, 116]) = false := beq_eq_false_iff_ne.2 (by rw [bytes_list]; exact tn24)
    clear tn0 tn1 tn2 tn3 tn4 tn5 tn6 tn7 tn8 tn9 tn10 tn11 tn12 tn13 tn14 tn15 tn16 tn17 tn18 tn19 tn20 tn21 tn22 tn23 tn24
    go_enter Tryz.func79, Tryz.ntmps79
    go_wp2_with fail
    refine HH.out.mono ?_
    rintro e w1 ⟨rfl, rfl⟩
    go_wp2_with fail
    go_ret
    exact ⟨rfl, rfl⟩
end Go.Proofs.YtiejmkjpgjbodaaGreatDoor

namespace Go.Proofs.YtiejmkjpgjbodaaGreatDoor
open Go.RowKit
set_option linter.unusedVariables false
set_option linter.unusedSimpArgs false
set_option maxRecDepth 100000
theorem closes14_pure (n o : List UInt8) (h : o ≠ [112] ∧ o ≠ [100, 100] ∧ o ≠ [100, 116] ∧ o ≠ [116, 100] ∧ o ≠ [116, 104] ∧ o ≠ [108, 105] ∧ o ≠ [97] ∧ o ≠ [111, 112, 116, 105, 111, 110] ∧ o ≠ [116, 114] ∧ o ≠ [110, 111, 98, 114] ∧ o ≠ [98, 117, 116, 116, 111, 110]) : closesB n o = (headNB o && headNB n) := by
  unfold closesB
  rw [if_neg h.1, if_neg (fun e => e.elim h.2.1 h.2.2.1), if_neg (fun e => e.elim h.2.2.2.1 h.2.2.2.2.1), if_neg]
  have h2 := h.2.2.2.2.2
  simp only [sameL, List.contains_cons, List.contains_nil, Bool.or_false, Bool.or_eq_true, beq_iff_eq, not_or]
  exact h2
set_option maxHeartbeats 8000000 in
theorem closes14_any (n o : ByteArray) (w : World) : Calls Tryz.prog 32 #[.string n, .string o] w fun e w' => e = .returned (.bool (closesB n.data.toList o.data.toList)) ∧ w = w' := by
  by_cases h0 : o.data.toList = [112]
  · obtain rfl : o = ⟨#[112]⟩ := ext_list h0
    have hb := isBlock_any n w
    have he : closesB n.data.toList (⟨#[112]⟩ : ByteArray).data.toList = blockNL.contains n.data.toList := rfl
    rw [he]
    obtain ⟨bb, hbb⟩ : ∃ bb, bb = blockNL.contains n.data.toList := ⟨_, rfl⟩
    rw [← hbb] at hb ⊢
    have HB := hide hb
    clear h0 hb he hbb
    go_enter Tryz.func32, Tryz.ntmps32
    go_wp2_with fail
    refine HB.out.mono ?_
    rintro e w1 ⟨rfl, rfl⟩
    go_wp2_with fail
    go_ret
    exact ⟨rfl, rfl⟩
  by_cases h1 : o.data.toList = [100, 100]
  · obtain rfl : o = ⟨#[100, 100]⟩ := ext_list h1
    clear h0 h1
    by_cases m : n.data.toList = [100, 100]
    · obtain rfl : n = ⟨#[100, 100]⟩ := ext_list m
      clear m
      rw [show closesB (⟨#[100, 100]⟩ : ByteArray).data.toList (⟨#[100, 100]⟩ : ByteArray).data.toList = true by decide]
      go_enter Tryz.func32, Tryz.ntmps32
      go_wp2_with fail
      go_ret
      exact ⟨rfl, rfl⟩
    have m0 := m
    clear m
    by_cases m : n.data.toList = [100, 116]
    · obtain rfl : n = ⟨#[100, 116]⟩ := ext_list m
      clear m
      rw [show closesB (⟨#[100, 116]⟩ : ByteArray).data.toList (⟨#[100, 100]⟩ : ByteArray).data.toList = true by decide]
      go_enter Tryz.func32, Tryz.ntmps32
      go_wp2_with fail
      go_ret
      exact ⟨rfl, rfl⟩
    have m1 := m
    clear m
    have t0 : (n.toList == [100, 100]) = false := beq_eq_false_iff_ne.2 (by rw [bytes_list]; exact m0)
    have t1 : (n.toList == [100, 116]) = false := beq_eq_false_iff_ne.2 (by rw [bytes_list]; exact m1)
    have HE : closesB n.data.toList (⟨#[100, 100]⟩ : ByteArray).data.toList = false := by
      show decide (n.data.toList = [100, 100] ∨ n.data.toList = [100, 116]) = false
      exact decide_eq_false (by simp only [not_or]; exact ⟨m0, m1⟩)
    clear m0 m1
    rw [HE]
    clear HE
    go_enter Tryz.func32, Tryz.ntmps32
    go_wp2_with fail
    go_ret
    exact ⟨rfl, rfl⟩
  by_cases h2 : o.data.toList = [100, 116]
  · obtain rfl : o = ⟨#[100, 116]⟩ := ext_list h2
    clear h0 h1 h2
    by_cases m : n.data.toList = [100, 100]
    · obtain rfl : n = ⟨#[100, 100]⟩ := ext_list m
      clear m
      rw [show closesB (⟨#[100, 100]⟩ : ByteArray).data.toList (⟨#[100, 116]⟩ : ByteArray).data.toList = true by decide]
      go_enter Tryz.func32, Tryz.ntmps32
      go_wp2_with fail
      go_ret
      exact ⟨rfl, rfl⟩
    have m0 := m
    clear m
    by_cases m : n.data.toList = [100, 116]
    · obtain rfl : n = ⟨#[100, 116]⟩ := ext_list m
      clear m
      rw [show closesB (⟨#[100, 116]⟩ : ByteArray).data.toList (⟨#[100, 116]⟩ : ByteArray).data.toList = true by decide]
      go_enter Tryz.func32, Tryz.ntmps32
      go_wp2_with fail
      go_ret
      exact ⟨rfl, rfl⟩
    have m1 := m
    clear m
    have t0 : (n.toList == [100, 100]) = false := beq_eq_false_iff_ne.2 (by rw [bytes_list]; exact m0)
    have t1 : (n.toList == [100, 116]) = false := beq_eq_false_iff_ne.2 (by rw [bytes_list]; exact m1)
    have HE : closesB n.data.toList (⟨#[100, 116]⟩ : ByteArray).data.toList = false := by
      show decide (n.data.toList = [100, 100] ∨ n.data.toList = [100, 116]) = false
      exact decide_eq_false (by simp only [not_or]; exact ⟨m0, m1⟩)
    clear m0 m1
    rw [HE]
    clear HE
    go_enter Tryz.func32, Tryz.ntmps32
    go_wp2_with fail
    go_ret
    exact ⟨rfl, rfl⟩
  by_cases h3 : o.data.toList = [116, 100]
  · obtain rfl : o = ⟨#[116, 100]⟩ := ext_list h3
    clear h0 h1 h2 h3
    by_cases m : n.data.toList = [116, 100]
    · obtain rfl : n = ⟨#[116, 100]⟩ := ext_list m
      clear m
      rw [show closesB (⟨#[116, 100]⟩ : ByteArray).data.toList (⟨#[116, 100]⟩ : ByteArray).data.toList = true by decide]
      go_enter Tryz.func32, Tryz.ntmps32
      go_wp2_with fail
      go_ret
      exact ⟨rfl, rfl⟩
    have m0 := m
    clear m
    by_cases m : n.data.toList = [116, 104]
    · obtain rfl : n = ⟨#[116, 104]⟩ := ext_list m
      clear m
      rw [show closesB (⟨#[116, 104]⟩ : ByteArray).data.toList (⟨#[116, 100]⟩ : ByteArray).data.toList = true by decide]
      go_enter Tryz.func32, Tryz.ntmps32
      go_wp2_with fail
      go_ret
      exact ⟨rfl, rfl⟩
    have m1 := m
    clear m
    by_cases m : n.data.toList = [116, 114]
    · obtain rfl : n = ⟨#[116, 114]⟩ := ext_list m
      clear m
      rw [show closesB (⟨#[116, 114]⟩ : ByteArray).data.toList (⟨#[116, 100]⟩ : ByteArray).data.toList = true by decide]
      go_enter Tryz.func32, Tryz.ntmps32
      go_wp2_with fail
      go_ret
      exact ⟨rfl, rfl⟩
    have m2 := m
    clear m
    have t0 : (n.toList == [116, 100]) = false := beq_eq_false_iff_ne.2 (by rw [bytes_list]; exact m0)
    have t1 : (n.toList == [116, 104]) = false := beq_eq_false_iff_ne.2 (by rw [bytes_list]; exact m1)
    have t2 : (n.toList == [116, 114]) = false := beq_eq_false_iff_ne.2 (by rw [bytes_list]; exact m2)
    have HE : closesB n.data.toList (⟨#[116, 100]⟩ : ByteArray).data.toList = false := by
      show decide (n.data.toList = [116, 100] ∨ n.data.toList = [116, 104] ∨ n.data.toList = [116, 114]) = false
      exact decide_eq_false (by simp only [not_or]; exact ⟨m0, m1, m2⟩)
    clear m0 m1 m2
    rw [HE]
    clear HE
    go_enter Tryz.func32, Tryz.ntmps32
    go_wp2_with fail
    go_ret
    exact ⟨rfl, rfl⟩
  by_cases h4 : o.data.toList = [116, 104]
  · obtain rfl : o = ⟨#[116, 104]⟩ := ext_list h4
    clear h0 h1 h2 h3 h4
    by_cases m : n.data.toList = [116, 100]
    · obtain rfl : n = ⟨#[116, 100]⟩ := ext_list m
      clear m
      rw [show closesB (⟨#[116, 100]⟩ : ByteArray).data.toList (⟨#[116, 104]⟩ : ByteArray).data.toList = true by decide]
      go_enter Tryz.func32, Tryz.ntmps32
      go_wp2_with fail
      go_ret
      exact ⟨rfl, rfl⟩
    have m0 := m
    clear m
    by_cases m : n.data.toList = [116, 104]
    · obtain rfl : n = ⟨#[116, 104]⟩ := ext_list m
      clear m
      rw [show closesB (⟨#[116, 104]⟩ : ByteArray).data.toList (⟨#[116, 104]⟩ : ByteArray).data.toList = true by decide]
      go_enter Tryz.func32, Tryz.ntmps32
      go_wp2_with fail
      go_ret
      exact ⟨rfl, rfl⟩
    have m1 := m
    clear m
    by_cases m : n.data.toList = [116, 114]
    · obtain rfl : n = ⟨#[116, 114]⟩ := ext_list m
      clear m
      rw [show closesB (⟨#[116, 114]⟩ : ByteArray).data.toList (⟨#[116, 104]⟩ : ByteArray).data.toList = true by decide]
      go_enter Tryz.func32, Tryz.ntmps32
      go_wp2_with fail
      go_ret
      exact ⟨rfl, rfl⟩
    have m2 := m
    clear m
    have t0 : (n.toList == [116, 100]) = false := beq_eq_false_iff_ne.2 (by rw [bytes_list]; exact m0)
    have t1 : (n.toList == [116, 104]) = false := beq_eq_false_iff_ne.2 (by rw [bytes_list]; exact m1)
    have t2 : (n.toList == [116, 114]) = false := beq_eq_false_iff_ne.2 (by rw [bytes_list]; exact m2)
    have HE : closesB n.data.toList (⟨#[116, 104]⟩ : ByteArray).data.toList = false := by
      show decide (n.data.toList = [116, 100] ∨ n.data.toList = [116, 104] ∨ n.data.toList = [116, 114]) = false
      exact decide_eq_false (by simp only [not_or]; exact ⟨m0, m1, m2⟩)
    clear m0 m1 m2
    rw [HE]
    clear HE
    go_enter Tryz.func32, Tryz.ntmps32
    go_wp2_with fail
    go_ret
    exact ⟨rfl, rfl⟩
  by_cases h5 : o.data.toList = [108, 105]
  · obtain rfl : o = ⟨#[108, 105]⟩ := ext_list h5
    clear h0 h1 h2 h3 h4 h5
    by_cases m : n.data.toList = [108, 105]
    · obtain rfl : n = ⟨#[108, 105]⟩ := ext_list m
      clear m
      rw [show closesB (⟨#[108, 105]⟩ : ByteArray).data.toList (⟨#[108, 105]⟩ : ByteArray).data.toList = true by decide]
      go_enter Tryz.func32, Tryz.ntmps32
      go_wp2_with fail
      go_ret
      exact ⟨rfl, rfl⟩
    have m0 := m
    clear m
    have t0 : (n.toList == [108, 105]) = false := beq_eq_false_iff_ne.2 (by rw [bytes_list]; exact m0)
    have HE : closesB n.data.toList (⟨#[108, 105]⟩ : ByteArray).data.toList = false := by
      show decide (n.data.toList = [108, 105]) = false
      exact decide_eq_false m0
    clear m0
    rw [HE]
    clear HE
    go_enter Tryz.func32, Tryz.ntmps32
    go_wp2_with fail
    go_ret
    exact ⟨rfl, rfl⟩
  by_cases h6 : o.data.toList = [97]
  · obtain rfl : o = ⟨#[97]⟩ := ext_list h6
    clear h0 h1 h2 h3 h4 h5 h6
    by_cases m : n.data.toList = [97]
    · obtain rfl : n = ⟨#[97]⟩ := ext_list m
      clear m
      rw [show closesB (⟨#[97]⟩ : ByteArray).data.toList (⟨#[97]⟩ : ByteArray).data.toList = true by decide]
      go_enter Tryz.func32, Tryz.ntmps32
      go_wp2_with fail
      go_ret
      exact ⟨rfl, rfl⟩
    have m0 := m
    clear m
    have t0 : (n.toList == [97]) = false := beq_eq_false_iff_ne.2 (by rw [bytes_list]; exact m0)
    have HE : closesB n.data.toList (⟨#[97]⟩ : ByteArray).data.toList = false := by
      show decide (n.data.toList = [97]) = false
      exact decide_eq_false m0
    clear m0
    rw [HE]
    clear HE
    go_enter Tryz.func32, Tryz.ntmps32
    go_wp2_with fail
    go_ret
    exact ⟨rfl, rfl⟩
  by_cases h7 : o.data.toList = [111, 112, 116, 105, 111, 110]
  · obtain rfl : o = ⟨#[111, 112, 116, 105, 111, 110]⟩ := ext_list h7
    clear h0 h1 h2 h3 h4 h5 h6 h7
    by_cases m : n.data.toList = [111, 112, 116, 105, 111, 110]
    · obtain rfl : n = ⟨#[111, 112, 116, 105, 111, 110]⟩ := ext_list m
      clear m
      rw [show closesB (⟨#[111, 112, 116, 105, 111, 110]⟩ : ByteArray).data.toList (⟨#[111, 112, 116, 105, 111, 110]⟩ : ByteArray).data.toList = true by decide]
      go_enter Tryz.func32, Tryz.ntmps32
      go_wp2_with fail
      go_ret
      exact ⟨rfl, rfl⟩
    have m0 := m
    clear m
    have t0 : (n.toList == [111, 112, 116, 105, 111, 110]) = false := beq_eq_false_iff_ne.2 (by rw [bytes_list]; exact m0)
    have HE : closesB n.data.toList (⟨#[111, 112, 116, 105, 111, 110]⟩ : ByteArray).data.toList = false := by
      show decide (n.data.toList = [111, 112, 116, 105, 111, 110]) = false
      exact decide_eq_false m0
    clear m0
    rw [HE]
    clear HE
    go_enter Tryz.func32, Tryz.ntmps32
    go_wp2_with fail
    go_ret
    exact ⟨rfl, rfl⟩
  by_cases h8 : o.data.toList = [116, 114]
  · obtain rfl : o = ⟨#[116, 114]⟩ := ext_list h8
    clear h0 h1 h2 h3 h4 h5 h6 h7 h8
    by_cases m : n.data.toList = [116, 114]
    · obtain rfl : n = ⟨#[116, 114]⟩ := ext_list m
      clear m
      rw [show closesB (⟨#[116, 114]⟩ : ByteArray).data.toList (⟨#[116, 114]⟩ : ByteArray).data.toList = true by decide]
      go_enter Tryz.func32, Tryz.ntmps32
      go_wp2_with fail
      go_ret
      exact ⟨rfl, rfl⟩
    have m0 := m
    clear m
    have t0 : (n.toList == [116, 114]) = false := beq_eq_false_iff_ne.2 (by rw [bytes_list]; exact m0)
    have HE : closesB n.data.toList (⟨#[116, 114]⟩ : ByteArray).data.toList = false := by
      show decide (n.data.toList = [116, 114]) = false
      exact decide_eq_false m0
    clear m0
    rw [HE]
    clear HE
    go_enter Tryz.func32, Tryz.ntmps32
    go_wp2_with fail
    go_ret
    exact ⟨rfl, rfl⟩
  by_cases h9 : o.data.toList = [110, 111, 98, 114]
  · obtain rfl : o = ⟨#[110, 111, 98, 114]⟩ := ext_list h9
    clear h0 h1 h2 h3 h4 h5 h6 h7 h8 h9
    by_cases m : n.data.toList = [110, 111, 98, 114]
    · obtain rfl : n = ⟨#[110, 111, 98, 114]⟩ := ext_list m
      clear m
      rw [show closesB (⟨#[110, 111, 98, 114]⟩ : ByteArray).data.toList (⟨#[110, 111, 98, 114]⟩ : ByteArray).data.toList = true by decide]
      go_enter Tryz.func32, Tryz.ntmps32
      go_wp2_with fail
      go_ret
      exact ⟨rfl, rfl⟩
    have m0 := m
    clear m
    have t0 : (n.toList == [110, 111, 98, 114]) = false := beq_eq_false_iff_ne.2 (by rw [bytes_list]; exact m0)
    have HE : closesB n.data.toList (⟨#[110, 111, 98, 114]⟩ : ByteArray).data.toList = false := by
      show decide (n.data.toList = [110, 111, 98, 114]) = false
      exact decide_eq_false m0
    clear m0
    rw [HE]
    clear HE
    go_enter Tryz.func32, Tryz.ntmps32
    go_wp2_with fail
    go_ret
    exact ⟨rfl, rfl⟩
  by_cases h10 : o.data.toList = [98, 117, 116, 116, 111, 110]
  · obtain rfl : o = ⟨#[98, 117, 116, 116, 111, 110]⟩ := ext_list h10
    clear h0 h1 h2 h3 h4 h5 h6 h7 h8 h9 h10
    by_cases m : n.data.toList = [98, 117, 116, 116, 111, 110]
    · obtain rfl : n = ⟨#[98, 117, 116, 116, 111, 110]⟩ := ext_list m
      clear m
      rw [show closesB (⟨#[98, 117, 116, 116, 111, 110]⟩ : ByteArray).data.toList (⟨#[98, 117, 116, 116, 111, 110]⟩ : ByteArray).data.toList = true by decide]
      go_enter Tryz.func32, Tryz.ntmps32
      go_wp2_with fail
      go_ret
      exact ⟨rfl, rfl⟩
    have m0 := m
    clear m
    have t0 : (n.toList == [98, 117, 116, 116, 111, 110]) = false := beq_eq_false_iff_ne.2 (by rw [bytes_list]; exact m0)
    have HE : closesB n.data.toList (⟨#[98, 117, 116, 116, 111, 110]⟩ : ByteArray).data.toList = false := by
      show decide (n.data.toList = [98, 117, 116, 116, 111, 110]) = false
      exact decide_eq_false m0
    clear m0
    rw [HE]
    clear HE
    go_enter Tryz.func32, Tryz.ntmps32
    go_wp2_with fail
    go_ret
    exact ⟨rfl, rfl⟩
  rw [closes14_pure n.data.toList o.data.toList ⟨h0, h1, h2, h3, h4, h5, h6, h7, h8, h9, h10⟩]
  have t0 : (o.toList == [112]) = false := beq_eq_false_iff_ne.2 (by rw [bytes_list]; exact h0)
  have t1 : (o.toList == [100, 100]) = false := beq_eq_false_iff_ne.2 (by rw [bytes_list]; exact h1)
  have t2 : (o.toList == [100, 116]) = false := beq_eq_false_iff_ne.2 (by rw [bytes_list]; exact h2)
  have t3 : (o.toList == [116, 100]) = false := beq_eq_false_iff_ne.2 (by rw [bytes_list]; exact h3)
  have t4 : (o.toList == [116, 104]) = false := beq_eq_false_iff_ne.2 (by rw [bytes_list]; exact h4)
  have t5 : (o.toList == [108, 105]) = false := beq_eq_false_iff_ne.2 (by rw [bytes_list]; exact h5)
  have t6 : (o.toList == [97]) = false := beq_eq_false_iff_ne.2 (by rw [bytes_list]; exact h6)
  have t7 : (o.toList == [111, 112, 116, 105, 111, 110]) = false := beq_eq_false_iff_ne.2 (by rw [bytes_list]; exact h7)
  have t8 : (o.toList == [116, 114]) = false := beq_eq_false_iff_ne.2 (by rw [bytes_list]; exact h8)
  have t9 : (o.toList == [110, 111, 98, 114]) = false := beq_eq_false_iff_ne.2 (by rw [bytes_list]; exact h9)
  have t10 : (o.toList == [98, 117, 116, 116, 111, 110]) = false := beq_eq_false_iff_ne.2 (by rw [bytes_list]; exact h10)
  clear h0 h1 h2 h3 h4 h5 h6 h7 h8 h9 h10
  have hh : ∀ (s : ByteArray) (bb : Bool), headNB s.data.toList = bb → Calls Tryz.prog 80 #[.string s] w fun e w' => e = .returned (.bool bb) ∧ w = w' := fun s bb e => by rw [← e]; exact isHeading_any s w
  cases ho : headNB o.data.toList with
  | false =>
    have HO := hide (hh o false ho)
    clear hh ho
    go_enter Tryz.func32, Tryz.ntmps32
    go_wp2_with fail
    refine HO.out.mono ?_
    rintro e w1 ⟨rfl, rfl⟩
    go_wp2_with fail
    go_ret
    exact ⟨rfl, rfl⟩
  | true =>
    have HO := hide (hh o true ho)
    obtain ⟨bb, hbb⟩ : ∃ bb, bb = headNB n.data.toList := ⟨_, rfl⟩
    have HN := hide (hh n bb hbb.symm)
    rw [← hbb]
    clear hh ho hbb
    go_enter Tryz.func32, Tryz.ntmps32
    go_wp2_with fail
    refine HO.out.mono ?_
    rintro e w1 ⟨rfl, rfl⟩
    go_wp2_with fail
    refine HN.out.mono ?_
    rintro e w1 ⟨rfl, rfl⟩
    go_wp2_with fail
    go_ret
    exact ⟨rfl, rfl⟩
end Go.Proofs.YtiejmkjpgjbodaaGreatDoor

namespace Go.Proofs.YtiejmkjpgjbodaaGreatDoor
open Go.RowKit
set_option linter.unusedVariables false
set_option linter.unusedSimpArgs false
set_option maxRecDepth 100000
set_option maxHeartbeats 8000000 in
theorem rvoid14_any (n : ByteArray) (w : World) : Calls Tryz.prog 60 #[.string n] w fun e w' => e = .returned (.bool (voidL.contains n.data.toList)) ∧ w = w' := by
  cases hk : voidL.contains n.data.toList with
  | true =>
    have hc : n.data.toList = [97, 114, 101, 97] ∨ n.data.toList = [98, 97, 115, 101] ∨ n.data.toList = [98, 114] ∨ n.data.toList = [99, 111, 108] ∨ n.data.toList = [101, 109, 98, 101, 100] ∨ n.data.toList = [104, 114] ∨ n.data.toList = [105, 109, 103] ∨ n.data.toList = [105, 110, 112, 117, 116] ∨ n.data.toList = [108, 105, 110, 107] ∨ n.data.toList = [109, 101, 116, 97] ∨ n.data.toList = [115, 111, 117, 114, 99, 101] ∨ n.data.toList = [116, 114, 97, 99, 107] ∨ n.data.toList = [119, 98, 114] := by simpa [voidL] using hk
    clear hk
    rcases hc with h | h | h | h | h | h | h | h | h | h | h | h | h
    · obtain rfl : n = ⟨#[97, 114, 101, 97]⟩ := ext_list h
      clear h
      go_enter Tryz.func60, Tryz.ntmps60
      go_wp2_with fail
      go_ret
      exact ⟨rfl, rfl⟩
    · obtain rfl : n = ⟨#[98, 97, 115, 101]⟩ := ext_list h
      clear h
      go_enter Tryz.func60, Tryz.ntmps60
      go_wp2_with fail
      go_ret
      exact ⟨rfl, rfl⟩
    · obtain rfl : n = ⟨#[98, 114]⟩ := ext_list h
      clear h
      go_enter Tryz.func60, Tryz.ntmps60
      go_wp2_with fail
      go_ret
      exact ⟨rfl, rfl⟩
    · obtain rfl : n = ⟨#[99, 111, 108]⟩ := ext_list h
      clear h
      go_enter Tryz.func60, Tryz.ntmps60
      go_wp2_with fail
      go_ret
      exact ⟨rfl, rfl⟩
    · obtain rfl : n = ⟨#[101, 109, 98, 101, 100]⟩ := ext_list h
      clear h
      go_enter Tryz.func60, Tryz.ntmps60
      go_wp2_with fail
      go_ret
      exact ⟨rfl, rfl⟩
    · obtain rfl : n = ⟨#[104, 114]⟩ := ext_list h
      clear h
      go_enter Tryz.func60, Tryz.ntmps60
      go_wp2_with fail
      go_ret
      exact ⟨rfl, rfl⟩
    · obtain rfl : n = ⟨#[105, 109, 103]⟩ := ext_list h
      clear h
      go_enter Tryz.func60, Tryz.ntmps60
      go_wp2_with fail
      go_ret
      exact ⟨rfl, rfl⟩
    · obtain rfl : n = ⟨#[105, 110, 112, 117, 116]⟩ := ext_list h
      clear h
      go_enter Tryz.func60, Tryz.ntmps60
      go_wp2_with fail
      go_ret
      exact ⟨rfl, rfl⟩
    · obtain rfl : n = ⟨#[108, 105, 110, 107]⟩ := ext_list h
      clear h
      go_enter Tryz.func60, Tryz.ntmps60
      go_wp2_with fail
      go_ret
      exact ⟨rfl, rfl⟩
    · obtain rfl : n = ⟨#[109, 101, 116, 97]⟩ := ext_list h
      clear h
      go_enter Tryz.func60, Tryz.ntmps60
      go_wp2_with fail
      go_ret
      exact ⟨rfl, rfl⟩
    · obtain rfl : n = ⟨#[115, 111, 117, 114, 99, 101]⟩ := ext_list h
      clear h
      go_enter Tryz.func60, Tryz.ntmps60
      go_wp2_with fail
      go_ret
      exact ⟨rfl, rfl⟩
    · obtain rfl : n = ⟨#[116, 114, 97, 99, 107]⟩ := ext_list h
      clear h
      go_enter Tryz.func60, Tryz.ntmps60
      go_wp2_with fail
      go_ret
      exact ⟨rfl, rfl⟩
    · obtain rfl : n = ⟨#[119, 98, 114]⟩ := ext_list h
      clear h
      go_enter Tryz.func60, Tryz.ntmps60
      go_wp2_with fail
      go_ret
      exact ⟨rfl, rfl⟩
  | false =>
    have hc : n.data.toList ≠ [97, 114, 101, 97] ∧ n.data.toList ≠ [98, 97, 115, 101] ∧ n.data.toList ≠ [98, 114] ∧ n.data.toList ≠ [99, 111, 108] ∧ n.data.toList ≠ [101, 109, 98, 101, 100] ∧ n.data.toList ≠ [104, 114] ∧ n.data.toList ≠ [105, 109, 103] ∧ n.data.toList ≠ [105, 110, 112, 117, 116] ∧ n.data.toList ≠ [108, 105, 110, 107] ∧ n.data.toList ≠ [109, 101, 116, 97] ∧ n.data.toList ≠ [115, 111, 117, 114, 99, 101] ∧ n.data.toList ≠ [116, 114, 97, 99, 107] ∧ n.data.toList ≠ [119, 98, 114] := by simpa [voidL] using hk
    clear hk
    obtain ⟨tn0, tn1, tn2, tn3, tn4, tn5, tn6, tn7, tn8, tn9, tn10, tn11, tn12⟩ := hc
    have t0 : (n.toList == [97, 114, 101, 97]) = false := beq_eq_false_iff_ne.2 (by rw [bytes_list]; exact tn0)
    have t1 : (n.toList == [98, 97, 115, 101]) = false := beq_eq_false_iff_ne.2 (by rw [bytes_list]; exact tn1)
    have t2 : (n.toList == [98, 114]) = false := beq_eq_false_iff_ne.2 (by rw [bytes_list]; exact tn2)
    have t3 : (n.toList == [99, 111, 108]) = false := beq_eq_false_iff_ne.2 (by rw [bytes_list]; exact tn3)
    have t4 : (n.toList == [101, 109, 98, 101, 100]) = false := beq_eq_false_iff_ne.2 (by rw [bytes_list]; exact tn4)
    have t5 : (n.toList == [104, 114]) = false := beq_eq_false_iff_ne.2 (by rw [bytes_list]; exact tn5)
    have t6 : (n.toList == [105, 109, 103]) = false := beq_eq_false_iff_ne.2 (by rw [bytes_list]; exact tn6)
    have t7 : (n.toList == [105, 110, 112, 117, 116]) = false := beq_eq_false_iff_ne.2 (by rw [bytes_list]; exact tn7)
    have t8 : (n.toList == [108, 105, 110, 107]) = false := beq_eq_false_iff_ne.2 (by rw [bytes_list]; exact tn8)
    have t9 : (n.toList == [109, 101, 116, 97]) = false := beq_eq_false_iff_ne.2 (by rw [bytes_list]; exact tn9)
    have t10 : (n.toList == [115, 111, 117, 114, 99, 101]) = false := beq_eq_false_iff_ne.2 (by rw [bytes_list]; exact tn10)
    have t11 : (n.toList == [116, 114, 97, 99, 107]) = false := beq_eq_false_iff_ne.2 (by rw [bytes_list]; exact tn11)
    have t12 : (n.toList == [119, 98, 114]) = false := beq_eq_false_iff_ne.2 (by rw [bytes_list]; exact tn12)
    clear tn0 tn1 tn2 tn3 tn4 tn5 tn6 tn7 tn8 tn9 tn10 tn11 tn12
    go_enter Tryz.func60, Tryz.ntmps60
    go_wp2_with fail
    go_ret
    exact ⟨rfl, rfl⟩
set_option maxHeartbeats 8000000 in
theorem rblock14_any (n : ByteArray) (w : World) : Calls Tryz.prog 161 #[.string n] w fun e w' => e = .returned (.bool (blockNL.contains n.data.toList)) ∧ w = w' := by
  cases hk : blockNL.contains n.data.toList with
  | true =>
    have hc : n.data.toList = [97, 100, 100, 114, 101, 115, 115] ∨ n.data.toList = [97, 114, 116, 105, 99, 108, 101] ∨ n.data.toList = [97, 115, 105, 100, 101] ∨ n.data.toList = [98, 108, 111, 99, 107, 113, 117, 111, 116, 101] ∨ n.data.toList = [99, 101, 110, 116, 101, 114] ∨ n.data.toList = [100, 101, 116, 97, 105, 108, 115] ∨ n.data.toList = [100, 105, 118] ∨ n.data.toList = [100, 108] ∨ n.data.toList = [102, 105, 101, 108, 100, 115, 101, 116] ∨ n.data.toList = [102, 105, 103, 117, 114, 101] ∨ n.data.toList = [102, 111, 111, 116, 101, 114] ∨ n.data.toList = [102, 111, 114, 109] ∨ n.data.toList = [104, 101, 97, 100, 101, 114] ∨ n.data.toList = [104, 114] ∨ n.data.toList = [108, 105] ∨ n.data.toList = [109, 97, 105, 110] ∨ n.data.toList = [110, 97, 118] ∨ n.data.toList = [111, 108] ∨ n.data.toList = [112] ∨ n.data.toList = [112, 114, 101] ∨ n.data.toList = [115, 101, 99, 116, 105, 111, 110] ∨ n.data.toList = [116, 97, 98, 108, 101] ∨ n.data.toList = [117, 108] ∨ n.data.toList = [100, 100] ∨ n.data.toList = [100, 116] ∨ n.data.toList = [104, 49] ∨ n.data.toList = [104, 50] ∨ n.data.toList = [104, 51] ∨ n.data.toList = [104, 52] ∨ n.data.toList = [104, 53] ∨ n.data.toList = [104, 54] := by simpa [blockNL] using hk
    clear hk
    rcases hc with h | h | h | h | h | h | h | h | h | h | h | h | h | h | h | h | h | h | h | h | h | h | h | h | h | h | h | h | h | h | h
    · obtain rfl : n = ⟨#[97, 100, 100, 114, 101, 115, 115]⟩ := ext_list h
      clear h
      go_enter Tryz.func161, Tryz.ntmps161
      go_wp2_with fail
      go_ret
      exact ⟨rfl, rfl⟩
    · obtain rfl : n = ⟨#[97, 114, 116, 105, 99, 108, 101]⟩ := ext_list h
      clear h
      go_enter Tryz.func161, Tryz.ntmps161
      go_wp2_with fail
      go_ret
      exact ⟨rfl, rfl⟩
    · obtain rfl : n = ⟨#[97, 115, 105, 100, 101]⟩ := ext_list h
      clear h
      go_enter Tryz.func161, Tryz.ntmps161
      go_wp2_with fail
      go_ret
      exact ⟨rfl, rfl⟩
    · obtain rfl : n = ⟨#[98, 108, 111, 99, 107, 113, 117, 111, 116, 101]⟩ := ext_list h
      clear h
      go_enter Tryz.func161, Tryz.ntmps161
      go_wp2_with fail
      go_ret
      exact ⟨rfl, rfl⟩
    · obtain rfl : n = ⟨#[99, 101, 110, 116, 101, 114]⟩ := ext_list h
      clear h
      go_enter Tryz.func161, Tryz.ntmps161
      go_wp2_with fail
      go_ret
      exact ⟨rfl, rfl⟩
    · obtain rfl : n = ⟨#[100, 101, 116, 97, 105, 108, 115]⟩ := ext_list h
      clear h
      go_enter Tryz.func161, Tryz.ntmps161
      go_wp2_with fail
      go_ret
      exact ⟨rfl, rfl⟩
    · obtain rfl : n = ⟨#[100, 105, 118]⟩ := ext_list h
      clear h
      go_enter Tryz.func161, Tryz.ntmps161
      go_wp2_with fail
      go_ret
      exact ⟨rfl, rfl⟩
    · obtain rfl : n = ⟨#[100, 108]⟩ := ext_list h
      clear h
      go_enter Tryz.func161, Tryz.ntmps161
      go_wp2_with fail
      go_ret
      exact ⟨rfl, rfl⟩
    · obtain rfl : n = ⟨#[102, 105, 101, 108, 100, 115, 101, 116]⟩ := ext_list h
      clear h
      go_enter Tryz.func161, Tryz.ntmps161
      go_wp2_with fail
      go_ret
      exact ⟨rfl, rfl⟩
    · obtain rfl : n = ⟨#[102, 105, 103, 117, 114, 101]⟩ := ext_list h
      clear h
      go_enter Tryz.func161, Tryz.ntmps161
      go_wp2_with fail
      go_ret
      exact ⟨rfl, rfl⟩
    · obtain rfl : n = ⟨#[102, 111, 111, 116, 101, 114]⟩ := ext_list h
      clear h
      go_enter Tryz.func161, Tryz.ntmps161
      go_wp2_with fail
      go_ret
      exact ⟨rfl, rfl⟩
    · obtain rfl : n = ⟨#[102, 111, 114, 109]⟩ := ext_list h
      clear h
      go_enter Tryz.func161, Tryz.ntmps161
      go_wp2_with fail
      go_ret
      exact ⟨rfl, rfl⟩
    · obtain rfl : n = ⟨#[104, 101, 97, 100, 101, 114]⟩ := ext_list h
      clear h
      go_enter Tryz.func161, Tryz.ntmps161
      go_wp2_with fail
      go_ret
      exact ⟨rfl, rfl⟩
    · obtain rfl : n = ⟨#[104, 114]⟩ := ext_list h
      clear h
      go_enter Tryz.func161, Tryz.ntmps161
      go_wp2_with fail
      go_ret
      exact ⟨rfl, rfl⟩
    · obtain rfl : n = ⟨#[108, 105]⟩ := ext_list h
      clear h
      go_enter Tryz.func161, Tryz.ntmps161
      go_wp2_with fail
      go_ret
      exact ⟨rfl, rfl⟩
    · obtain rfl : n = ⟨#[109, 97, 105, 110]⟩ := ext_list h
      clear h
      go_enter Tryz.func161, Tryz.ntmps161
      go_wp2_with fail
      go_ret
      exact ⟨rfl, rfl⟩
    · obtain rfl : n = ⟨#[110, 97, 118]⟩ := ext_list h
      clear h
      go_enter Tryz.func161, Tryz.ntmps161
      go_wp2_with fail
      go_ret
      exact ⟨rfl, rfl⟩
    · obtain rfl : n = ⟨#[111, 108]⟩ := ext_list h
      clear h
      go_enter Tryz.func161, Tryz.ntmps161
      go_wp2_with fail
      go_ret
      exact ⟨rfl, rfl⟩
    · obtain rfl : n = ⟨#[112]⟩ := ext_list h
      clear h
      go_enter Tryz.func161, Tryz.ntmps161
      go_wp2_with fail
      go_ret
      exact ⟨rfl, rfl⟩
    · obtain rfl : n = ⟨#[112, 114, 101]⟩ := ext_list h
      clear h
      go_enter Tryz.func161, Tryz.ntmps161
      go_wp2_with fail
      go_ret
      exact ⟨rfl, rfl⟩
    · obtain rfl : n = ⟨#[115, 101, 99, 116, 105, 111, 110]⟩ := ext_list h
      clear h
      go_enter Tryz.func161, Tryz.ntmps161
      go_wp2_with fail
      go_ret
      exact ⟨rfl, rfl⟩
    · obtain rfl : n = ⟨#[116, 97, 98, 108, 101]⟩ := ext_list h
      clear h
      go_enter Tryz.func161, Tryz.ntmps161
      go_wp2_with fail
      go_ret
      exact ⟨rfl, rfl⟩
    · obtain rfl : n = ⟨#[117, 108]⟩ := ext_list h
      clear h
      go_enter Tryz.func161, Tryz.ntmps161
      go_wp2_with fail
      go_ret
      exact ⟨rfl, rfl⟩
    · obtain rfl : n = ⟨#[100, 100]⟩ := ext_list h
      clear h
      go_enter Tryz.func161, Tryz.ntmps161
      go_wp2_with fail
      go_ret
      exact ⟨rfl, rfl⟩
    · obtain rfl : n = ⟨#[100, 116]⟩ := ext_list h
      clear h
      go_enter Tryz.func161, Tryz.ntmps161
      go_wp2_with fail
      go_ret
      exact ⟨rfl, rfl⟩
    · obtain rfl : n = ⟨#[104, 49]⟩ := ext_list h
      clear h
      go_enter Tryz.func161, Tryz.ntmps161
      go_wp2_with fail
      go_ret
      exact ⟨rfl, rfl⟩
    · obtain rfl : n = ⟨#[104, 50]⟩ := ext_list h
      clear h
      go_enter Tryz.func161, Tryz.ntmps161
      go_wp2_with fail
      go_ret
      exact ⟨rfl, rfl⟩
    · obtain rfl : n = ⟨#[104, 51]⟩ := ext_list h
      clear h
      go_enter Tryz.func161, Tryz.ntmps161
      go_wp2_with fail
      go_ret
      exact ⟨rfl, rfl⟩
    · obtain rfl : n = ⟨#[104, 52]⟩ := ext_list h
      clear h
      go_enter Tryz.func161, Tryz.ntmps161
      go_wp2_with fail
      go_ret
      exact ⟨rfl, rfl⟩
    · obtain rfl : n = ⟨#[104, 53]⟩ := ext_list h
      clear h
      go_enter Tryz.func161, Tryz.ntmps161
      go_wp2_with fail
      go_ret
      exact ⟨rfl, rfl⟩
    · obtain rfl : n = ⟨#[104, 54]⟩ := ext_list h
      clear h
      go_enter Tryz.func161, Tryz.ntmps161
      go_wp2_with fail
      go_ret
      exact ⟨rfl, rfl⟩
  | false =>
    have hc : n.data.toList ≠ [97, 100, 100, 114, 101, 115, 115] ∧ n.data.toList ≠ [97, 114, 116, 105, 99, 108, 101] ∧ n.data.toList ≠ [97, 115, 105, 100, 101] ∧ n.data.toList ≠ [98, 108, 111, 99, 107, 113, 117, 111, 116, 101] ∧ n.data.toList ≠ [99, 101, 110, 116, 101, 114] ∧ n.data.toList ≠ [100, 101, 116, 97, 105, 108, 115] ∧ n.data.toList ≠ [100, 105, 118] ∧ n.data.toList ≠ [100, 108] ∧ n.data.toList ≠ [102, 105, 101, 108, 100, 115, 101, 116] ∧ n.data.toList ≠ [102, 105, 103, 117, 114, 101] ∧ n.data.toList ≠ [102, 111, 111, 116, 101, 114] ∧ n.data.toList ≠ [102, 111, 114, 109] ∧ n.data.toList ≠ [104, 101, 97, 100, 101, 114] ∧ n.data.toList ≠ [104, 114] ∧ n.data.toList ≠ [108, 105] ∧ n.data.toList ≠ [109, 97, 105, 110] ∧ n.data.toList ≠ [110, 97, 118] ∧ n.data.toList ≠ [111, 108] ∧ n.data.toList ≠ [112] ∧ n.data.toList ≠ [112, 114, 101] ∧ n.data.toList ≠ [115, 101, 99, 116, 105, 111, 110] ∧ n.data.toList ≠ [116, 97, 98, 108, 101] ∧ n.data.toList ≠ [117, 108] ∧ n.data.toList ≠ [100, 100] ∧ n.data.toList ≠ [100, 116] ∧ n.data.toList ≠ [104, 49] ∧ n.data.toList ≠ [104, 50] ∧ n.data.toList ≠ [104, 51] ∧ n.data.toList ≠ [104, 52] ∧ n.data.toList ≠ [104, 53] ∧ n.data.toList ≠ [104, 54] := by simpa [blockNL] using hk
    clear hk
    obtain ⟨tn0, tn1, tn2, tn3, tn4, tn5, tn6, tn7, tn8, tn9, tn10, tn11, tn12, tn13, tn14, tn15, tn16, tn17, tn18, tn19, tn20, tn21, tn22, tn23, tn24, tn25, tn26, tn27, tn28, tn29, tn30⟩ := hc
    have t0 : (n.toList == [97, 100, 100, 114, 101, 115, 115]) = false := beq_eq_false_iff_ne.2 (by rw [bytes_list]; exact tn0)
    have t1 : (n.toList == [97, 114, 116, 105, 99, 108, 101]) = false := beq_eq_false_iff_ne.2 (by rw [bytes_list]; exact tn1)
    have t2 : (n.toList == [97, 115, 105, 100, 101]) = false := beq_eq_false_iff_ne.2 (by rw [bytes_list]; exact tn2)
    have t3 : (n.toList == [98, 108, 111, 99, 107, 113, 117, 111, 116, 101]) = false := beq_eq_false_iff_ne.2 (by rw [bytes_list]; exact tn3)
    have t4 : (n.toList == [99, 101, 110, 116, 101, 114]) = false := beq_eq_false_iff_ne.2 (by rw [bytes_list]; exact tn4)
    have t5 : (n.toList == [100, 101, 116, 97, 105, 108, 115]) = false := beq_eq_false_iff_ne.2 (by rw [bytes_list]; exact tn5)
    have t6 : (n.toList == [100, 105, 118]) = false := beq_eq_false_iff_ne.2 (by rw [bytes_list]; exact tn6)
    have t7 : (n.toList == [100, 108]) = false := beq_eq_false_iff_ne.2 (by rw [bytes_list]; exact tn7)
    have t8 : (n.toList == [102, 105, 101, 108, 100, 115, 101, 116]) = false := beq_eq_false_iff_ne.2 (by rw [bytes_list]; exact tn8)
    have t9 : (n.toList == [102, 105, 103, 117, 114, 101]) = false := beq_eq_false_iff_ne.2 (by rw [bytes_list]; exact tn9)
    have t10 : (n.toList == [102, 111, 111, 116, 101, 114]) = false := beq_eq_false_iff_ne.2 (by rw [bytes_list]; exact tn10)
    have t11 : (n.toList == [102, 111, 114, 109]) = false := beq_eq_false_iff_ne.2 (by rw [bytes_list]; exact tn11)
    have t12 : (n.toList == [104, 101, 97, 100, 101, 114]) = false := beq_eq_false_iff_ne.2 (by rw [bytes_list]; exact tn12)
    have t13 : (n.toList == [104, 114]) = false := beq_eq_false_iff_ne.2 (by rw [bytes_list]; exact tn13)
    have t14 : (n.toList == [108, 105]) = false := beq_eq_false_iff_ne.2 (by rw [bytes_list]; exact tn14)
    have t15 : (n.toList == [109, 97, 105, 110]) = false := beq_eq_false_iff_ne.2 (by rw [bytes_list]; exact tn15)
    have t16 : (n.toList == [110, 97, 118]) = false := beq_eq_false_iff_ne.2 (by rw [bytes_list]; exact tn16)
    have t17 : (n.toList == [111, 108]) = false := beq_eq_false_iff_ne.2 (by rw [bytes_list]; exact tn17)
    have t18 : (n.toList == [112]) = false := beq_eq_false_iff_ne.2 (by rw [bytes_list]; exact tn18)
    have t19 : (n.toList == [112, 114, 101]) = false := beq_eq_false_iff_ne.2 (by rw [bytes_list]; exact tn19)
    have t20 : (n.toList == [115, 101, 99, 116, 105, 111, 110]) = false := beq_eq_false_iff_ne.2 (by rw [bytes_list]; exact tn20)
    have t21 : (n.toList == [116, 97, 98, 108, 101]) = false := beq_eq_false_iff_ne.2 (by rw [bytes_list]; exact tn21)
    have t22 : (n.toList == [117, 108]) = false := beq_eq_false_iff_ne.2 (by rw [bytes_list]; exact tn22)
    have t23 : (n.toList == [100, 100]) = false := beq_eq_false_iff_ne.2 (by rw [bytes_list]; exact tn23)
    have t24 : (n.toList == [100, 116]) = false := beq_eq_false_iff_ne.2 (by rw [bytes_list]; exact tn24)
    have t25 : (n.toList == [104, 49]) = false := beq_eq_false_iff_ne.2 (by rw [bytes_list]; exact tn25)
    have t26 : (n.toList == [104, 50]) = false := beq_eq_false_iff_ne.2 (by rw [bytes_list]; exact tn26)
    have t27 : (n.toList == [104, 51]) = false := beq_eq_false_iff_ne.2 (by rw [bytes_list]; exact tn27)
    have t28 : (n.toList == [104, 52]) = false := beq_eq_false_iff_ne.2 (by rw [bytes_list]; exact tn28)
    have t29 : (n.toList == [104, 53]) = false := beq_eq_false_iff_ne.2 (by rw [bytes_list]; exact tn29)
    have t30 : (n.toList == [104, 54]) = false := beq_eq_false_iff_ne.2 (by rw [bytes_list]; exact tn30)
    clear tn0 tn1 tn2 tn3 tn4 tn5 tn6 tn7 tn8 tn9 tn10 tn11 tn12 tn13 tn14 tn15 tn16 tn17 tn18 tn19 tn20 tn21 tn22 tn23 tn24 tn25 tn26 tn27 tn28 tn29 tn30
    go_enter Tryz.func161, Tryz.ntmps161
    go_wp2_with fail
    go_ret
    exact ⟨rfl, rfl⟩
set_option maxHeartbeats 8000000 in
theorem rhead14_any (n : ByteArray) (w : World) : Calls Tryz.prog 162 #[.string n] w fun e w' => e = .returned (.bool (headNL.contains n.data.toList)) ∧ w = w' := by
  cases hk : headNL.contains n.data.toList with
  | true =>
    have hc : n.data.toList = [104, 49] ∨ n.data.toList = [104, 50] ∨ n.data.toList = [104, 51] ∨ n.data.toList = [104, 52] ∨ n.data.toList = [104, 53] ∨ n.data.toList = [104, 54] := by simpa [headNL] using hk
    clear hk
    rcases hc with h | h | h | h | h | h
    · obtain rfl : n = ⟨#[104, 49]⟩ := ext_list h
      clear h
      go_enter Tryz.func162, Tryz.ntmps162
      go_wp2_with fail
      go_ret
      exact ⟨rfl, rfl⟩
    · obtain rfl : n = ⟨#[104, 50]⟩ := ext_list h
      clear h
      go_enter Tryz.func162, Tryz.ntmps162
      go_wp2_with fail
      go_ret
      exact ⟨rfl, rfl⟩
    · obtain rfl : n = ⟨#[104, 51]⟩ := ext_list h
      clear h
      go_enter Tryz.func162, Tryz.ntmps162
      go_wp2_with fail
      go_ret
      exact ⟨rfl, rfl⟩
    · obtain rfl : n = ⟨#[104, 52]⟩ := ext_list h
      clear h
      go_enter Tryz.func162, Tryz.ntmps162
      go_wp2_with fail
      go_ret
      exact ⟨rfl, rfl⟩
    · obtain rfl : n = ⟨#[104, 53]⟩ := ext_list h
      clear h
      go_enter Tryz.func162, Tryz.ntmps162
      go_wp2_with fail
      go_ret
      exact ⟨rfl, rfl⟩
    · obtain rfl : n = ⟨#[104, 54]⟩ := ext_list h
      clear h
      go_enter Tryz.func162, Tryz.ntmps162
      go_wp2_with fail
      go_ret
      exact ⟨rfl, rfl⟩
  | false =>
    by_cases hz : n.size = 2
    · have z0 : 0 < n.size := by omega
      have z1 : 1 < n.size := by omega
      have hk2 : headNL.contains [n[0], n[1]] = false := by
        have e : n.data.toList = [n[0], n[1]] := by
          have := drop_cons n 0 z0
          rw [List.drop_zero] at this
          rw [this, drop_cons n 1 z1, drop_nil n 2 (by omega)]
        rw [← e]; exact hk
      have tz : ((n.size : Int) == 2) = true := by rw [beq_iff_eq]; omega
      clear hk hz
      by_cases ha : n[0] = 104
      · have t0 : ((n[0].toNat : Int) == 104) = true := tT 104 ha (by omega)
        by_cases h1 : n[1].toNat < 49
        · have t1 : decide ((49 : Int) ≤ (n[1].toNat : Int)) = false := decide_eq_false (by omega)
          clear hk2 h1 ha
          go_enter Tryz.func162, Tryz.ntmps162
          go_wp2_with fail
          go_ret
          exact ⟨rfl, rfl⟩
        · have t1 : decide ((49 : Int) ≤ (n[1].toNat : Int)) = true := decide_eq_true (by omega)
          have h2 : 54 < n[1].toNat := by
            refine Decidable.byContradiction fun h2 => ?_
            have hb := (u8_all (p := fun b => 49 ≤ b.toNat → b.toNat ≤ 54 → headNL.contains [104, b] = true) (by decide +kernel) n[1]) (by omega) (by omega)
            rw [ha, hb] at hk2; cases hk2
          have t2 : decide ((n[1].toNat : Int) ≤ 54) = false := decide_eq_false (by omega)
          clear hk2 h1 h2 ha
          go_enter Tryz.func162, Tryz.ntmps162
          go_wp2_with fail
          go_ret
          exact ⟨rfl, rfl⟩
      · have t0 : ((n[0].toNat : Int) == 104) = false := tF 104 ha (by omega)
        clear hk2 ha
        go_enter Tryz.func162, Tryz.ntmps162
        go_wp2_with fail
        go_ret
        exact ⟨rfl, rfl⟩
    · have t0 : ((n.size : Int) == 2) = false := beq_eq_false_iff_ne.2 (by omega)
      clear hk hz
      go_enter Tryz.func162, Tryz.ntmps162
      go_wp2_with fail
      go_ret
      exact ⟨rfl, rfl⟩
theorem rcloses14_pure (n o : List UInt8) (h : o ≠ [112] ∧ o ≠ [100, 100] ∧ o ≠ [100, 116] ∧ o ≠ [116, 100] ∧ o ≠ [116, 104] ∧ o ≠ [108, 105] ∧ o ≠ [97] ∧ o ≠ [111, 112, 116, 105, 111, 110] ∧ o ≠ [116, 114] ∧ o ≠ [110, 111, 98, 114] ∧ o ≠ [98, 117, 116, 116, 111, 110]) : closesB n o = (headNB o && headNB n) := by
  unfold closesB
  rw [if_neg h.1, if_neg (fun e => e.elim h.2.1 h.2.2.1), if_neg (fun e => e.elim h.2.2.2.1 h.2.2.2.2.1), if_neg]
  have h2 := h.2.2.2.2.2
  simp only [sameL, List.contains_cons, List.contains_nil, Bool.or_false, Bool.or_eq_true, beq_iff_eq, not_or]
  exact h2
set_option maxHeartbeats 8000000 in
theorem rcloses14_any (n o : ByteArray) (w : World) : Calls Tryz.prog 136 #[.string n, .string o] w fun e w' => e = .returned (.bool (closesB n.data.toList o.data.toList)) ∧ w = w' := by
  by_cases h0 : o.data.toList = [112]
  · obtain rfl : o = ⟨#[112]⟩ := ext_list h0
    have hb := rblock14_any n w
    have he : closesB n.data.toList (⟨#[112]⟩ : ByteArray).data.toList = blockNL.contains n.data.toList := rfl
    rw [he]
    obtain ⟨bb, hbb⟩ : ∃ bb, bb = blockNL.contains n.data.toList := ⟨_, rfl⟩
    rw [← hbb] at hb ⊢
    have HB := hide hb
    clear h0 hb he hbb
    go_enter Tryz.func136, Tryz.ntmps136
    go_wp2_with fail
    refine HB.out.mono ?_
    rintro e w1 ⟨rfl, rfl⟩
    go_wp2_with fail
    go_ret
    exact ⟨rfl, rfl⟩
  by_cases h1 : o.data.toList = [100, 100]
  · obtain rfl : o = ⟨#[100, 100]⟩ := ext_list h1
    clear h0 h1
    by_cases m : n.data.toList = [100, 100]
    · obtain rfl : n = ⟨#[100, 100]⟩ := ext_list m
      clear m
      rw [show closesB (⟨#[100, 100]⟩ : ByteArray).data.toList (⟨#[100, 100]⟩ : ByteArray).data.toList = true by decide]
      go_enter Tryz.func136, Tryz.ntmps136
      go_wp2_with fail
      go_ret
      exact ⟨rfl, rfl⟩
    have m0 := m
    clear m
    by_cases m : n.data.toList = [100, 116]
    · obtain rfl : n = ⟨#[100, 116]⟩ := ext_list m
      clear m
      rw [show closesB (⟨#[100, 116]⟩ : ByteArray).data.toList (⟨#[100, 100]⟩ : ByteArray).data.toList = true by decide]
      go_enter Tryz.func136, Tryz.ntmps136
      go_wp2_with fail
      go_ret
      exact ⟨rfl, rfl⟩
    have m1 := m
    clear m
    have t0 : (n.toList == [100, 100]) = false := beq_eq_false_iff_ne.2 (by rw [bytes_list]; exact m0)
    have t1 : (n.toList == [100, 116]) = false := beq_eq_false_iff_ne.2 (by rw [bytes_list]; exact m1)
    have HE : closesB n.data.toList (⟨#[100, 100]⟩ : ByteArray).data.toList = false := by
      show decide (n.data.toList = [100, 100] ∨ n.data.toList = [100, 116]) = false
      exact decide_eq_false (by simp only [not_or]; exact ⟨m0, m1⟩)
    clear m0 m1
    rw [HE]
    clear HE
    go_enter Tryz.func136, Tryz.ntmps136
    go_wp2_with fail
    go_ret
    exact ⟨rfl, rfl⟩
  by_cases h2 : o.data.toList = [100, 116]
  · obtain rfl : o = ⟨#[100, 116]⟩ := ext_list h2
    clear h0 h1 h2
    by_cases m : n.data.toList = [100, 100]
    · obtain rfl : n = ⟨#[100, 100]⟩ := ext_list m
      clear m
      rw [show closesB (⟨#[100, 100]⟩ : ByteArray).data.toList (⟨#[100, 116]⟩ : ByteArray).data.toList = true by decide]
      go_enter Tryz.func136, Tryz.ntmps136
      go_wp2_with fail
      go_ret
      exact ⟨rfl, rfl⟩
    have m0 := m
    clear m
    by_cases m : n.data.toList = [100, 116]
    · obtain rfl : n = ⟨#[100, 116]⟩ := ext_list m
      clear m
      rw [show closesB (⟨#[100, 116]⟩ : ByteArray).data.toList (⟨#[100, 116]⟩ : ByteArray).data.toList = true by decide]
      go_enter Tryz.func136, Tryz.ntmps136
      go_wp2_with fail
      go_ret
      exact ⟨rfl, rfl⟩
    have m1 := m
    clear m
    have t0 : (n.toList == [100, 100]) = false := beq_eq_false_iff_ne.2 (by rw [bytes_list]; exact m0)
    have t1 : (n.toList == [100, 116]) = false := beq_eq_false_iff_ne.2 (by rw [bytes_list]; exact m1)
    have HE : closesB n.data.toList (⟨#[100, 116]⟩ : ByteArray).data.toList = false := by
      show decide (n.data.toList = [100, 100] ∨ n.data.toList = [100, 116]) = false
      exact decide_eq_false (by simp only [not_or]; exact ⟨m0, m1⟩)
    clear m0 m1
    rw [HE]
    clear HE
    go_enter Tryz.func136, Tryz.ntmps136
    go_wp2_with fail
    go_ret
    exact ⟨rfl, rfl⟩
  by_cases h3 : o.data.toList = [116, 100]
  · obtain rfl : o = ⟨#[116, 100]⟩ := ext_list h3
    clear h0 h1 h2 h3
    by_cases m : n.data.toList = [116, 100]
    · obtain rfl : n = ⟨#[116, 100]⟩ := ext_list m
      clear m
      rw [show closesB (⟨#[116, 100]⟩ : ByteArray).data.toList (⟨#[116, 100]⟩ : ByteArray).data.toList = true by decide]
      go_enter Tryz.func136, Tryz.ntmps136
      go_wp2_with fail
      go_ret
      exact ⟨rfl, rfl⟩
    have m0 := m
    clear m
    by_cases m : n.data.toList = [116, 104]
    · obtain rfl : n = ⟨#[116, 104]⟩ := ext_list m
      clear m
      rw [show closesB (⟨#[116, 104]⟩ : ByteArray).data.toList (⟨#[116, 100]⟩ : ByteArray).data.toList = true by decide]
      go_enter Tryz.func136, Tryz.ntmps136
      go_wp2_with fail
      go_ret
      exact ⟨rfl, rfl⟩
    have m1 := m
    clear m
    by_cases m : n.data.toList = [116, 114]
    · obtain rfl : n = ⟨#[116, 114]⟩ := ext_list m
      clear m
      rw [show closesB (⟨#[116, 114]⟩ : ByteArray).data.toList (⟨#[116, 100]⟩ : ByteArray).data.toList = true by decide]
      go_enter Tryz.func136, Tryz.ntmps136
      go_wp2_with fail
      go_ret
      exact ⟨rfl, rfl⟩
    have m2 := m
    clear m
    have t0 : (n.toList == [116, 100]) = false := beq_eq_false_iff_ne.2 (by rw [bytes_list]; exact m0)
    have t1 : (n.toList == [116, 104]) = false := beq_eq_false_iff_ne.2 (by rw [bytes_list]; exact m1)
    have t2 : (n.toList == [116, 114]) = false := beq_eq_false_iff_ne.2 (by rw [bytes_list]; exact m2)
    have HE : closesB n.data.toList (⟨#[116, 100]⟩ : ByteArray).data.toList = false := by
      show decide (n.data.toList = [116, 100] ∨ n.data.toList = [116, 104] ∨ n.data.toList = [116, 114]) = false
      exact decide_eq_false (by simp only [not_or]; exact ⟨m0, m1, m2⟩)
    clear m0 m1 m2
    rw [HE]
    clear HE
    go_enter Tryz.func136, Tryz.ntmps136
    go_wp2_with fail
    go_ret
    exact ⟨rfl, rfl⟩
  by_cases h4 : o.data.toList = [116, 104]
  · obtain rfl : o = ⟨#[116, 104]⟩ := ext_list h4
    clear h0 h1 h2 h3 h4
    by_cases m : n.data.toList = [116, 100]
    · obtain rfl : n = ⟨#[116, 100]⟩ := ext_list m
      clear m
      rw [show closesB (⟨#[116, 100]⟩ : ByteArray).data.toList (⟨#[116, 104]⟩ : ByteArray).data.toList = true by decide]
      go_enter Tryz.func136, Tryz.ntmps136
      go_wp2_with fail
      go_ret
      exact ⟨rfl, rfl⟩
    have m0 := m
    clear m
    by_cases m : n.data.toList = [116, 104]
    · obtain rfl : n = ⟨#[116, 104]⟩ := ext_list m
      clear m
      rw [show closesB (⟨#[116, 104]⟩ : ByteArray).data.toList (⟨#[116, 104]⟩ : ByteArray).data.toList = true by decide]
      go_enter Tryz.func136, Tryz.ntmps136
      go_wp2_with fail
      go_ret
      exact ⟨rfl, rfl⟩
    have m1 := m
    clear m
    by_cases m : n.data.toList = [116, 114]
    · obtain rfl : n = ⟨#[116, 114]⟩ := ext_list m
      clear m
      rw [show closesB (⟨#[116, 114]⟩ : ByteArray).data.toList (⟨#[116, 104]⟩ : ByteArray).data.toList = true by decide]
      go_enter Tryz.func136, Tryz.ntmps136
      go_wp2_with fail
      go_ret
      exact ⟨rfl, rfl⟩
    have m2 := m
    clear m
    have t0 : (n.toList == [116, 100]) = false := beq_eq_false_iff_ne.2 (by rw [bytes_list]; exact m0)
    have t1 : (n.toList == [116, 104]) = false := beq_eq_false_iff_ne.2 (by rw [bytes_list]; exact m1)
    have t2 : (n.toList == [116, 114]) = false := beq_eq_false_iff_ne.2 (by rw [bytes_list]; exact m2)
    have HE : closesB n.data.toList (⟨#[116, 104]⟩ : ByteArray).data.toList = false := by
      show decide (n.data.toList = [116, 100] ∨ n.data.toList = [116, 104] ∨ n.data.toList = [116, 114]) = false
      exact decide_eq_false (by simp only [not_or]; exact ⟨m0, m1, m2⟩)
    clear m0 m1 m2
    rw [HE]
    clear HE
    go_enter Tryz.func136, Tryz.ntmps136
    go_wp2_with fail
    go_ret
    exact ⟨rfl, rfl⟩
  by_cases h5 : o.data.toList = [108, 105]
  · obtain rfl : o = ⟨#[108, 105]⟩ := ext_list h5
    clear h0 h1 h2 h3 h4 h5
    by_cases m : n.data.toList = [108, 105]
    · obtain rfl : n = ⟨#[108, 105]⟩ := ext_list m
      clear m
      rw [show closesB (⟨#[108, 105]⟩ : ByteArray).data.toList (⟨#[108, 105]⟩ : ByteArray).data.toList = true by decide]
      go_enter Tryz.func136, Tryz.ntmps136
      go_wp2_with fail
      go_ret
      exact ⟨rfl, rfl⟩
    have m0 := m
    clear m
    have t0 : (n.toList == [108, 105]) = false := beq_eq_false_iff_ne.2 (by rw [bytes_list]; exact m0)
    have HE : closesB n.data.toList (⟨#[108, 105]⟩ : ByteArray).data.toList = false := by
      show decide (n.data.toList = [108, 105]) = false
      exact decide_eq_false m0
    clear m0
    rw [HE]
    clear HE
    go_enter Tryz.func136, Tryz.ntmps136
    go_wp2_with fail
    go_ret
    exact ⟨rfl, rfl⟩
  by_cases h6 : o.data.toList = [97]
  · obtain rfl : o = ⟨#[97]⟩ := ext_list h6
    clear h0 h1 h2 h3 h4 h5 h6
    by_cases m : n.data.toList = [97]
    · obtain rfl : n = ⟨#[97]⟩ := ext_list m
      clear m
      rw [show closesB (⟨#[97]⟩ : ByteArray).data.toList (⟨#[97]⟩ : ByteArray).data.toList = true by decide]
      go_enter Tryz.func136, Tryz.ntmps136
      go_wp2_with fail
      go_ret
      exact ⟨rfl, rfl⟩
    have m0 := m
    clear m
    have t0 : (n.toList == [97]) = false := beq_eq_false_iff_ne.2 (by rw [bytes_list]; exact m0)
    have HE : closesB n.data.toList (⟨#[97]⟩ : ByteArray).data.toList = false := by
      show decide (n.data.toList = [97]) = false
      exact decide_eq_false m0
    clear m0
    rw [HE]
    clear HE
    go_enter Tryz.func136, Tryz.ntmps136
    go_wp2_with fail
    go_ret
    exact ⟨rfl, rfl⟩
  by_cases h7 : o.data.toList = [111, 112, 116, 105, 111, 110]
  · obtain rfl : o = ⟨#[111, 112, 116, 105, 111, 110]⟩ := ext_list h7
    clear h0 h1 h2 h3 h4 h5 h6 h7
    by_cases m : n.data.toList = [111, 112, 116, 105, 111, 110]
    · obtain rfl : n = ⟨#[111, 112, 116, 105, 111, 110]⟩ := ext_list m
      clear m
      rw [show closesB (⟨#[111, 112, 116, 105, 111, 110]⟩ : ByteArray).data.toList (⟨#[111, 112, 116, 105, 111, 110]⟩ : ByteArray).data.toList = true by decide]
      go_enter Tryz.func136, Tryz.ntmps136
      go_wp2_with fail
      go_ret
      exact ⟨rfl, rfl⟩
    have m0 := m
    clear m
    have t0 : (n.toList == [111, 112, 116, 105, 111, 110]) = false := beq_eq_false_iff_ne.2 (by rw [bytes_list]; exact m0)
    have HE : closesB n.data.toList (⟨#[111, 112, 116, 105, 111, 110]⟩ : ByteArray).data.toList = false := by
      show decide (n.data.toList = [111, 112, 116, 105, 111, 110]) = false
      exact decide_eq_false m0
    clear m0
    rw [HE]
    clear HE
    go_enter Tryz.func136, Tryz.ntmps136
    go_wp2_with fail
    go_ret
    exact ⟨rfl, rfl⟩
  by_cases h8 : o.data.toList = [116, 114]
  · obtain rfl : o = ⟨#[116, 114]⟩ := ext_list h8
    clear h0 h1 h2 h3 h4 h5 h6 h7 h8
    by_cases m : n.data.toList = [116, 114]
    · obtain rfl : n = ⟨#[116, 114]⟩ := ext_list m
      clear m
      rw [show closesB (⟨#[116, 114]⟩ : ByteArray).data.toList (⟨#[116, 114]⟩ : ByteArray).data.toList = true by decide]
      go_enter Tryz.func136, Tryz.ntmps136
      go_wp2_with fail
      go_ret
      exact ⟨rfl, rfl⟩
    have m0 := m
    clear m
    have t0 : (n.toList == [116, 114]) = false := beq_eq_false_iff_ne.2 (by rw [bytes_list]; exact m0)
    have HE : closesB n.data.toList (⟨#[116, 114]⟩ : ByteArray).data.toList = false := by
      show decide (n.data.toList = [116, 114]) = false
      exact decide_eq_false m0
    clear m0
    rw [HE]
    clear HE
    go_enter Tryz.func136, Tryz.ntmps136
    go_wp2_with fail
    go_ret
    exact ⟨rfl, rfl⟩
  by_cases h9 : o.data.toList = [110, 111, 98, 114]
  · obtain rfl : o = ⟨#[110, 111, 98, 114]⟩ := ext_list h9
    clear h0 h1 h2 h3 h4 h5 h6 h7 h8 h9
    by_cases m : n.data.toList = [110, 111, 98, 114]
    · obtain rfl : n = ⟨#[110, 111, 98, 114]⟩ := ext_list m
      clear m
      rw [show closesB (⟨#[110, 111, 98, 114]⟩ : ByteArray).data.toList (⟨#[110, 111, 98, 114]⟩ : ByteArray).data.toList = true by decide]
      go_enter Tryz.func136, Tryz.ntmps136
      go_wp2_with fail
      go_ret
      exact ⟨rfl, rfl⟩
    have m0 := m
    clear m
    have t0 : (n.toList == [110, 111, 98, 114]) = false := beq_eq_false_iff_ne.2 (by rw [bytes_list]; exact m0)
    have HE : closesB n.data.toList (⟨#[110, 111, 98, 114]⟩ : ByteArray).data.toList = false := by
      show decide (n.data.toList = [110, 111, 98, 114]) = false
      exact decide_eq_false m0
    clear m0
    rw [HE]
    clear HE
    go_enter Tryz.func136, Tryz.ntmps136
    go_wp2_with fail
    go_ret
    exact ⟨rfl, rfl⟩
  by_cases h10 : o.data.toList = [98, 117, 116, 116, 111, 110]
  · obtain rfl : o = ⟨#[98, 117, 116, 116, 111, 110]⟩ := ext_list h10
    clear h0 h1 h2 h3 h4 h5 h6 h7 h8 h9 h10
    by_cases m : n.data.toList = [98, 117, 116, 116, 111, 110]
    · obtain rfl : n = ⟨#[98, 117, 116, 116, 111, 110]⟩ := ext_list m
      clear m
      rw [show closesB (⟨#[98, 117, 116, 116, 111, 110]⟩ : ByteArray).data.toList (⟨#[98, 117, 116, 116, 111, 110]⟩ : ByteArray).data.toList = true by decide]
      go_enter Tryz.func136, Tryz.ntmps136
      go_wp2_with fail
      go_ret
      exact ⟨rfl, rfl⟩
    have m0 := m
    clear m
    have t0 : (n.toList == [98, 117, 116, 116, 111, 110]) = false := beq_eq_false_iff_ne.2 (by rw [bytes_list]; exact m0)
    have HE : closesB n.data.toList (⟨#[98, 117, 116, 116, 111, 110]⟩ : ByteArray).data.toList = false := by
      show decide (n.data.toList = [98, 117, 116, 116, 111, 110]) = false
      exact decide_eq_false m0
    clear m0
    rw [HE]
    clear HE
    go_enter Tryz.func136, Tryz.ntmps136
    go_wp2_with fail
    go_ret
    exact ⟨rfl, rfl⟩
  rw [rcloses14_pure n.data.toList o.data.toList ⟨h0, h1, h2, h3, h4, h5, h6, h7, h8, h9, h10⟩]
  have t0 : (o.toList == [112]) = false := beq_eq_false_iff_ne.2 (by rw [bytes_list]; exact h0)
  have t1 : (o.toList == [100, 100]) = false := beq_eq_false_iff_ne.2 (by rw [bytes_list]; exact h1)
  have t2 : (o.toList == [100, 116]) = false := beq_eq_false_iff_ne.2 (by rw [bytes_list]; exact h2)
  have t3 : (o.toList == [116, 100]) = false := beq_eq_false_iff_ne.2 (by rw [bytes_list]; exact h3)
  have t4 : (o.toList == [116, 104]) = false := beq_eq_false_iff_ne.2 (by rw [bytes_list]; exact h4)
  have t5 : (o.toList == [108, 105]) = false := beq_eq_false_iff_ne.2 (by rw [bytes_list]; exact h5)
  have t6 : (o.toList == [97]) = false := beq_eq_false_iff_ne.2 (by rw [bytes_list]; exact h6)
  have t7 : (o.toList == [111, 112, 116, 105, 111, 110]) = false := beq_eq_false_iff_ne.2 (by rw [bytes_list]; exact h7)
  have t8 : (o.toList == [116, 114]) = false := beq_eq_false_iff_ne.2 (by rw [bytes_list]; exact h8)
  have t9 : (o.toList == [110, 111, 98, 114]) = false := beq_eq_false_iff_ne.2 (by rw [bytes_list]; exact h9)
  have t10 : (o.toList == [98, 117, 116, 116, 111, 110]) = false := beq_eq_false_iff_ne.2 (by rw [bytes_list]; exact h10)
  clear h0 h1 h2 h3 h4 h5 h6 h7 h8 h9 h10
  have hh : ∀ (s : ByteArray) (bb : Bool), headNB s.data.toList = bb → Calls Tryz.prog 162 #[.string s] w fun e w' => e = .returned (.bool bb) ∧ w = w' := fun s bb e => by rw [← e]; exact rhead14_any s w
  cases ho : headNB o.data.toList with
  | false =>
    have HO := hide (hh o false ho)
    clear hh ho
    go_enter Tryz.func136, Tryz.ntmps136
    go_wp2_with fail
    refine HO.out.mono ?_
    rintro e w1 ⟨rfl, rfl⟩
    go_wp2_with fail
    go_ret
    exact ⟨rfl, rfl⟩
  | true =>
    have HO := hide (hh o true ho)
    obtain ⟨bb, hbb⟩ : ∃ bb, bb = headNB n.data.toList := ⟨_, rfl⟩
    have HN := hide (hh n bb hbb.symm)
    rw [← hbb]
    clear hh ho hbb
    go_enter Tryz.func136, Tryz.ntmps136
    go_wp2_with fail
    refine HO.out.mono ?_
    rintro e w1 ⟨rfl, rfl⟩
    go_wp2_with fail
    refine HN.out.mono ?_
    rintro e w1 ⟨rfl, rfl⟩
    go_wp2_with fail
    go_ret
    exact ⟨rfl, rfl⟩
end Go.Proofs.YtiejmkjpgjbodaaGreatDoor

namespace Go.Proofs.YtiejmkjpgjbodaaGreatDoor
open Go.RowKit
set_option linter.unusedVariables false
set_option linter.unusedSimpArgs false
set_option maxRecDepth 100000
set_option maxHeartbeats 8000000 in
theorem rwall14_any (n : ByteArray) (w : World) : Calls Tryz.prog 95 #[.string n] w fun e w' => e = .returned (.bool (wallL.contains n.data.toList)) ∧ w = w' := by
  cases hk : wallL.contains n.data.toList with
  | true =>
    have hc : n.data.toList = [116, 97, 98, 108, 101] ∨ n.data.toList = [98, 117, 116, 116, 111, 110] ∨ n.data.toList = [117, 108] ∨ n.data.toList = [111, 108] ∨ n.data.toList = [100, 108] ∨ n.data.toList = [115, 118, 103] ∨ n.data.toList = [109, 97, 116, 104] ∨ n.data.toList = [116, 101, 109, 112, 108, 97, 116, 101] ∨ n.data.toList = [111, 98, 106, 101, 99, 116] ∨ n.data.toList = [97, 112, 112, 108, 101, 116] ∨ n.data.toList = [109, 97, 114, 113, 117, 101, 101] := by simpa [wallL] using hk
    clear hk
    rcases hc with h | h | h | h | h | h | h | h | h | h | h
    · obtain rfl : n = ⟨#[116, 97, 98, 108, 101]⟩ := ext_list h
      clear h
      go_enter Tryz.func95, Tryz.ntmps95
      go_wp2_with fail
      go_ret
      exact ⟨rfl, rfl⟩
    · obtain rfl : n = ⟨#[98, 117, 116, 116, 111, 110]⟩ := ext_list h
      clear h
      go_enter Tryz.func95, Tryz.ntmps95
      go_wp2_with fail
      go_ret
      exact ⟨rfl, rfl⟩
    · obtain rfl : n = ⟨#[117, 108]⟩ := ext_list h
      clear h
      go_enter Tryz.func95, Tryz.ntmps95
      go_wp2_with fail
      go_ret
      exact ⟨rfl, rfl⟩
    · obtain rfl : n = ⟨#[111, 108]⟩ := ext_list h
      clear h
      go_enter Tryz.func95, Tryz.ntmps95
      go_wp2_with fail
      go_ret
      exact ⟨rfl, rfl⟩
    · obtain rfl : n = ⟨#[100, 108]⟩ := ext_list h
      clear h
      go_enter Tryz.func95, Tryz.ntmps95
      go_wp2_with fail
      go_ret
      exact ⟨rfl, rfl⟩
    · obtain rfl : n = ⟨#[115, 118, 103]⟩ := ext_list h
      clear h
      go_enter Tryz.func95, Tryz.ntmps95
      go_wp2_with fail
      go_ret
      exact ⟨rfl, rfl⟩
    · obtain rfl : n = ⟨#[109, 97, 116, 104]⟩ := ext_list h
      clear h
      go_enter Tryz.func95, Tryz.ntmps95
      go_wp2_with fail
      go_ret
      exact ⟨rfl, rfl⟩
    · obtain rfl : n = ⟨#[116, 101, 109, 112, 108, 97, 116, 101]⟩ := ext_list h
      clear h
      go_enter Tryz.func95, Tryz.ntmps95
      go_wp2_with fail
      go_ret
      exact ⟨rfl, rfl⟩
    · obtain rfl : n = ⟨#[111, 98, 106, 101, 99, 116]⟩ := ext_list h
      clear h
      go_enter Tryz.func95, Tryz.ntmps95
      go_wp2_with fail
      go_ret
      exact ⟨rfl, rfl⟩
    · obtain rfl : n = ⟨#[97, 112, 112, 108, 101, 116]⟩ := ext_list h
      clear h
      go_enter Tryz.func95, Tryz.ntmps95
      go_wp2_with fail
      go_ret
      exact ⟨rfl, rfl⟩
    · obtain rfl : n = ⟨#[109, 97, 114, 113, 117, 101, 101]⟩ := ext_list h
      clear h
      go_enter Tryz.func95, Tryz.ntmps95
      go_wp2_with fail
      go_ret
      exact ⟨rfl, rfl⟩
  | false =>
    have hc : n.data.toList ≠ [116, 97, 98, 108, 101] ∧ n.data.toList ≠ [98, 117, 116, 116, 111, 110] ∧ n.data.toList ≠ [117, 108] ∧ n.data.toList ≠ [111, 108] ∧ n.data.toList ≠ [100, 108] ∧ n.data.toList ≠ [115, 118, 103] ∧ n.data.toList ≠ [109, 97, 116, 104] ∧ n.data.toList ≠ [116, 101, 109, 112, 108, 97, 116, 101] ∧ n.data.toList ≠ [111, 98, 106, 101, 99, 116] ∧ n.data.toList ≠ [97, 112, 112, 108, 101, 116] ∧ n.data.toList ≠ [109, 97, 114, 113, 117, 101, 101] := by simpa [wallL] using hk
    clear hk
    obtain ⟨tn0, tn1, tn2, tn3, tn4, tn5, tn6, tn7, tn8, tn9, tn10⟩ := hc
    have t0 : (n.toList == [116, 97, 98, 108, 101]) = false := beq_eq_false_iff_ne.2 (by rw [bytes_list]; exact tn0)
    have t1 : (n.toList == [98, 117, 116, 116, 111, 110]) = false := beq_eq_false_iff_ne.2 (by rw [bytes_list]; exact tn1)
    have t2 : (n.toList == [117, 108]) = false := beq_eq_false_iff_ne.2 (by rw [bytes_list]; exact tn2)
    have t3 : (n.toList == [111, 108]) = false := beq_eq_false_iff_ne.2 (by rw [bytes_list]; exact tn3)
    have t4 : (n.toList == [100, 108]) = false := beq_eq_false_iff_ne.2 (by rw [bytes_list]; exact tn4)
    have t5 : (n.toList == [115, 118, 103]) = false := beq_eq_false_iff_ne.2 (by rw [bytes_list]; exact tn5)
    have t6 : (n.toList == [109, 97, 116, 104]) = false := beq_eq_false_iff_ne.2 (by rw [bytes_list]; exact tn6)
    have t7 : (n.toList == [116, 101, 109, 112, 108, 97, 116, 101]) = false := beq_eq_false_iff_ne.2 (by rw [bytes_list]; exact tn7)
    have t8 : (n.toList == [111, 98, 106, 101, 99, 116]) = false := beq_eq_false_iff_ne.2 (by rw [bytes_list]; exact tn8)
    have t9 : (n.toList == [97, 112, 112, 108, 101, 116]) = false := beq_eq_false_iff_ne.2 (by rw [bytes_list]; exact tn9)
    have t10 : (n.toList == [109, 97, 114, 113, 117, 101, 101]) = false := beq_eq_false_iff_ne.2 (by rw [bytes_list]; exact tn10)
    clear tn0 tn1 tn2 tn3 tn4 tn5 tn6 tn7 tn8 tn9 tn10
    go_enter Tryz.func95, Tryz.ntmps95
    go_wp2_with fail
    go_ret
    exact ⟨rfl, rfl⟩
end Go.Proofs.YtiejmkjpgjbodaaGreatDoor

namespace Go.Proofs.YtiejmkjpgjbodaaGreatDoor
open Go.RowKit
set_option linter.unusedVariables false
set_option linter.unusedSimpArgs false
set_option maxRecDepth 100000
def nmA (l : List ArV) (opn : List Nat) (i : Nat) : List UInt8 := match opn[i]? with
  | some o => (match l[o]? with
    | some p => p.h.name
    | none => [])
  | none => []
theorem nmA_at {l : List ArV} {opn : List Nat} {i o : Nat} {p : ArV} (ho : opn[i]? = some o) (hp : l[o]? = some p) : nmA l opn i = p.h.name := by
  unfold nmA
  rw [ho]
  simp only [hp]
def EndR (B b : Nat) (r o : Value) (l : List ArV) (opn : List Nat) (W0 : World) (z : Nat) (w' : World) : Prop := if z = 0 then AB B b r o l opn W0 w' else ∃ o', AB B b r o' l (opn.take z) W0 w'
def OpnOK (l : List ArV) (opn : List Nat) : Prop := ∀ i, i < opn.length → ∃ o p, opn[i]? = some o ∧ l[o]? = some p
set_option maxHeartbeats 16000000 in
theorem arShut_any (B b : Nat) (r o : Value) (l : List ArV) (opn : List Nat) (W0 w : World) (h : AB B b r o l opn W0 w) (x : ByteArray) (m : Nat) (hok : OpnOK l opn) (hlen : opn.length = m + 1) (hm : m ≤ 100000) (hl : l.length ≤ 100000) :
    Calls Tryz.prog 94 #[.pointer (some ⟨b, 0, none⟩), .string x] w fun e w' => e = .returned (.int .i64 (backF (closesB x.data.toList) (nmA l opn) m : Nat)) ∧ Below w.heap.size w w' := by
  have hl0 : 0 < l.length := by
    obtain ⟨o1, p1, _, hp1⟩ := hok 0 (by omega)
    have := (List.getElem?_eq_some_iff.1 hp1).1
    omega
  obtain ⟨g, rc, rfl, -, -, -, -⟩ := own_form h.row hl0
  obtain ⟨go, oc, rfl, -, -, -, -⟩ := own_form h.opn (by omega)
  have d1 := h.c1
  rw [hlen] at d1
  have HH := hide h
  have HOK := hide hok
  have HLEN := hide hlen
  have s1 : wrap64 (m : Int) = (m : Int) := by unfold wrap64; omega
  have HM := hide hm
  clear h hok hl0 hlen hm
  go_enter Tryz.func94, Tryz.ntmps94
  go_wp2_with fail
  rw [s1]
  go_loopw [5] (fun iv wr => ∃ k : Nat, k ≤ m ∧ iv = .int .i64 k ∧ Hid (backF (closesB x.data.toList) (nmA l opn) m = backF (closesB x.data.toList) (nmA l opn) k) ∧ Hid (Below w.heap.size w wr)) (fun iv _ => (intOf iv).toNat)
  case atStart => exact ⟨m, Nat.le_refl _, rfl, hide rfl, hide (Below.refl _ _)⟩
  case round =>
    obtain ⟨k, hk, rfl, HF, HB⟩ := hrel
    cases k with
    | zero =>
      go_wp2_with fail
      go_ret
      exact ⟨by rw [HF.out]; rfl, HB.out⟩
    | succ j =>
      obtain ⟨o1, p1, ho1, hp1⟩ := HOK.out (j + 1) (by have := HLEN.out; clear s1; omega)
      have hh := HH.out.kept HB.out
      have c0 := hh.c0
      have c1 := hh.c1
      have c2 := own_int hh.opn ho1 rfl
      obtain ⟨c3, _, _, _, _, _⟩ := hh.node hp1
      have hol : o1 < l.length := (List.getElem?_eq_some_iff.1 hp1).1
      rw [HLEN.out] at c1
      have hnm := nmA_at ho1 hp1
      obtain ⟨X, hX⟩ : ∃ X, X = str p1.h.name := ⟨_, rfl⟩
      have hXl : X.data.toList = nmA l opn (j + 1) := by rw [hX, str_toList, hnm]
      rw [← hX] at c3
      have HXL := hide hXl
      have i1 : (o1 : Int) < (l.length : Int) := by clear s1; omega
      have i2 : (j : Int) + 1 < (m : Int) + 1 := by clear s1; omega
      have i3 : ((j : Int) + 1).toNat = j + 1 := by clear s1; omega
      have i4 : (0 : Int) < (j : Int) + 1 := by clear s1; omega
      have i5 : (0 : Int) ≤ (j : Int) + 1 := by clear s1; omega
      have i6 : wrap64 (j : Int) = (j : Int) := by clear s1 i3; have := HM.out; unfold wrap64; omega
      have HCL : Hid (∀ w', Calls Tryz.prog 136 #[.string x, .string X] w' fun e w'' => e = .returned (.bool (closesB x.data.toList X.data.toList)) ∧ w' = w'') := hide (fun w' => rcloses14_any x X w')
      have HWL : Hid (∀ w', Calls Tryz.prog 95 #[.string X] w' fun e w'' => e = .returned (.bool (wallB X.data.toList)) ∧ w' = w'') := hide (fun w' => rwall14_any X w')
      clear hh hnm hX hXl ho1 hp1 hol hl
      go_wp2_with fail
      go_region
      go_wp2_with fail
      refine (HCL.out _).mono ?_
      rintro e w1 ⟨rfl, rfl⟩
      cases hc : closesB x.data.toList X.data.toList with
      | true =>
        have HE : Hid (backF (closesB x.data.toList) (nmA l opn) (j + 1) = j + 1) := hide (by rw [backF, if_pos (by rw [← HXL.out]; exact hc)])
        clear hc
        go_wp2_with fail
        go_ret
        exact ⟨by rw [HF.out, HE.out]; rfl, HB.out.drew⟩
      | false =>
        go_wp2_with fail
        refine (HWL.out _).mono ?_
        rintro e w2 ⟨rfl, rfl⟩
        cases hw : wallB X.data.toList with
        | true =>
          have HE : Hid (backF (closesB x.data.toList) (nmA l opn) (j + 1) = 0) := hide (by rw [backF, if_neg (by rw [← HXL.out, hc]; decide), if_pos (by rw [← HXL.out]; exact hw)])
          clear hc hw
          go_wp2_with fail
          go_ret
          exact ⟨by rw [HF.out, HE.out]; rfl, HB.out.drew⟩
        | false =>
          have HE : Hid (backF (closesB x.data.toList) (nmA l opn) (j + 1) = backF (closesB x.data.toList) (nmA l opn) j) := hide (by rw [backF, if_neg (by rw [← HXL.out, hc]; decide), if_neg (by rw [← HXL.out, hw]; decide)])
          clear hc hw
          go_wp2_with fail
          go_roundw
          case rel => exact ⟨j, by clear s1 i6; omega, by rw [i6], hide (by rw [HF.out, HE.out]), hide HB.out.drew⟩
          case measure => rw [i6]; clear s1 i6 i3; (try simp [intOf]); (try omega)
set_option maxHeartbeats 16000000 in
theorem arEnd_any (B b : Nat) (r o : Value) (l : List ArV) (opn : List Nat) (W0 w : World) (h : AB B b r o l opn W0 w) (x : ByteArray) (m : Nat) (hok : OpnOK l opn) (hlen : opn.length = m + 1) (hm : m ≤ 100000) (hl : l.length ≤ 100000) :
    Calls Tryz.prog 44 #[.pointer (some ⟨b, 0, none⟩), .string x] w fun e w' => e = .returned (.tuple #[]) ∧ EndR B b r o l opn W0 (backF (fun o => o == x.data.toList) (nmA l opn) m) w' := by
  have hl0 : 0 < l.length := by
    obtain ⟨o1, p1, _, hp1⟩ := hok 0 (by omega)
    have := (List.getElem?_eq_some_iff.1 hp1).1
    omega
  obtain ⟨g, rc, rfl, -, -, -, -⟩ := own_form h.row hl0
  obtain ⟨go, oc, rfl, -, -, -, -⟩ := own_form h.opn (by omega)
  have d1 := h.c1
  rw [hlen] at d1
  have HH := hide h
  have HOK := hide hok
  have HLEN := hide hlen
  have s1 : wrap64 (m : Int) = (m : Int) := by unfold wrap64; omega
  have HM := hide hm
  clear h hok hl0 hlen hm
  go_enter Tryz.func44, Tryz.ntmps44
  go_wp2_with fail
  rw [s1]
  go_loopw [4] (fun iv wr => ∃ k : Nat, k ≤ m ∧ iv = .int .i64 k ∧ Hid (backF (fun o => o == x.data.toList) (nmA l opn) m = backF (fun o => o == x.data.toList) (nmA l opn) k) ∧ Hid (Below w.heap.size w wr)) (fun iv _ => (intOf iv).toNat)
  case atStart => exact ⟨m, Nat.le_refl _, rfl, hide rfl, hide (Below.refl _ _)⟩
  case round =>
    obtain ⟨k, hk, rfl, HF, HB⟩ := hrel
    cases k with
    | zero =>
      go_wp2_with fail
      go_end0
      rw [HF.out]
      exact ⟨rfl, by rw [show backF (fun o => o == x.data.toList) (nmA l opn) 0 = 0 from rfl]; unfold EndR; rw [if_pos rfl]; exact HH.out.kept HB.out⟩
    | succ j =>
      obtain ⟨o1, p1, ho1, hp1⟩ := HOK.out (j + 1) (by have := HLEN.out; clear s1; omega)
      have hh := HH.out.kept HB.out
      have c0 := hh.c0
      have c1 := hh.c1
      have c2 := own_int hh.opn ho1 rfl
      obtain ⟨c3, _, _, _, _, _⟩ := hh.node hp1
      have hol : o1 < l.length := (List.getElem?_eq_some_iff.1 hp1).1
      rw [HLEN.out] at c1
      have hnm := nmA_at ho1 hp1
      obtain ⟨X, hX⟩ : ∃ X, X = str p1.h.name := ⟨_, rfl⟩
      have hXl : X.data.toList = nmA l opn (j + 1) := by rw [hX, str_toList, hnm]
      rw [← hX] at c3
      have HXL := hide hXl
      have i1 : (o1 : Int) < (l.length : Int) := by clear s1; omega
      have i2 : (j : Int) + 1 < (m : Int) + 1 := by clear s1; omega
      have i3 : ((j : Int) + 1).toNat = j + 1 := by clear s1; omega
      have i4 : (0 : Int) < (j : Int) + 1 := by clear s1; omega
      have i5 : (0 : Int) ≤ (j : Int) + 1 := by clear s1; omega
      have i6 : wrap64 (j : Int) = (j : Int) := by clear s1 i3; have := HM.out; unfold wrap64; omega
      have c0f := hh.f 1
      have c4 : (j + 1 : Nat) ≤ oc := by
        obtain ⟨_, _, hv, hv2, _⟩ := own_slice hh.opn
        injection hv with _ _ hv
        subst hv
        have := HLEN.out
        clear s1 i6
        omega
      have i7 : (j : Int) + 1 ≤ (oc : Int) := by clear s1 i6; omega
      have HWL : Hid (∀ w', Calls Tryz.prog 95 #[.string X] w' fun e w'' => e = .returned (.bool (wallB X.data.toList)) ∧ w' = w'') := hide (fun w' => rwall14_any X w')
      clear hh hnm hX hXl ho1 hp1 hol hl
      cases hc : (X.data.toList == x.data.toList) with
      | true =>
        have q0 : (X.toList == x.toList) = true := by rw [bytes_list, bytes_list]; exact hc
        have HE : Hid (backF (fun o => o == x.data.toList) (nmA l opn) (j + 1) = j + 1) := hide (by rw [backF, if_pos (by rw [← HXL.out]; exact hc)])
        clear hc
        go_wp2_with fail
        go_region
        go_wp2_with fail
        have hh2 := HH.out.kept HB.out
        have htk := own_take (m := j + 1) hh2.opn rfl (by have := HLEN.out; clear s1 i6; omega)
        have hs := hh2.setOpen (o' := .slice (some ⟨go, 0, none⟩) (opn.take (j + 1)).length oc) ⟨rfl, rfl, rfl, Nat.le_refl _, fun _ _ _ => rfl⟩ htk (.inl rfl)
        rw [List.length_take, Nat.min_eq_left (by have := HLEN.out; clear s1 i6; omega)] at hs
        have HS := hide hs
        clear hs htk hh2
        (try simp only [Exit.inBlock, Exit.then]); refine bodyPost_ret (results_none rfl _ _ _) rfl ?_
        refine ⟨rfl, ?_⟩
        rw [HF.out, HE.out]
        unfold EndR
        rw [if_neg (Nat.succ_ne_zero j)]
        exact ⟨_, HS.out.kept (Below.refl _ _).drew⟩
      | false =>
        have q0 : (X.toList == x.toList) = false := by rw [bytes_list, bytes_list]; exact hc
        go_wp2_with fail
        go_region
        go_wp2_with fail
        refine (HWL.out _).mono ?_
        rintro e w2 ⟨rfl, rfl⟩
        cases hw : wallB X.data.toList with
        | true =>
          have HE : Hid (backF (fun o => o == x.data.toList) (nmA l opn) (j + 1) = 0) := hide (by rw [backF, if_neg (by rw [← HXL.out, hc]; decide), if_pos (by rw [← HXL.out]; exact hw)])
          clear hc hw
          go_wp2_with fail
          (try simp only [Exit.inBlock, Exit.then]); refine bodyPost_ret (results_none rfl _ _ _) rfl ?_
          exact ⟨rfl, by rw [HF.out, HE.out]; unfold EndR; rw [if_pos rfl]; exact HH.out.kept HB.out.drew⟩
        | false =>
          have HE : Hid (backF (fun o => o == x.data.toList) (nmA l opn) (j + 1) = backF (fun o => o == x.data.toList) (nmA l opn) j) := hide (by rw [backF, if_neg (by rw [← HXL.out, hc]; decide), if_neg (by rw [← HXL.out, hw]; decide)])
          clear hc hw
          go_wp2_with fail
          go_roundw
          case rel => exact ⟨j, by clear s1 i6; omega, by rw [i6], hide (by rw [HF.out, HE.out]), hide HB.out.drew⟩
          case measure => rw [i6]; clear s1 i6 i3; (try simp [intOf]); (try omega)
end Go.Proofs.YtiejmkjpgjbodaaGreatDoor

