/- WALK of fold.Where. No statement is proved here. Own work of the verifier. -/
import Derived.Test.YtjaeheicndfdnaaDoorFoldE
namespace Go.Proofs.YtjaeheicndfdnaaDoor
open Go.RowKit Go.Shelf
set_option linter.unusedVariables false
set_option linter.unusedSimpArgs false
set_option maxRecDepth 100000
attribute [local go_sem] Oper.semAt_some
def zeroN : NdH := ⟨[], [], []⟩
/-- Where, on the row of nodes: how many are still to be looked at, what has been found -/
def whereG (D : List NdH) : Nat → Nat × Bool → Nat × Bool
  | 0, _ => (0, false)
  | k + 1, s => if quoteN (D.getD k zeroN) = true then whereG D k (k, true) else if blankN (D.getD k zeroN) = true then whereG D k s else s
def whereP (D : List NdH) : Nat × Bool := whereG D D.length (0, false)
def goN (h : NdH) : Bool := quoteN h || blankN h
def stN (s : Nat × Bool) (x : IdxN) : Nat × Bool := if quoteN x.2.1.1 = true then (x.1, true) else s
theorem getD_map (D : List KidV) (k : Nat) : (D.map (·.1.1)).getD k zeroN = (D.getD k zeroK).1.1 := by
  rw [List.getD_eq_getElem?_getD, List.getD_eq_getElem?_getD, List.getElem?_map]
  cases D[k]? <;> rfl
theorem where_all (D : List KidV) : ∀ (k : Nat) (s : Nat × Bool), (∀ x ∈ backN D k, goN x.2.1.1 = true) → whereG (D.map (·.1.1)) k s = (0, false)
  | 0, s, _ => rfl
  | k + 1, s, h => by
    have h0 := h _ (List.mem_cons_self ..)
    have ih := fun s => where_all D k s (fun x hx => h x (List.mem_cons_of_mem _ hx))
    simp only [whereG, getD_map]
    simp only [goN, Bool.or_eq_true] at h0
    split
    · exact ih _
    · split
      · exact ih _
      · rename_i h1 h2
        rcases h0 with h0 | h0
        · exact absurd h0 h1
        · exact absurd h0 h2
theorem where_stop (D : List KidV) (x : IdxN) (hx : goN x.2.1.1 = false) : ∀ (k : Nat) (s : Nat × Bool) (pre : List IdxN), (∀ y ∈ pre, goN y.2.1.1 = true) → pre ++ [x] <+: backN D k → whereG (D.map (·.1.1)) k s = pre.foldl stN s
  | 0, s, pre, _, hp => by
    have := hp.length_le
    simp [backN] at this
  | k + 1, s, [], _, hp => by
    simp only [List.nil_append, backN, List.cons_prefix_cons] at hp
    obtain ⟨e, _⟩ := hp
    subst e
    simp only [goN, Bool.or_eq_false_iff] at hx
    simp only [whereG, getD_map, hx.1, hx.2, List.foldl_nil]
    rfl
  | k + 1, s, y :: pre, h, hp => by
    simp only [List.cons_append, backN, List.cons_prefix_cons] at hp
    obtain ⟨e, hp⟩ := hp
    have h0 := h y (List.mem_cons_self ..)
    have ih := fun s => where_stop D x hx k s pre (fun z hz => h z (List.mem_cons_of_mem _ hz)) hp
    subst e
    simp only [goN, Bool.or_eq_true] at h0
    simp only [whereG, getD_map, List.foldl_cons, stN]
    split
    · exact ih _
    · split
      · exact ih _
      · rename_i h1 h2
        rcases h0 with h0 | h0
        · exact absurd h0 h1
        · exact absurd h0 h2
/-- between two rounds of Where's loop -/
structure WhI (b : Nat) (w : World) (pre : List IdxN) (W : World) : Prop where
  ok : ∀ x ∈ pre, goN x.2.1.1 = true
  c2 : W.cell? ⟨b, 0, none⟩ = some (.int .i64 0)
  f2 : W.frozen? ⟨b, 0, none⟩ = false
  c3 : W.cell? ⟨b + 1, 0, none⟩ = some (.bool false)
  f3 : W.frozen? ⟨b + 1, 0, none⟩ = false
  c4 : W.cell? ⟨b + 1 + 1, 0, none⟩ = some (.int .i64 ((pre.foldl stN (0, false)).1 : Int))
  f4 : W.frozen? ⟨b + 1 + 1, 0, none⟩ = false
  c5 : W.cell? ⟨b + 1 + 1 + 1, 0, none⟩ = some (.bool (pre.foldl stN (0, false)).2)
  f5 : W.frozen? ⟨b + 1 + 1 + 1, 0, none⟩ = false
  below : Below b w W
  size : b + 5 ≤ W.heap.size
theorem whI_own {b B : Nat} {w : World} (hb : b ≤ w.heap.size) (hB : b + 5 ≤ B) : OwnFrom B (WhI b w) := by
  intro pre A A' row hs hg hr
  have hr2 := fun r e => (hr r e).2
  exact ⟨hs.ok, cell_kept hs.c2 hg hr2, (frozen_kept hs.c2 hg hr2).trans hs.f2, cell_kept hs.c3 hg hr2, (frozen_kept hs.c3 hg hr2).trans hs.f3, cell_kept hs.c4 hg hr2, (frozen_kept hs.c4 hg hr2).trans hs.f4, cell_kept hs.c5 hg hr2, (frozen_kept hs.c5 hg hr2).trans hs.f5,
    ownFrom_below (β := Unit) (B := B) hb (by omega) () A A' row hs.below hg hr, Nat.le_trans hs.size hg.size⟩
theorem WhI.kept {b : Nat} {w : World} {pre : List IdxN} {W W' : World} (h : WhI b w pre W) (hb : Below W.heap.size W W') : WhI b w pre W' := by
  have hk : ∀ k, k < b + 5 → W'.heap[k]? = W.heap[k]? := fun k hk => hb.block k (Nat.lt_of_lt_of_le hk h.size)
  exact ⟨h.ok, (World.cell?_of_block (hk _ (by simp))).trans h.c2, (World.frozen?_of_block (hk _ (by simp))).trans h.f2, (World.cell?_of_block (hk _ (by first | (simp; done) | (simp; omega)))).trans h.c3, (World.frozen?_of_block (hk _ (by first | (simp; done) | (simp; omega)))).trans h.f3,
    (World.cell?_of_block (hk _ (by first | (simp; done) | (simp; omega)))).trans h.c4, (World.frozen?_of_block (hk _ (by first | (simp; done) | (simp; omega)))).trans h.f4, (World.cell?_of_block (hk _ (by first | (simp; done) | (simp; omega)))).trans h.c5, (World.frozen?_of_block (hk _ (by first | (simp; done) | (simp; omega)))).trans h.f5, h.below.trans (hb.mono (by have := h.size; omega)), Nat.le_trans h.size hb.size⟩
/-- behind the body's return -/
structure WhX (b : Nat) (w : World) (pre : List IdxN) (W : World) : Prop where
  last : ∃ p x, pre = p ++ [x] ∧ (∀ y ∈ p, goN y.2.1.1 = true) ∧ goN x.2.1.1 = false ∧ W.cell? ⟨b, 0, none⟩ = some (.int .i64 ((p.foldl stN (0, false)).1 : Int)) ∧ W.cell? ⟨b + 1, 0, none⟩ = some (.bool (p.foldl stN (0, false)).2)
  below : Below b w W
  size : b + 5 ≤ W.heap.size
theorem whX_own {b B : Nat} {w : World} (hb : b ≤ w.heap.size) (hB : b + 5 ≤ B) : OwnFrom B (WhX b w) := by
  intro pre A A' row hs hg hr
  have hr2 := fun r e => (hr r e).2
  obtain ⟨p, x, h1, h2, h3, h4, h5⟩ := hs.last
  exact ⟨⟨p, x, h1, h2, h3, cell_kept h4 hg hr2, cell_kept h5 hg hr2⟩, ownFrom_below (β := Unit) (B := B) hb (by omega) () A A' row hs.below hg hr, Nat.le_trans hs.size hg.size⟩
theorem WhX.drew {b : Nat} {w : World} {pre : List IdxN} {W : World} (h : WhX b w pre W) : WhX b w pre W.drew := ⟨h.last, h.below.drew, h.size⟩
def WhA (B : Nat) (mk : Nat → Act) (x : IdxN) (a' : Act) (W : World) : Prop := ∃ Bx, B ≤ Bx ∧ W.heap[Bx]? = some (.cells #[.string (str x.2.1.1.name), x.2.2.1, .string (str x.2.1.1.text), x.2.2.2] 32 (0, 0)) ∧ a' = mk Bx
theorem whA_own (B : Nat) (mk : Nat → Act) (x : IdxN) (a' : Act) : OwnFrom B (fun (_ : Unit) W => WhA B mk x a' W) := by
  rintro _ W W' row ⟨Bx, h1, h2, h3⟩ hg hr
  refine ⟨Bx, h1, (hg.block Bx (lt_of_block h2) (fun e => ?_)).trans h2, h3⟩
  obtain ⟨_, o, ho, hc⟩ := hr Bx e.symm
  rw [h2] at ho; injection ho with ho; subst ho; cases hc
theorem keepsO_below {W W' : World} (hb : Below W.heap.size W W') : KeepsOthers W W' := ⟨hb.size, fun k o hk _ => (hb.block k (Array.getElem?_eq_some_iff.1 hk).1).trans hk⟩
theorem set_other (W : World) (a c : Addr) (v : Value) (h : a.block ≠ c.block) : (W.setCell a v).cell? c = W.cell? c := World.cell?_of_block (Below.heap_setCell W a v c.block (fun e => h e.symm))
theorem setF_other (W : World) (a c : Addr) (v : Value) (h : a.block ≠ c.block) : (W.setCell a v).frozen? c = W.frozen? c := World.frozen?_of_block (Below.heap_setCell W a v c.block (fun e => h e.symm))
/-- the answer is stored, in either order -/
theorem WhI.answer {b : Nat} {w : World} {pre : List IdxN} {W : World} (h : WhI b w pre W) (hb : b ≤ w.heap.size) (x : IdxN) (hx : goN x.2.1.1 = false) (v0 v1 : Value) (h0 : v0 = .int .i64 ((pre.foldl stN (0, false)).1 : Int)) (h1 : v1 = .bool (pre.foldl stN (0, false)).2) :
    WhX b w (pre ++ [x]) ((W.setCell ⟨b, 0, none⟩ v0).setCell ⟨b + 1, 0, none⟩ v1) ∧ WhX b w (pre ++ [x]) ((W.setCell ⟨b + 1, 0, none⟩ v1).setCell ⟨b, 0, none⟩ v0) := by
  subst h0 h1
  have hs : ∀ (W : World) (a : Addr) (v : Value), (W.setCell a v).heap.size = W.heap.size := fun W a v => World.size_setCell ..
  refine ⟨⟨⟨pre, x, rfl, h.ok, hx, ?_, ?_⟩, (h.below.setCell (p := ⟨b, 0, none⟩) (Nat.le_refl _) _).setCell (p := ⟨b + 1, 0, none⟩) (Nat.le_succ _) _, by rw [hs, hs]; exact h.size⟩, ⟨⟨pre, x, rfl, h.ok, hx, ?_, ?_⟩, (h.below.setCell (p := ⟨b + 1, 0, none⟩) (Nat.le_succ _) _).setCell (p := ⟨b, 0, none⟩) (Nat.le_refl _) _, by rw [hs, hs]; exact h.size⟩⟩
  · rw [set_other _ _ _ _ (by simp)]
    exact World.cell?_setCell_same' _ _ _ (by rw [h.c2]; rfl)
  · exact World.cell?_setCell_same' _ _ _ (by rw [set_other _ _ _ _ (by simp), h.c3]; rfl)
  · exact World.cell?_setCell_same' _ _ _ (by rw [set_other _ _ _ _ (by simp), h.c2]; rfl)
  · rw [set_other _ _ _ _ (by simp)]
    exact World.cell?_setCell_same' _ _ _ (by rw [h.c3]; rfl)
/-- a quote has been found -/
theorem WhI.quote {b : Nat} {w : World} {pre : List IdxN} {W : World} (h : WhI b w pre W) (hb : b ≤ w.heap.size) (x : IdxN) (hx : quoteN x.2.1.1 = true) :
    WhI b w (pre ++ [x]) ((W.setCell ⟨b + 1 + 1, 0, none⟩ (.int .i64 (x.1 : Int))).setCell ⟨b + 1 + 1 + 1, 0, none⟩ (.bool true)) := by
  have hs : ∀ (W : World) (a : Addr) (v : Value), (W.setCell a v).heap.size = W.heap.size := fun W a v => World.size_setCell ..
  have e : (pre ++ [x]).foldl stN (0, false) = (x.1, true) := by rw [List.foldl_append]; simp [stN, hx]
  refine ⟨?_, ?_, ?_, ?_, ?_, ?_, ?_, ?_, ?_, (h.below.setCell (p := ⟨b + 1 + 1, 0, none⟩) (by simp; omega) _).setCell (p := ⟨b + 1 + 1 + 1, 0, none⟩) (by simp; omega) _, by rw [hs, hs]; exact h.size⟩
  · intro y hy
    rcases List.mem_append.1 hy with hy | hy
    · exact h.ok y hy
    · rw [List.mem_singleton] at hy
      subst hy
      unfold goN
      rw [hx]; rfl
  · rw [set_other _ _ _ _ (by simp; omega), set_other _ _ _ _ (by simp; omega)]; exact h.c2
  · rw [setF_other _ _ _ _ (by simp; omega), setF_other _ _ _ _ (by simp; omega)]; exact h.f2
  · rw [set_other _ _ _ _ (by simp; omega), set_other _ _ _ _ (by simp)]; exact h.c3
  · rw [setF_other _ _ _ _ (by simp; omega), setF_other _ _ _ _ (by simp)]; exact h.f3
  · rw [e, set_other _ _ _ _ (by simp)]
    exact World.cell?_setCell_same' _ _ _ (by rw [h.c4]; rfl)
  · rw [setF_other _ _ _ _ (by simp)]
    exact (World.frozen?_setCell ..).trans h.f4
  · rw [e]
    exact World.cell?_setCell_same' _ _ _ (by rw [set_other _ _ _ _ (by simp), h.c5]; rfl)
  · refine (World.frozen?_setCell ..).trans ?_
    rw [setF_other _ _ _ _ (by simp)]; exact h.f5
theorem WhI.more {b : Nat} {w : World} {pre : List IdxN} {W : World} (h : WhI b w pre W) (x : IdxN) (hq : quoteN x.2.1.1 = false) (hx : blankN x.2.1.1 = true) : WhI b w (pre ++ [x]) W := by
  have e : (pre ++ [x]).foldl stN (0, false) = pre.foldl stN (0, false) := by rw [List.foldl_append]; simp [stN, hq]
  refine ⟨?_, h.c2, h.f2, h.c3, h.f3, by rw [e]; exact h.c4, h.f4, by rw [e]; exact h.c5, h.f5, h.below, h.size⟩
  intro y hy
  rcases List.mem_append.1 hy with hy | hy
  · exact h.ok y hy
  · rw [List.mem_singleton] at hy
    subst hy
    unfold goN
    rw [hx, Bool.or_true]
def whW (w : World) (v : Value) : World := ((((w.alloc (.cells #[.int .i64 0] 3)).alloc (.cells #[.bool false] 4)).alloc (.cells #[.int .i64 0] 3)).alloc (.cells #[.bool false] 4)).alloc (.cells #[v] 22)
theorem whW_blocks (w : World) (v : Value) : (whW w v).heap[w.heap.size]? = some (.cells #[.int .i64 0] 3 (0, 0)) ∧ (whW w v).heap[w.heap.size + 1]? = some (.cells #[.bool false] 4 (0, 0)) ∧ (whW w v).heap[w.heap.size + 1 + 1]? = some (.cells #[.int .i64 0] 3 (0, 0)) ∧ (whW w v).heap[w.heap.size + 1 + 1 + 1]? = some (.cells #[.bool false] 4 (0, 0)) ∧ (whW w v).heap[w.heap.size + 1 + 1 + 1 + 1]? = some (.cells #[v] 22 (0, 0)) ∧ Below w.heap.size w (whW w v) ∧ (whW w v).heap.size = w.heap.size + 5 := by
  have e : (whW w v).heap = ((((w.heap.push (.cells #[.int .i64 0] 3)).push (.cells #[.bool false] 4)).push (.cells #[.int .i64 0] 3)).push (.cells #[.bool false] 4)).push (.cells #[v] 22) := rfl
  have hs : ∀ (h : Array Obj) (o : Obj) (k : Nat), k ≠ h.size → (h.push o)[k]? = h[k]? := fun h o k hk => by rw [Array.getElem?_push, if_neg hk]
  have ht : ∀ (h : Array Obj) (o : Obj) (k : Nat), k = h.size → (h.push o)[k]? = some o := fun h o k hk => by rw [Array.getElem?_push, if_pos hk]
  refine ⟨?_, ?_, ?_, ?_, ?_, ⟨rfl, rfl, rfl, ?_, fun k hk => ?_⟩, ?_⟩
  · rw [e, hs _ _ _ (by simp only [Array.size_push]; omega), hs _ _ _ (by simp only [Array.size_push]; omega), hs _ _ _ (by simp only [Array.size_push]; omega), hs _ _ _ (by simp only [Array.size_push]; omega), ht _ _ _ rfl]
  · rw [e, hs _ _ _ (by simp only [Array.size_push]; omega), hs _ _ _ (by simp only [Array.size_push]; omega), hs _ _ _ (by simp only [Array.size_push]; omega), ht _ _ _ (by simp only [Array.size_push])]
  · rw [e, hs _ _ _ (by simp only [Array.size_push]; omega), hs _ _ _ (by simp only [Array.size_push]; omega), ht _ _ _ (by simp only [Array.size_push])]
  · rw [e, hs _ _ _ (by simp only [Array.size_push]; omega), ht _ _ _ (by simp only [Array.size_push])]
  · rw [e, ht _ _ _ (by simp only [Array.size_push])]
  · rw [e]; simp only [Array.size_push]; omega
  · rw [e, hs _ _ _ (by simp only [Array.size_push]; omega), hs _ _ _ (by simp only [Array.size_push]; omega), hs _ _ _ (by simp only [Array.size_push]; omega), hs _ _ _ (by simp only [Array.size_push]; omega), hs _ _ _ (by omega)]
  · rw [e]; simp only [Array.size_push]
theorem whI_new (w : World) (v : Value) : WhI w.heap.size w [] (whW w v) := by
  obtain ⟨b0, b1, b2, b3, b4, hb, hz⟩ := whW_blocks w v
  exact ⟨fun x hx => (by cases hx), (Lib.cell_of_heap b0 0).trans rfl, Lib.frozen_of_heap b0 0, (Lib.cell_of_heap b1 0).trans rfl, Lib.frozen_of_heap b1 0, (Lib.cell_of_heap b2 0).trans rfl, Lib.frozen_of_heap b2 0, (Lib.cell_of_heap b3 0).trans rfl, Lib.frozen_of_heap b3 0, hb, by omega⟩
theorem whI_box (w : World) (v : Value) : (whW w v).cell? ⟨w.heap.size + 1 + 1 + 1 + 1, 0, none⟩ = some v := (Lib.cell_of_heap (whW_blocks w v).2.2.2.2.1 0).trans rfl
theorem whI_size (w : World) (v : Value) : (whW w v).heap.size = w.heap.size + 5 := (whW_blocks w v).2.2.2.2.2.2
set_option maxHeartbeats 4000000 in
theorem where_in (n : Nat) (hn : 4 ≤ n) (v : Value) (T : Tr) (w : World) (hT : NodesIn w v T) (hU : Utf8T w) (hl : T.len ≤ 1000000) (hx : ∀ p ∈ T.list, p.1.text.length ≤ 1000000) :
    CallsIn Fence.wide n Tryd.prog 11 #[v] w fun e W' => e = .returned (.tuple #[.int .i64 ((whereP (T.list.map Prod.fst)).1 : Int), .bool (whereP (T.list.map Prod.fst)).2]) ∧ Below w.heap.size w W' := by
  have h1 : 1 ≤ n := by omega
  obtain ⟨A, cap, D, a, rfl, hDl, hD1, hA, hab, hhere, hform⟩ : ∃ A cap, ∃ D : List KidV, ∃ a : Addr, v = .slice A T.len cap ∧ D.length = T.len ∧ D.map Prod.fst = T.list ∧ (D ≠ [] → A = some a) ∧ a.block ≤ w.heap.size ∧ NodesHere a D w ∧ ∀ q ∈ D, (∃ A n c, q.2.1 = .slice A n c) ∧ ∃ A n c, q.2.2 = .slice A n c := by
    rcases hT with ⟨rfl, rfl⟩ | ⟨a, cap, rfl, hl1, hl2, hat⟩
    · exact ⟨none, 0, [], ⟨0, 0, none⟩, rfl, rfl, rfl, fun h => absurd rfl h, Nat.zero_le _, fun j u h => (by simp [nodeVals] at h), fun q hq => (by cases hq)⟩
    · obtain ⟨qs, e1, e2, e3⟩ := nodesAt_vals hat
      cases T with
      | nil =>
        have hq0 : qs = [] := List.eq_nil_of_map_eq_nil e1
        subst hq0
        exact ⟨some a, cap, [], ⟨0, 0, none⟩, rfl, rfl, rfl, fun h => absurd rfl h, Nat.zero_le _, fun j u h => (by simp [nodeVals] at h), fun q hq => (by cases hq)⟩
      | cons f0 K0 R0 =>
      refine ⟨some a, cap, qs, a, rfl, by rw [← Tr.len_list, ← e1, List.length_map], e1, fun _ => rfl, ?_, e2, fun q hq => ?_⟩
      · exact Nat.le_of_lt hat.1
      · obtain ⟨A1, c1, r1⟩ := (e3 q hq).1.1.form
        obtain ⟨A2, c2, r2⟩ := (e3 q hq).2.form
        exact ⟨⟨_, _, _, r1⟩, ⟨_, _, _, r2⟩⟩
  have hmm : (whereP (T.list.map Prod.fst)) = whereG (D.map (·.1.1)) D.length (0, false) := by
    unfold whereP
    rw [← hD1, List.map_map, List.length_map]
    rfl
  have htx : ∀ q ∈ D, q.1.1.text.length ≤ 1000000 := fun q hq => hx q.1 (by rw [← hD1]; exact List.mem_map.2 ⟨q, hq, rfl⟩)
  rw [hmm]
  rw [← hDl] at hl ⊢
  clear hmm hD1 hx hDl
  refine callsIn_of_wp_marks Tryd.func11 rfl trivial ?_ rfl
  simp only [Tryd.ntmps11, List.size_toArray, List.length_cons, List.length_nil, Nat.reduceAdd, Nat.reduceSub, Array.replicate_succ, Array.replicate_zero, List.push_toArray, List.append_toArray, List.nil_append, List.cons_append]
  gi_wp2
  refine ⟨trivial, (back_in (n - 1) (by omega) A D.length cap _).mono ?_⟩
  rintro e w' ⟨rfl, rfl⟩
  gi_wp2
  have hI0 : WhI w.heap.size w [] (((((w.alloc (.cells #[.int .i64 0] 3)).alloc (.cells #[.bool false] 4)).alloc (.cells #[.int .i64 0] 3)).alloc (.cells #[.bool false] 4)).alloc (.cells #[.slice A D.length cap] 22)) := whI_new w (.slice A D.length cap)
  have hbx : (((((w.alloc (.cells #[.int .i64 0] 3)).alloc (.cells #[.bool false] 4)).alloc (.cells #[.int .i64 0] 3)).alloc (.cells #[.bool false] 4)).alloc (.cells #[.slice A D.length cap] 22)).cell? ⟨w.heap.size + 1 + 1 + 1 + 1, 0, none⟩ = some (.slice A D.length cap) := whI_box w (.slice A D.length cap)
  have hz0 : (((((w.alloc (.cells #[.int .i64 0] 3)).alloc (.cells #[.bool false] 4)).alloc (.cells #[.int .i64 0] 3)).alloc (.cells #[.bool false] 4)).alloc (.cells #[.slice A D.length cap] 22)).heap.size = w.heap.size + 5 := whI_size w (.slice A D.length cap)
  have hb0 : Below w.heap.size w (((((w.alloc (.cells #[.int .i64 0] 3)).alloc (.cells #[.bool false] 4)).alloc (.cells #[.int .i64 0] 3)).alloc (.cells #[.bool false] 4)).alloc (.cells #[.slice A D.length cap] 22)) := hI0.below
  obtain ⟨W0, hW0⟩ : ∃ W0, (((((w.alloc (.cells #[.int .i64 0] 3)).alloc (.cells #[.bool false] 4)).alloc (.cells #[.int .i64 0] 3)).alloc (.cells #[.bool false] 4)).alloc (.cells #[.slice A D.length cap] 22)) = W0 := ⟨_, rfl⟩
  rw [hW0] at hI0 hbx hz0 hb0 ⊢
  have hH0 : NodesHere a D W0 := fun j u hj => by
    have h9 := hhere j u hj
    exact (World.cell?_of_block (hb0.block _ (World.block_lt_of_cell? _ _ h9))).trans h9
  clear hW0
  refine wpIn_rangeFunc_ownH rfl h1 (gf := 29) (lb := #[.pointer (some ⟨w.heap.size + 1 + 1 + 1 + 1, 0, none⟩)]) rfl trivial (enters_of Tryd.func29 (by kernel_rfl) rfl)
    (back_stops (n - 1) (by omega) (w.heap.size + 1 + 1 + 1 + 1) cap a A D (by omega) hA W0 (by omega) (by omega) hbx hH0) RowKept.trans
    (fun W l o o' hl ho hc _ => ⟨World.putObj_heap_other (by omega), World.putObj_heap_other (by omega)⟩) (Below.refl _ _) (fun _ => rfl)
    (fun pre W => WhI w.heap.size w (pre.map (·.1)) W) (fun c pre W => c = .ret ∧ WhX w.heap.size w (pre.map (·.1)) W) (fun pre => whI_own (Nat.le_refl _) (by omega) (pre.map (·.1))) (fun c pre A A' row hs hg hr => ⟨hs.1, whX_own (Nat.le_refl _) (by omega) (pre.map (·.1)) A A' row hs.2 hg hr⟩)
    hI0
    (fun x : BackP D => WhA W0.heap.size (fun Bx => { tmps := #[.slice A D.length cap, undef, .pointer (some ⟨w.heap.size, 0, none⟩), .pointer (some ⟨w.heap.size + 1, 0, none⟩), .pointer (some ⟨w.heap.size + 1 + 1, 0, none⟩), .pointer (some ⟨w.heap.size + 1 + 1 + 1, 0, none⟩), .int .i64 x.1.1, .pointer (some ⟨Bx, 0, none⟩), .slice A D.length cap, .func (.func 29) #[] #[.pointer (some ⟨w.heap.size + 1 + 1 + 1 + 1, 0, none⟩)], .int .i64 x.1.1, .agg #[.string (str x.1.2.1.1.name), x.1.2.2.1, .string (str x.1.2.1.1.text), x.1.2.2.2], undef, undef, undef, undef, undef, undef, undef, undef, undef, undef], defers := [] }) x.1) (fun x a' => whA_own _ _ x.1 a')
    ?assign ?body ?done ?stop
  case assign =>
    rintro l pre ⟨⟨ix, ⟨⟨f, K⟩, av, kv⟩⟩, hmem⟩ W KK hI hK
    obtain ⟨⟨A1, n1, c1, r1⟩, ⟨A2, n2, c2, r2⟩⟩ := hform _ hmem
    dsimp only at r1 r2
    subst r1 r2
    gi_wp2
    have hsz := hI.size
    have hb1 := below_one W (Obj.cells #[.string (str f.name), .slice A1 n1 c1, .string (str f.text), .slice A2 n2 c2] 32)
    exact hK _ _ ((KeepsOthers.alloc _ _).from _) ⟨hb1.block _ (by omega), hb1.block _ (by omega)⟩ (hI.kept hb1) ⟨W.heap.size, by omega, heap_alloc_new W _, rfl⟩
  case body =>
    rintro l pre ⟨⟨ix, ⟨⟨f, K⟩, av, kv⟩⟩, hmem⟩ a' W hl ⟨r, hr⟩ hI ⟨Bx, hBx, bX, rfl⟩ hlt
    obtain ⟨⟨A1, n1, c1, r1⟩, ⟨A2, n2, c2, r2⟩⟩ := hform _ hmem
    have htxt := htx _ hmem
    dsimp only at r1 r2 bX htxt
    subst r1 r2
    have hsz := hI.size
    have e0 : W.cell? ⟨Bx, 0, none⟩ = some (.string (str f.name)) := (Lib.cell_of_heap bX 0).trans rfl
    have e1 : W.cell? ⟨Bx, 1, none⟩ = some (.slice A1 n1 c1) := (Lib.cell_of_heap bX 1).trans rfl
    have e2 : W.cell? ⟨Bx, 2, none⟩ = some (.string (str f.text)) := (Lib.cell_of_heap bX 2).trans rfl
    have e3 : W.cell? ⟨Bx, 3, none⟩ = some (.slice A2 n2 c2) := (Lib.cell_of_heap bX 3).trans rfl
    have h1' : 1 ≤ n - 1 - 1 := by omega
    have hR : List.map (·.1) (pre ++ [(⟨(ix, ((f, K), (.slice A1 n1 c1, .slice A2 n2 c2))), hmem⟩ : BackP D)]) = pre.map (·.1) ++ [(ix, ((f, K), (.slice A1 n1 c1, .slice A2 n2 c2)))] := by simp
    have HR := hide hR
    clear hR
    gi_wp2
    refine ⟨trivial, CallsIn.inRound l ((callsIn_wide.2 (isQuote_any f A1 A2 n1 c1 n2 c2 _)).mono ?_)⟩
    rintro e w' ⟨rfl, hb1⟩
    have hI1 := hI.kept hb1
    have bX1 := (hb1.block Bx (lt_of_block bX)).trans bX
    have d0 : w'.cell? ⟨Bx, 0, none⟩ = some (.string (str f.name)) := (Lib.cell_of_heap bX1 0).trans rfl
    have d1 : w'.cell? ⟨Bx, 1, none⟩ = some (.slice A1 n1 c1) := (Lib.cell_of_heap bX1 1).trans rfl
    have d2 : w'.cell? ⟨Bx, 2, none⟩ = some (.string (str f.text)) := (Lib.cell_of_heap bX1 2).trans rfl
    have d3 : w'.cell? ⟨Bx, 3, none⟩ = some (.slice A2 n2 c2) := (Lib.cell_of_heap bX1 3).trans rfl
    have hrk : RowKept a.block (w.heap.size + 1 + 1 + 1 + 1) W w' := ⟨hb1.block _ (by omega), hb1.block _ (by omega)⟩
    cases hqn : quoteN f with
    | true =>
      have g4 := hI1.c4
      have g4f := hI1.f4
      have g5 := hI1.c5
      have g5f := hI1.f5
      have HQ := hide (hI1.quote (Nat.le_refl _) (ix, ((f, K), (.slice A1 n1 c1, .slice A2 n2 c2))) hqn)
      have HKF := hide (keepsO_below hb1)
      clear hqn e0 e1 e2 e3
      gi_wp2
      refine ⟨((HKF.out.trans (KeepsOthers.setCell _ _ _)).trans (KeepsOthers.setCell _ _ _)).from _, hrk.trans ⟨(Below.heap_setCell _ _ _ _ (by first | (simp; done) | (simp; omega))).trans (Below.heap_setCell _ _ _ _ (by first | (simp; done) | (simp; omega))), (Below.heap_setCell _ _ _ _ (by first | (simp; done) | (simp; omega))).trans (Below.heap_setCell _ _ _ _ (by first | (simp; done) | (simp; omega)))⟩, ?_⟩
      show WhI _ _ (List.map (fun x : BackP D => x.1) _) _
      rw [HR.out]
      exact HQ.out
    | false =>
      have HQN := hide hqn
      clear hqn e0 e1 e2 e3
      gi_wp2
      refine ⟨trivial, CallsIn.inRound l ((callsIn_wide.2 (isBlank_any f A1 A2 n1 c1 n2 c2 _ (utf8_kept hU (hI.below.trans (hb1.mono (by omega)))) htxt)).mono ?_)⟩
      rintro e w2 ⟨rfl, hb2⟩
      have hI2 := hI1.kept hb2
      cases hbn : blankN f with
      | true =>
        have HM := hide (hI2.more (ix, ((f, K), (.slice A1 n1 c1, .slice A2 n2 c2))) HQN.out hbn)
        clear hbn
        gi_wp2
        refine ⟨((keepsO_below hb1).trans (keepsO_below hb2)).from _, hrk.trans ⟨hb2.block _ (Nat.lt_of_lt_of_le (by omega) hb1.size), hb2.block _ (Nat.lt_of_lt_of_le (by omega) hb1.size)⟩, ?_⟩
        show WhI _ _ (List.map (fun x : BackP D => x.1) _) _
        rw [HR.out]
        exact HM.out
      | false =>
        have g2 := hI2.c2
        have g2f := hI2.f2
        have g3 := hI2.c3
        have g3f := hI2.f3
        have g4 := hI2.c4
        have g4f := hI2.f4
        have g5 := hI2.c5
        have g5f := hI2.f5
        have HKO := hide ((keepsO_below hb1).trans (keepsO_below hb2))
        have HGO : Hid (goN f = false) := hide (by unfold goN; rw [HQN.out, hbn]; rfl)
        have HI2 := hide hI2
        clear hbn hb1 hb2 hI1 hI2 hI hrk
        gi_wp2
        have hans := HI2.out.answer (Nat.le_refl _) (ix, ((f, K), (.slice A1 n1 c1, .slice A2 n2 c2))) HGO.out _ _ rfl rfl
        have HAN := hide hans
        clear hans
        gi_region
        all_goals gi_wp2
        all_goals refine ⟨((HKO.out.trans ((KeepsOthers.setCell _ _ _).trans (KeepsOthers.setCell _ _ _))).trans (KeepsOthers.drew _)).from _, rfl, ?_⟩
        all_goals show WhX _ _ (List.map (fun x : BackP D => x.1) _) _
        all_goals rw [HR.out]
        all_goals first | exact HAN.out.1.drew | exact HAN.out.2.drew
  case done =>
    rintro Dm ys W hDm hys hI hK
    have hI' : WhI w.heap.size w (backN D D.length) W := by rw [← hys]; exact hI
    have HRES := hide (where_all D D.length (0, false) hI'.ok)
    have g2 := hI'.c2
    have g2f := hI'.f2
    have g3 := hI'.c3
    have g3f := hI'.f3
    have hbl := hI'.below
    have hKlt := (Array.getElem?_eq_some_iff.1 hK).1
    clear hI hI' hys
    gi_wp2
    have hb2 := (hbl.setCell (p := ⟨w.heap.size, 0, none⟩) (Nat.le_refl _) (.int .i64 0)).setCell (p := ⟨w.heap.size + 1, 0, none⟩) (Nat.le_succ _) (.bool false)
    have hK2 := ((KeepsOthers.setCell W ⟨w.heap.size, 0, none⟩ (.int .i64 0)).trans (KeepsOthers.setCell _ ⟨w.heap.size + 1, 0, none⟩ (.bool false))).same Dm _ hK rfl
    refine ⟨by simp, .inl ⟨_, _, rfl, run_takeDeferred hK2, ?_⟩⟩
    have c2 : ((W.setCell ⟨w.heap.size, 0, none⟩ (.int .i64 0)).setCell ⟨w.heap.size + 1, 0, none⟩ (.bool false)).cell? ⟨w.heap.size, 0, none⟩ = some (.int .i64 0) := by
      rw [set_other _ _ _ _ (by simp)]
      exact World.cell?_setCell_same' _ _ _ (by rw [g2]; rfl)
    have c3 : ((W.setCell ⟨w.heap.size, 0, none⟩ (.int .i64 0)).setCell ⟨w.heap.size + 1, 0, none⟩ (.bool false)).cell? ⟨w.heap.size + 1, 0, none⟩ = some (.bool false) := World.cell?_setCell_same' _ _ _ (by rw [set_other _ _ _ _ (by simp), g3]; rfl)
    have hc2 := cell_kept c2 (grownBy_putObj' _ Dm (.deferred none)) (fun r e => by cases e; exact ⟨_, hK2, rfl⟩)
    have hc3 := cell_kept c3 (grownBy_putObj' _ Dm (.deferred none)) (fun r e => by cases e; exact ⟨_, hK2, rfl⟩)
    refine ⟨.tuple #[.int .i64 0, .bool false], ?_, by rw [HRES.out]; rfl, hb2.trans (belowK_b (w := w) (Nat.le_refl _) _ Dm _ _ (by omega) hK2 rfl rfl)⟩
    simp [results, Tryd.f11, go_sem, hc2, hc3]
  case stop =>
    rintro Dm cc pre W hDm hpre ⟨rfl, hX⟩ hK
    obtain ⟨p, x, e1, e2, e3, e4, e5⟩ := hX.last
    have HRES := hide (where_stop D x e3 D.length (0, false) p e2 (by rw [← e1]; exact hpre))
    have hbl := hX.below
    clear hX
    gi_wp2
    refine ⟨by simp, .inl ⟨_, _, rfl, run_takeDeferred hK, ?_⟩⟩
    have hc2 := cell_kept e4 (grownBy_putObj' _ Dm (.deferred none)) (fun r e => by cases e; exact ⟨_, hK, rfl⟩)
    have hc3 := cell_kept e5 (grownBy_putObj' _ Dm (.deferred none)) (fun r e => by cases e; exact ⟨_, hK, rfl⟩)
    refine ⟨.tuple #[.int .i64 ((p.foldl stN (0, false)).1 : Int), .bool (p.foldl stN (0, false)).2], ?_, by rw [HRES.out], hbl.trans (belowK_b (w := w) (Nat.le_refl _) _ Dm _ _ (by omega) hK rfl rfl)⟩
    simp [results, Tryd.f11, go_sem, hc2, hc3]
/-- Where -/
theorem where_any (v : Value) (T : Tr) (w : World) (hT : NodesIn w v T) (hU : Utf8T w) (hl : T.len ≤ 1000000) (hx : ∀ p ∈ T.list, p.1.text.length ≤ 1000000) :
    Calls Tryd.prog 11 #[v] w fun e W' => e = .returned (.tuple #[.int .i64 ((whereP (T.list.map Prod.fst)).1 : Int), .bool (whereP (T.list.map Prod.fst)).2]) ∧ Below w.heap.size w W' :=
  (callsIn_wide (n := 4)).1 (where_in 4 (by omega) v T w hT hU hl hx)
end Go.Proofs.YtjaeheicndfdnaaDoor
