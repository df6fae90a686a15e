/- WALK of param.readRaws. No statement is proved here. -/
import Derived.Test.YtcmmbceacjechaaGreatDoorBaseO
import Derived.Deep.RegionWith
namespace Go.Proofs.YtcmmbceacjechaaGreatDoor
open Go.RowKit
set_option linter.unusedVariables false
set_option linter.unusedSimpArgs false
set_option maxRecDepth 100000
theorem SBuf.neC {B b : Nat} {v : Value} {l : List ByteArray} {W0 w : World} {cs : Array Value} {t : TypeId} {fr : Nat × Nat} (h : SBuf B v l W0 w) (hb : w.heap[b]? = some (.cells cs t fr)) (ht : t ≠ 9) : v.ownBlock ≠ some b := by
  rcases h.1.2 with ⟨rfl, _⟩ | ⟨g, cap, cur, rfl, _, hh, _⟩
  · simp [Value.ownBlock]
  · intro he
    have e : g = b := by simpa [Value.ownBlock] using he
    subst e
    rw [hh] at hb
    injection hb with hb
    injection hb with _ e
    exact ht e.symm
theorem SBuf.setC {B b : Nat} {v : Value} {l : List ByteArray} {W0 w : World} {cs : Array Value} {t : TypeId} {fr : Nat × Nat} (h : SBuf B v l W0 w) (hb : w.heap[b]? = some (.cells cs t fr)) (ht : t ≠ 9) (hB : B ≤ b) (i : Nat) (x : Value) : SBuf B v l W0 (w.setCell ⟨b, i, none⟩ x) :=
  ⟨ownsRow_setCell_other h.1 (h.neC hb ht) x, h.2.1.setCell hB x, by simpa [World.setCell] using h.2.2⟩
/-- append(r.names, s): the one string lies in the block that has just been laid; the reading's variables behind it -/
theorem wpList_names {ops : Array Oper} {rest : List Oper} {o : Oper} {a : Act} {Q : Exit → Act → World → Prop} (hgd : o.guard = none) (s x : Operand)
    (ho : o.op = .call { callee := .builtin .append, args := #[s, x], argTypes := #[50, 50] })
    (B R rb bm bs k : Nat) (st : RawSt) (v : Value) (hs : a.eval s = v) (W0 w0 : World) (c : ByteArray) (h : RawAt B W0 R rb bm bs k st w0) (hv : w0.cell? ⟨rb, 0, none⟩ = some v)
    (hx : a.eval x = .slice (some ⟨w0.heap.size, 0, none⟩) 1 1) (hlen : k ≤ 1048576)
    (hK : ∀ (A : Option Addr) (l cp : Nat) w', w'.cell? ⟨rb, 0, none⟩ = some v → w'.frozen? ⟨rb, 0, none⟩ = false → RawAt B W0 R rb bm bs (k + 1) (st.1 ++ [c.data.toList], st.2) (w'.setCell ⟨rb, 0, none⟩ (.slice A l cp)) → wpList Tryz.prog ops Q rest (a.put o.dst (.slice A l cp)) w') : wpList Tryz.prog ops Q (o :: rest) a (w0.alloc (.cells #[.string c] 9)) := by
  obtain ⟨v1, ns, h1, h2, h3, h4⟩ := h.r
  obtain ⟨l1, l2, l3, l4, l5, l6⟩ := h.lo
  have ev : v1 = v := by
    have := cell_of_row w0 rb 0 _ _ (0, 0) h1
    rw [hv] at this
    exact (Option.some.inj this).symm
  subst ev
  obtain ⟨n1, m1, m2⟩ := h.m
  obtain ⟨n2, s1, s2⟩ := h.s
  obtain ⟨i0, hi, hz0, hz1, hz2⟩ := info_parts info_str
  have hb' := h2.alloc (.cells #[.string c] 9)
  have al : ∀ b : Nat, b < w0.heap.size → (w0.alloc (.cells #[.string c] 9)).heap[b]? = w0.heap[b]? := fun b hb => Below.heap_alloc w0 _ b hb
  refine wpList_append_own _ hgd s x 50 ho B 9 i0 (.string ByteArray.empty) 1 16 Tryz.underlying50 hi hz0 hz1 hz2 rfl (by decide) v1 ns.length (strVals ns) hs hb'.1 ⟨w0.heap.size, 0, none⟩ 1 1 [.string c] hx rfl ?_ ?_ (by unfold maxLen; omega) (by omega) hb'.2.2 ?_
  · intro j u hj
    match j, hj with
    | 0, hj => simp at hj; subst hj; simp [Addr.add]
    | (j + 1), hj => simp at hj
  · intro u hu; simp at hu; subst hu; rfl
  · intro v' w' ho' hg _
    have hB2 := hb'.grown (l' := ns ++ [c]) (by simpa [strVals] using ho') hg
    obtain ⟨A, cp, rfl⟩ := hB2.slice_len
    -- blocks that are no strings stand
    have keep : ∀ (b : Nat) (cs : Array Value) (t : TypeId) (fr : Nat × Nat), t ≠ 9 → w0.heap[b]? = some (.cells cs t fr) → w'.heap[b]? = some (.cells cs t fr) := fun b cs t fr ht hb => by
      have hlt := lt_of_block hb
      have hb1 := (al b hlt).trans hb
      rw [hg.block b (lt_of_block hb1) (fun e => SBuf.neC hb' hb1 ht e.symm), hb1]
    have keepM : ∀ (b : Nat) es q, w0.heap[b]? = some (.map es q) → w'.heap[b]? = some (.map es q) := fun b es q hb => by
      have hlt := lt_of_block hb
      have hb1 := (al b hlt).trans hb
      rw [hg.block b (lt_of_block hb1) (fun e => by
        rcases hb'.1.2 with ⟨hn, _⟩ | ⟨g, cap, cur, hv2, _, hh, _⟩
        · rw [hn] at e; simp [Value.ownBlock] at e
        · rw [hv2] at e
          have : b = g := by simpa [Value.ownBlock] using e
          exact cells_map_ne hh hb1 this.symm), hb1]
    obtain ⟨es1, q1, he1⟩ := m2.is
    obtain ⟨es2, q2, he2⟩ := s2.is
    have rb' := keep rb _ _ _ (by decide) h1
    have zz' := keep R _ _ _ (by decide) h.z
    have nRm := cells_map_ne h1 he1
    have nRs := cells_map_ne h1 he2
    refine hK A _ cp w' (by rw [cell_of_row w' rb 0 _ _ (0, 0) rb']; rfl) ?_ ?_
    · simp [World.frozen?, rb']
    · have st0 : (w'.setCell ⟨rb, 0, none⟩ (.slice A (ns ++ [c]).length cp)).heap[rb]? = some (.cells #[.slice A (ns ++ [c]).length cp, .map (some bm)] 60 (0, 0)) := by
        simp [World.setCell, Array.getElem?_modify, rb']
      refine ⟨⟨_, ns ++ [c], st0, SBuf.setC hB2 rb' (by decide) l2 0 _, by rw [List.map_append, h3]; rfl, by simp; omega⟩, ⟨n1, by omega, m2.same ?_⟩, ⟨n2, by omega, s2.same ?_⟩, ?_, h.lo⟩
      · rw [Below.heap_setCell w' ⟨rb, 0, none⟩ _ bm (Ne.symm nRm), keepM _ _ _ he1, he1]
      · rw [Below.heap_setCell w' ⟨rb, 0, none⟩ _ bs (Ne.symm nRs), keepM _ _ _ he2, he2]
      · rw [Below.heap_setCell w' ⟨rb, 0, none⟩ _ R (Ne.symm l6)]; exact zz'
end Go.Proofs.YtcmmbceacjechaaGreatDoor
