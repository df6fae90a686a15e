import Derived.Test.YtiejmkjpgjbodaaGreatDoorTreeF
import Derived.Test.YtiejmkjpgjbodaaGreatDoorTreeK
import Derived.Deep.LoopGhost
import Derived.IntWalk
namespace Go.Proofs.YtiejmkjpgjbodaaGreatDoor
open Go.RowKit
set_option linter.unusedVariables false
set_option linter.unusedSimpArgs false
set_option maxRecDepth 100000
theorem KRow.form {C : Nat → Prop} {B : Nat} {v : Value} {ks : List KidV} {w : World} (h : KRow C B v ks w) : ∃ A c, v = .slice A ks.length c := by
  rcases h.row.2 with ⟨hv, h0⟩ | ⟨g', cap', cur, hv, _⟩
  · exact ⟨none, 0, by rw [hv, h0]⟩
  · exact ⟨_, _, hv⟩
def RoundC (B b n place gk : Nat) (F : List PartL) (W0 wr : World) (st : List PartV) : Prop :=
  (∃ C r, BS C B b r st n W0 wr) ∧ closeN gk (toLs st) = F ∧ stW (toLs st) ≤ 5000 ∧ (∀ p ∈ st, p.tail.length ≤ 70368744177664) ∧ st.length ≤ 1000000
theorem toLs_length (st : List PartV) : (toLs st).length = st.length := List.length_map _
theorem kids_le {p : PartV} {st : List PartV} (hp : p ∈ st) (hs : stW (toLs st) ≤ 5000) : p.kids.length ≤ 5000 := by
  have h1 : ∀ (l : List PartL) (q : PartL), q ∈ l → q.kids.length ≤ stW l := by
    intro l
    induction l with
    | nil => intro q hq; cases hq
    | cons x r ih =>
      intro q hq
      have hx : x.kids.length ≤ x.wt := Nat.le_trans (kidsW_len _) (Nat.le_add_right _ _)
      cases r with
      | nil =>
        obtain rfl := List.mem_singleton.1 hq
        exact hx
      | cons y r =>
        rw [stW_cons]
        rcases List.mem_cons.1 hq with rfl | hq
        · omega
        · have := ih q hq; omega
  have := h1 (toLs st) p.toL (List.mem_map_of_mem hp)
  simp only [PartV.toL, List.length_map] at this
  omega
set_option maxHeartbeats 16000000 in
theorem closeFrom_any (C : Nat → Prop) (B b : Nat) (r : Value) (st : List PartV) (n place : Nat) (W0 w : World) (h : BS C B b r st n W0 w) (hp : 1 ≤ place) (hps : place ≤ st.length) (hw : stW (toLs st) ≤ 5000) (htl : ∀ p ∈ st, p.tail.length ≤ 70368744177664) (hl : st.length ≤ 1000000) :
    Calls Tryz.prog 38 #[.pointer (some ⟨b, 0, none⟩), .int .i64 place] w fun e w' => e = .returned (.tuple #[]) ∧ ∃ st', (∃ C' r', BS C' B b r' st' n W0 w') ∧ toLs st' = closeN (st.length - place) (toLs st) ∧ ∀ p ∈ st', p.tail.length ≤ 70368744177664 := by
  obtain ⟨F, hF⟩ : ∃ F, F = closeN (st.length - place) (toLs st) := ⟨_, rfl⟩
  have HS : Hid (RoundC B b n place (st.length - place) F W0 w st) := hide ⟨⟨C, r, h⟩, hF.symm, hw, htl, hl⟩
  have HF := hide hF
  clear h hw htl hl
  go_enter Tryz.func38, Tryz.ntmps38
  go_wp2_with fail
  go_loopg [4, 5] (st.length - place) (fun gk u4 u5 wr => ∃ st' : List PartV, st'.length = place + gk ∧ Hid (RoundC B b n place gk F W0 wr st'))
  case atStart => exact ⟨st, by omega, HS.out⟩
  case round =>
    obtain ⟨st', hlen, HR⟩ := hrel
    cases gk with
    | zero =>
      obtain ⟨⟨C1, r1, hb⟩, h1, h2, h3, h4⟩ := HR.out
      obtain ⟨g, cap, rfl, i1, i2, i3, i4⟩ := hb.form (fun e => by rw [e] at hlen; simp at hlen; omega)
      rw [hlen] at hb
      have c0 := hb.c0
      have t0 : decide ((place : Int) < ((place + 0 : Nat) : Int)) = false := decide_eq_false (by omega)
      have HE : Hid (∃ st', (∃ C' r', BS C' B b r' st' n W0 wr) ∧ toLs st' = F ∧ ∀ p ∈ st', p.tail.length ≤ 70368744177664) := hide ⟨st', ⟨C1, _, hb⟩, h1, h3⟩
      clear hb h1 h2 h3 h4 i1 i2 i3 i4 HR hlen
      go_wp2_with fail
      go_end0
      refine ⟨rfl, ?_⟩
      rw [← HF.out]
      exact HE.out
    | succ gk =>
      match st', hlen, HR with
      | [], hlen, _ => exact absurd hlen (by intro e; simp only [List.length_nil] at e; omega)
      | [p], hlen, _ => exact absurd hlen (by intro e; simp only [List.length_cons, List.length_nil] at e; omega)
      | p :: q :: rest, hlen, HR =>
        obtain ⟨⟨C1, r1, hb⟩, h1, h2, h3, h4⟩ := HR.out
        obtain ⟨g, cap, rfl, i1, i2, i3, i4⟩ := hb.form (by simp)
        have hb2 : BS C1 B b (.slice (some ⟨g, 0, none⟩) (rest.length + 1 + 1) cap) (p :: q :: rest) n W0 wr := hb
        have c0 := hb2.c0
        have f0 := hb2.free 0
        have hl1 : rest.length + 2 = place + (gk + 1) := by simpa using hlen
        have t0 : decide ((place : Int) < (rest.length : Int) + 1 + 1) = true := decide_eq_true (by omega)
        simp only [List.length_cons] at h4 i1
        have hi : Calls Tryz.prog 39 #[.pointer (some ⟨b, 0, none⟩)] wr fun e w' => e = .returned (.pointer (some ⟨g, (rest.length + 1) * 5, none⟩)) ∧ BS C1 B b (.slice (some ⟨g, 0, none⟩) (rest.length + 1 + 1) cap) (p :: q :: rest) n W0 w' := inner_at C1 B b g cap p (q :: rest) n W0 wr hb2 (by simp only [List.length_cons]; omega)
        have HI := hide hi
        have HKL := hide (kids_le (p := p) (List.mem_cons_self ..) h2)
        have HQL := hide (kids_le (p := q) (List.mem_cons_of_mem _ (List.mem_cons_self ..)) h2)
        have HH := hide (And.intro h1 (And.intro h2 (And.intro h3 h4)))
        have HC1 := hide i1
        have HLN := hide hl1
        clear hb hb2 hi h1 h2 h3 h4 i1 i2 i3 i4 HR hlen hl1
        go_wp2_with fail
        refine HI.out.mono ?_
        rintro e w1 ⟨rfl, hb1⟩
        have he : Calls Tryz.prog 40 #[.pointer (some ⟨g, (rest.length + 1) * 5, none⟩)] w1 fun e w' => e = .returned (.tuple #[]) ∧ ∃ p', BS C1 B b (.slice (some ⟨g, 0, none⟩) (rest.length + 1 + 1) cap) (p' :: q :: rest) n W0 w' ∧ p'.toL = endTextL p.toL := endTextT_any C1 B b g cap p (q :: rest) n W0 w1 hb1 (by simp only [List.length_cons]; have := HH.out.2.2.2; omega) (by have := HKL.out; omega) (HH.out.2.2.1 p (List.mem_cons_self ..))
        have HE := hide he
        clear hb1 he c0 f0
        go_wp2_with fail
        refine HE.out.mono ?_
        rintro e w2 ⟨rfl, p', hb2, hp'⟩
        have c0 := hb2.c0
        have f0 := hb2.free 0
        obtain ⟨C2, k1, k2, k3⟩ := hb2.shrink
        have hcc : w2.cell? ⟨g, (rest.length + 1) * 5, none⟩ = some (.string (str p'.name)) ∧ w2.cell? ⟨g, (rest.length + 1) * 5 + 1, none⟩ = some p'.av ∧ w2.cell? ⟨g, (rest.length + 1) * 5 + 2, none⟩ = some (.string ⟨#[]⟩) ∧ w2.cell? ⟨g, (rest.length + 1) * 5 + 3, none⟩ = some p'.kv ∧ w2.cell? ⟨g, (rest.length + 1) * 5 + 4, none⟩ = some p'.tv ∧ (∀ i, w2.frozen? ⟨g, i, none⟩ = false) := BS.cells (rest := q :: rest) hb2
        obtain ⟨x0, x1, x2, x3, x4, xf⟩ := hcc
        have HB3 := hide k1
        have HA3 := hide k2
        have HN3 := hide k3
        have hav : ∃ A c, p'.av = .slice A p'.attrs.length c := by
          obtain ⟨a, c, e⟩ := k2.1.form
          exact ⟨a, c, e⟩
        obtain ⟨KA, KC, hkv⟩ := (hb2.kids p' (List.mem_cons_self ..)).form
        obtain ⟨AA, AC, hav⟩ := hav
        have hne := hb2.rowOut.1
        rw [hav] at x1
        rw [hkv] at x3
        have HP := hide hp'
        have HKV := hide hkv
        have HAV := hide hav
        have tn1 : wrap64 ((rest.length : Int) + 1 + 1 - 1) = (rest.length : Int) + 1 := by unfold wrap64; have := HH.out.2.2.2; omega
        have tn6 : IntKind.i64.wrap ((rest.length : Int) + 1) = (rest.length : Int) + 1 := IntWalk.i64_in _ (by have := HH.out.2.2.2; omega)
        have tn7 : wrap64 ((rest.length : Int) + 1) = (rest.length : Int) + 1 := by unfold wrap64; have := HH.out.2.2.2; omega
        have tn2 : (0 : Int) ≤ (rest.length : Int) + 1 := by omega
        have tn3 : (rest.length : Int) + 1 ≤ (cap : Int) := by have := HC1.out; omega
        have tn4 : ((rest.length : Int) + 1).toNat = rest.length + 1 := by omega
        clear hb2 k1 k2 k3 hp' hkv hav
        go_wp2_with fail
        go_region
        have hfar : ∀ k, (w2.setCell ⟨b, 0, none⟩ (.slice (some ⟨g, 0, none⟩) (rest.length + 1) cap)).drew.cell? ⟨g, k, none⟩ = w2.cell? ⟨g, k, none⟩ := fun k => World.cell?_of_block (Below.heap_setCell w2 ⟨b, 0, none⟩ _ g hne)
        have y0 := (hfar _).trans x0
        have y1 := (hfar _).trans x1
        have y2 := (hfar _).trans x2
        have y3 := (hfar _).trans x3
        have hb4 := HB3.out.kept (Below.refl _ _).drew
        have ha4 : AttrsC C2 (w2.setCell ⟨b, 0, none⟩ (.slice (some ⟨g, 0, none⟩) (rest.length + 1) cap)).drew p'.av p'.attrs := HA3.out.mono (fun _ _ => rfl) (fun _ x => x)
        have hn4 : NodesC C2 (w2.setCell ⟨b, 0, none⟩ (.slice (some ⟨g, 0, none⟩) (rest.length + 1) cap)).drew p'.kv (Tr.of (p'.kids.map Prod.fst)) := HN3.out.mono (fun _ _ => rfl) (fun _ x => x)
        clear hfar x0 x1 x2 x3 x4 xf c0 f0 HB3 HA3 HN3 HE HI
        generalize (w2.setCell ⟨b, 0, none⟩ (.slice (some ⟨g, 0, none⟩) (rest.length + 1) cap)).drew = W3 at y0 y1 y2 y3 hb4 ha4 hn4 ⊢
        have HI4 := hide (inner_at2 C2 B b g cap q rest n W0 W3 hb4 (by have := HH.out.2.2.2; omega))
        have HB4 := hide hb4
        have HA4 := hide ha4
        have HN4 := hide hn4
        have HY := hide (And.intro y0 (And.intro y1 (And.intro y2 y3)))
        clear hb4 ha4 hn4 y0 y1 y2 y3
        go_wp2_with fail
        refine HI4.out.mono ?_
        rintro e w4 ⟨rfl, hb5, m, hm⟩
        have hsame : ∀ k : Nat, w4.heap[k]? = W3.heap[k]? := fun k => by rw [hm]; rfl
        have y0 := (World.cell?_of_block (a := ⟨g, (rest.length + 1) * 5, none⟩) (hsame g)).trans HY.out.1
        have y1 := (World.cell?_of_block (a := ⟨g, (rest.length + 1) * 5 + 1, none⟩) (hsame g)).trans HY.out.2.1
        have y2 := (World.cell?_of_block (a := ⟨g, (rest.length + 1) * 5 + 2, none⟩) (hsame g)).trans HY.out.2.2.1
        have y3 := (World.cell?_of_block (a := ⟨g, (rest.length + 1) * 5 + 3, none⟩) (hsame g)).trans HY.out.2.2.2
        have HA5 := hide (HA4.out.mono (C' := C2) (w' := w4) (fun k _ => hsame k) (fun _ x => x))
        have HN5 := hide (HN4.out.mono (C' := C2) (w' := w4) (fun k _ => hsame k) (fun _ x => x))
        have HB5 := hide hb5
        obtain ⟨QA, QC, hqv⟩ := (hb5.kids q (List.mem_cons_self ..)).form
        obtain ⟨z0, z1, z2, z3, z4, zf⟩ := hb5.cells
        rw [hqv] at z3
        have HQV := hide hqv
        clear hb5 hqv hm hsame HA4 HN4 HY HB4 HI4 z0 z1 z2 z4
        have HOWN : Hid (∀ W, Below w4.heap.size w4 W → W.ownsRow B 33 4 (.slice QA q.kids.length QC) q.kids.length (nodeVals q.kids)) := hide fun W hW => by
          have := ((HB5.out.kept hW).kids q (List.mem_cons_self ..)).row
          rw [HQV.out] at this; exact this
        have z3a : ∀ ob, (w4.alloc ob).cell? ⟨g, rest.length * 5 + 3, none⟩ = some (.slice QA q.kids.length QC) := fun ob => ((below_one w4 ob).cell (World.block_lt_of_cell? _ _ z3)).trans z3
        have y0a : ∀ ob, (w4.alloc ob).cell? ⟨g, (rest.length + 1) * 5, none⟩ = some (.string (str p'.name)) := fun ob => ((below_one w4 ob).cell (World.block_lt_of_cell? _ _ y0)).trans y0
        have y1a : ∀ ob, (w4.alloc ob).cell? ⟨g, (rest.length + 1) * 5 + 1, none⟩ = some (.slice AA p'.attrs.length AC) := fun ob => ((below_one w4 ob).cell (World.block_lt_of_cell? _ _ y1)).trans y1
        have y2a : ∀ ob, (w4.alloc ob).cell? ⟨g, (rest.length + 1) * 5 + 2, none⟩ = some (.string ⟨#[]⟩) := fun ob => ((below_one w4 ob).cell (World.block_lt_of_cell? _ _ y2)).trans y2
        have y3a : ∀ ob, (w4.alloc ob).cell? ⟨g, (rest.length + 1) * 5 + 3, none⟩ = some (.slice KA p'.kids.length KC) := fun ob => ((below_one w4 ob).cell (World.block_lt_of_cell? _ _ y3)).trans y3
        have tn5 : ((q.kids.length : Nat) : Int) < (q.kids.length : Int) + 1 := by omega
        clear tn1 tn2 tn3 tn4 tn6 tn7
        go_wp2_with fail
        go_region_law (first
          | (refine step_node0 rfl _ _ rfl B (.slice QA q.kids.length QC) q.kids rfl (HOWN.out _ ?_) ?_ ⟨w4.heap.size, 0, none⟩ rfl (node_row _ _ _ _ _).1 (node_row _ _ _ _ _).2.1 (node_row _ _ _ _ _).2.2.1 (node_row _ _ _ _ _).2.2.2 (by have := HQL.out; omega) ?_
             · exact ((Below.refl _ _).alloc (Nat.le_refl _) _).drew
             · exact Nat.le_trans HB5.out.size (((Below.refl w4.heap.size w4).alloc (Nat.le_refl _) _).drew).size
             intro g' cap' w5 ho2 hg2 hor2 hc2 hm2
             have hk1 : Below w4.heap.size w4 (w4.alloc (.cells #[.string ⟨#[]⟩, .slice none 0 0, .string ⟨#[]⟩, .slice none 0 0] 33)).drew := ((Below.refl w4.heap.size w4).alloc (Nat.le_refl _) _).drew
             have HB1 := hide (HB5.out.kept hk1)
             have HA6 := hide (HA5.out.mono (C' := C2) (fun k hk => hk1.block k (HB5.out.typ k hk).1) (fun _ x => x))
             have HN6 := hide (HN5.out.mono (C' := C2) (fun k hk => hk1.block k (HB5.out.typ k hk).1) (fun _ x => x))
             have hg3 := hg2
             rw [← HQV.out] at hg3 hor2
             obtain ⟨n1, n2, ⟨n3, n4, n5, n6⟩, n7, n8⟩ := app_facts HB1.out ho2 hg3 hor2
             have n9 : w5.cell? ⟨g, rest.length * 5 + 3, none⟩ = some (.slice QA q.kids.length QC) := (n8 _).trans (z3a _)
             have n11 : ¬ (g = g') := fun e => n1 e.symm
             have HO2 := hide ho2
             have HG2 := hide hg3
             have HOR := hide hor2
             clear ho2 hg2 hg3 hor2 hc2 hm2 n8 hk1))
        all_goals
          first | rw [kid_comm w5 n11] | skip
          have hb6 := HB1.out.kidWritten (q := ((⟨p'.name, p'.attrs, []⟩, Tr.of (p'.kids.map Prod.fst)), (p'.av, p'.kv))) HO2.out HG2.out HOR.out ⟨HA6.out, HN6.out⟩
          simp only at hb6
          rw [HAV.out, HKV.out] at hb6
          have HB7 := hide hb6
          clear hb6
          go_wp2_with fail
          go_roundg gk
          case rel =>
            have heq : toLs (({ q with kids := q.kids ++ [((⟨p'.name, p'.attrs, []⟩, Tr.of (p'.kids.map Prod.fst)), (.slice AA p'.attrs.length AC, .slice KA p'.kids.length KC))], kv := .slice (some ⟨g', 0, none⟩) (q.kids.length + 1) cap' } : PartV) :: rest) = closeTop (toLs (p :: q :: rest)) := by
              show _ = { q.toL with kids := q.toL.kids ++ [(endTextL p.toL).node] } :: toLs rest
              rw [← HP.out]
              simp [toLs, PartV.toL, PartL.node]
            refine ⟨_ :: rest, by have := HLN.out; simp only [List.length_cons]; omega, hide ⟨⟨C2, _, HB7.out⟩, ?_, ?_, ?_, ?_⟩⟩
            · rw [heq]; exact HH.out.1
            · rw [heq, closeTop_wt]; exact HH.out.2.1
            · intro x hx
              rcases List.mem_cons.1 hx with rfl | hx
              · exact HH.out.2.2.1 q (List.mem_cons_of_mem _ (List.mem_cons_self ..))
              · exact HH.out.2.2.1 x (List.mem_cons_of_mem _ (List.mem_cons_of_mem _ hx))
            · have := HH.out.2.2.2; simp only [List.length_cons]; omega
          case measure => omega
end Go.Proofs.YtiejmkjpgjbodaaGreatDoor
