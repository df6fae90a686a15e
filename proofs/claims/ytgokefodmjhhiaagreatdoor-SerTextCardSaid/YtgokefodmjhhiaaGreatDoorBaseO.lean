/- More of the first texts of this claim in one: each with its own head. No statement is proved here. -/
import Derived.Test.YtgokefodmjhhiaaGreatDoorBaseN
import Derived.Deep.LoopGhost
import Derived.IntWalk
import Derived.BigQuiet
import Derived.Deep.QuietTactic
import Derived.Test.YtgokefodmjhhiaaGreatDoorBaseM
import Derived.Test.YtgokefodmjhhiaaGreatDoorShelf
import Derived.Maps.Own
import Derived.Maps.OwnSet
import Derived.Maps.Views
import Derived.Lib.SlTrimSet
import Derived.Shelf.Strings.SlTrimAscii
import Derived.Lib.OthersKept
/- WALK of the tree builder: closeFrom. No statement is proved here. Own work of the verifier. -/
namespace Go.Proofs.YtgokefodmjhhiaaGreatDoor
open Go.RowKit
set_option linter.unusedVariables false
set_option linter.unusedSimpArgs false
set_option maxRecDepth 100000
theorem KRow.form {C : Nat → Prop} {B : Nat} {v : Value} {ks : List KidV} {w : World} (h : KRow C B v ks w) : ∃ A c, v = .slice A ks.length c := by
  rcases h.row.2 with ⟨hv, h0⟩ | ⟨g', cap', cur, hv, _⟩
  · exact ⟨none, 0, by rw [hv, h0]⟩
  · exact ⟨_, _, hv⟩
/-- one is taken off, and put into the one around it -/
def RoundC (B b n place gk : Nat) (F : List PartL) (W0 wr : World) (st : List PartV) : Prop :=
  (∃ C r, BS C B b r st n W0 wr) ∧ closeN gk (toLs st) = F ∧ stW (toLs st) ≤ 5000 ∧ (∀ p ∈ st, p.tail.length ≤ 1099511627776) ∧ st.length ≤ 1000000
theorem toLs_length (st : List PartV) : (toLs st).length = st.length := List.length_map _
theorem kids_le {p : PartV} {st : List PartV} (hp : p ∈ st) (hs : stW (toLs st) ≤ 5000) : p.kids.length ≤ 5000 := by
  have h1 : ∀ (l : List PartL) (q : PartL), q ∈ l → q.kids.length ≤ stW l := by
    intro l
    induction l with
    | nil => intro q hq; cases hq
    | cons x r ih =>
      intro q hq
      have hx : x.kids.length ≤ x.wt := Nat.le_trans (kidsW_len _) (Nat.le_add_right _ _)
      cases r with
      | nil =>
        obtain rfl := List.mem_singleton.1 hq
        exact hx
      | cons y r =>
        rw [stW_cons]
        rcases List.mem_cons.1 hq with rfl | hq
        · omega
        · have := ih q hq; omega
  have := h1 (toLs st) p.toL (List.mem_map_of_mem hp)
  simp only [PartV.toL, List.length_map] at this
  omega
set_option maxHeartbeats 16000000 in
theorem closeFrom_any (C : Nat → Prop) (B b : Nat) (r : Value) (st : List PartV) (n place : Nat) (W0 w : World) (h : BS C B b r st n W0 w) (hp : 1 ≤ place) (hps : place ≤ st.length) (hw : stW (toLs st) ≤ 5000) (htl : ∀ p ∈ st, p.tail.length ≤ 1099511627776) (hl : st.length ≤ 1000000) :
    Calls Tryz.prog 57 #[.pointer (some ⟨b, 0, none⟩), .int .i64 place] w fun e w' => e = .returned (.tuple #[]) ∧ ∃ st', (∃ C' r', BS C' B b r' st' n W0 w') ∧ toLs st' = closeN (st.length - place) (toLs st) ∧ ∀ p ∈ st', p.tail.length ≤ 1099511627776 := by
  obtain ⟨F, hF⟩ : ∃ F, F = closeN (st.length - place) (toLs st) := ⟨_, rfl⟩
  have HS : Hid (RoundC B b n place (st.length - place) F W0 w st) := hide ⟨⟨C, r, h⟩, hF.symm, hw, htl, hl⟩
  have HF := hide hF
  clear h hw htl hl
  go_enter Tryz.func57, Tryz.ntmps57
  go_wp2_with fail
  go_loopg [4, 5] (st.length - place) (fun gk u4 u5 wr => ∃ st' : List PartV, st'.length = place + gk ∧ Hid (RoundC B b n place gk F W0 wr st'))
  case atStart => exact ⟨st, by omega, HS.out⟩
  case round =>
    obtain ⟨st', hlen, HR⟩ := hrel
    cases gk with
    | zero =>
      obtain ⟨⟨C1, r1, hb⟩, h1, h2, h3, h4⟩ := HR.out
      obtain ⟨g, cap, rfl, i1, i2, i3, i4⟩ := hb.form (fun e => by rw [e] at hlen; simp at hlen; omega)
      rw [hlen] at hb
      have c0 := hb.c0
      have t0 : decide ((place : Int) < ((place + 0 : Nat) : Int)) = false := decide_eq_false (by omega)
      have HE : Hid (∃ st', (∃ C' r', BS C' B b r' st' n W0 wr) ∧ toLs st' = F ∧ ∀ p ∈ st', p.tail.length ≤ 1099511627776) := hide ⟨st', ⟨C1, _, hb⟩, h1, h3⟩
      clear hb h1 h2 h3 h4 i1 i2 i3 i4 HR hlen
      go_wp2_with fail
      go_end0
      refine ⟨rfl, ?_⟩
      rw [← HF.out]
      exact HE.out
    | succ gk =>
      match st', hlen, HR with
      | [], hlen, _ => exact absurd hlen (by intro e; simp only [List.length_nil] at e; omega)
      | [p], hlen, _ => exact absurd hlen (by intro e; simp only [List.length_cons, List.length_nil] at e; omega)
      | p :: q :: rest, hlen, HR =>
        obtain ⟨⟨C1, r1, hb⟩, h1, h2, h3, h4⟩ := HR.out
        obtain ⟨g, cap, rfl, i1, i2, i3, i4⟩ := hb.form (by simp)
        have hb2 : BS C1 B b (.slice (some ⟨g, 0, none⟩) (rest.length + 1 + 1) cap) (p :: q :: rest) n W0 wr := hb
        have c0 := hb2.c0
        have f0 := hb2.free 0
        have hl1 : rest.length + 2 = place + (gk + 1) := by simpa using hlen
        have t0 : decide ((place : Int) < (rest.length : Int) + 1 + 1) = true := decide_eq_true (by omega)
        simp only [List.length_cons] at h4 i1
        have hi : Calls Tryz.prog 58 #[.pointer (some ⟨b, 0, none⟩)] wr fun e w' => e = .returned (.pointer (some ⟨g, (rest.length + 1) * 5, none⟩)) ∧ BS C1 B b (.slice (some ⟨g, 0, none⟩) (rest.length + 1 + 1) cap) (p :: q :: rest) n W0 w' := inner_at C1 B b g cap p (q :: rest) n W0 wr hb2 (by simp only [List.length_cons]; omega)
        have HI := hide hi
        have HKL := hide (kids_le (p := p) (List.mem_cons_self ..) h2)
        have HQL := hide (kids_le (p := q) (List.mem_cons_of_mem _ (List.mem_cons_self ..)) h2)
        have HH := hide (And.intro h1 (And.intro h2 (And.intro h3 h4)))
        have HC1 := hide i1
        have HLN := hide hl1
        clear hb hb2 hi h1 h2 h3 h4 i1 i2 i3 i4 HR hlen hl1
        go_wp2_with fail
        refine HI.out.mono ?_
        rintro e w1 ⟨rfl, hb1⟩
        have he : Calls Tryz.prog 59 #[.pointer (some ⟨g, (rest.length + 1) * 5, none⟩)] w1 fun e w' => e = .returned (.tuple #[]) ∧ ∃ p', BS C1 B b (.slice (some ⟨g, 0, none⟩) (rest.length + 1 + 1) cap) (p' :: q :: rest) n W0 w' ∧ p'.toL = endTextL p.toL := endTextT_any C1 B b g cap p (q :: rest) n W0 w1 hb1 (by simp only [List.length_cons]; have := HH.out.2.2.2; omega) (by have := HKL.out; omega) (HH.out.2.2.1 p (List.mem_cons_self ..))
        have HE := hide he
        clear hb1 he c0 f0
        go_wp2_with fail
        refine HE.out.mono ?_
        rintro e w2 ⟨rfl, p', hb2, hp'⟩
        have c0 := hb2.c0
        have f0 := hb2.free 0
        obtain ⟨C2, k1, k2, k3⟩ := hb2.shrink
        have hcc : w2.cell? ⟨g, (rest.length + 1) * 5, none⟩ = some (.string (str p'.name)) ∧ w2.cell? ⟨g, (rest.length + 1) * 5 + 1, none⟩ = some p'.av ∧ w2.cell? ⟨g, (rest.length + 1) * 5 + 2, none⟩ = some (.string ⟨#[]⟩) ∧ w2.cell? ⟨g, (rest.length + 1) * 5 + 3, none⟩ = some p'.kv ∧ w2.cell? ⟨g, (rest.length + 1) * 5 + 4, none⟩ = some p'.tv ∧ (∀ i, w2.frozen? ⟨g, i, none⟩ = false) := BS.cells (rest := q :: rest) hb2
        obtain ⟨x0, x1, x2, x3, x4, xf⟩ := hcc
        have HB3 := hide k1
        have HA3 := hide k2
        have HN3 := hide k3
        have hav : ∃ A c, p'.av = .slice A p'.attrs.length c := by
          obtain ⟨a, c, e⟩ := k2.1.form
          exact ⟨a, c, e⟩
        obtain ⟨KA, KC, hkv⟩ := (hb2.kids p' (List.mem_cons_self ..)).form
        obtain ⟨AA, AC, hav⟩ := hav
        have hne := hb2.rowOut.1
        rw [hav] at x1
        rw [hkv] at x3
        have HP := hide hp'
        have HKV := hide hkv
        have HAV := hide hav
        have tn1 : wrap64 ((rest.length : Int) + 1 + 1 - 1) = (rest.length : Int) + 1 := by unfold wrap64; have := HH.out.2.2.2; omega
        have tn6 : IntKind.i64.wrap ((rest.length : Int) + 1) = (rest.length : Int) + 1 := IntWalk.i64_in _ (by have := HH.out.2.2.2; omega)
        have tn7 : wrap64 ((rest.length : Int) + 1) = (rest.length : Int) + 1 := by unfold wrap64; have := HH.out.2.2.2; omega
        have tn2 : (0 : Int) ≤ (rest.length : Int) + 1 := by omega
        have tn3 : (rest.length : Int) + 1 ≤ (cap : Int) := by have := HC1.out; omega
        have tn4 : ((rest.length : Int) + 1).toNat = rest.length + 1 := by omega
        clear hb2 k1 k2 k3 hp' hkv hav
        go_wp2_with fail
        go_region
        have hfar : ∀ k, (w2.setCell ⟨b, 0, none⟩ (.slice (some ⟨g, 0, none⟩) (rest.length + 1) cap)).drew.cell? ⟨g, k, none⟩ = w2.cell? ⟨g, k, none⟩ := fun k => World.cell?_of_block (Below.heap_setCell w2 ⟨b, 0, none⟩ _ g hne)
        have y0 := (hfar _).trans x0
        have y1 := (hfar _).trans x1
        have y2 := (hfar _).trans x2
        have y3 := (hfar _).trans x3
        have hb4 := HB3.out.kept (Below.refl _ _).drew
        have ha4 : AttrsC C2 (w2.setCell ⟨b, 0, none⟩ (.slice (some ⟨g, 0, none⟩) (rest.length + 1) cap)).drew p'.av p'.attrs := HA3.out.mono (fun _ _ => rfl) (fun _ x => x)
        have hn4 : NodesC C2 (w2.setCell ⟨b, 0, none⟩ (.slice (some ⟨g, 0, none⟩) (rest.length + 1) cap)).drew p'.kv (Tr.of (p'.kids.map Prod.fst)) := HN3.out.mono (fun _ _ => rfl) (fun _ x => x)
        clear hfar x0 x1 x2 x3 x4 xf c0 f0 HB3 HA3 HN3 HE HI
        generalize (w2.setCell ⟨b, 0, none⟩ (.slice (some ⟨g, 0, none⟩) (rest.length + 1) cap)).drew = W3 at y0 y1 y2 y3 hb4 ha4 hn4 ⊢
        have HI4 := hide (inner_at2 C2 B b g cap q rest n W0 W3 hb4 (by have := HH.out.2.2.2; omega))
        have HB4 := hide hb4
        have HA4 := hide ha4
        have HN4 := hide hn4
        have HY := hide (And.intro y0 (And.intro y1 (And.intro y2 y3)))
        clear hb4 ha4 hn4 y0 y1 y2 y3
        go_wp2_with fail
        refine HI4.out.mono ?_
        rintro e w4 ⟨rfl, hb5, m, hm⟩
        have hsame : ∀ k : Nat, w4.heap[k]? = W3.heap[k]? := fun k => by rw [hm]; rfl
        have y0 := (World.cell?_of_block (a := ⟨g, (rest.length + 1) * 5, none⟩) (hsame g)).trans HY.out.1
        have y1 := (World.cell?_of_block (a := ⟨g, (rest.length + 1) * 5 + 1, none⟩) (hsame g)).trans HY.out.2.1
        have y2 := (World.cell?_of_block (a := ⟨g, (rest.length + 1) * 5 + 2, none⟩) (hsame g)).trans HY.out.2.2.1
        have y3 := (World.cell?_of_block (a := ⟨g, (rest.length + 1) * 5 + 3, none⟩) (hsame g)).trans HY.out.2.2.2
        have HA5 := hide (HA4.out.mono (C' := C2) (w' := w4) (fun k _ => hsame k) (fun _ x => x))
        have HN5 := hide (HN4.out.mono (C' := C2) (w' := w4) (fun k _ => hsame k) (fun _ x => x))
        have HB5 := hide hb5
        obtain ⟨QA, QC, hqv⟩ := (hb5.kids q (List.mem_cons_self ..)).form
        obtain ⟨z0, z1, z2, z3, z4, zf⟩ := hb5.cells
        rw [hqv] at z3
        have HQV := hide hqv
        clear hb5 hqv hm hsame HA4 HN4 HY HB4 HI4 z0 z1 z2 z4
        have HOWN : Hid (∀ W, Below w4.heap.size w4 W → W.ownsRow B 41 4 (.slice QA q.kids.length QC) q.kids.length (nodeVals q.kids)) := hide fun W hW => by
          have := ((HB5.out.kept hW).kids q (List.mem_cons_self ..)).row
          rw [HQV.out] at this; exact this
        have z3a : ∀ ob, (w4.alloc ob).cell? ⟨g, rest.length * 5 + 3, none⟩ = some (.slice QA q.kids.length QC) := fun ob => ((below_one w4 ob).cell (World.block_lt_of_cell? _ _ z3)).trans z3
        have y0a : ∀ ob, (w4.alloc ob).cell? ⟨g, (rest.length + 1) * 5, none⟩ = some (.string (str p'.name)) := fun ob => ((below_one w4 ob).cell (World.block_lt_of_cell? _ _ y0)).trans y0
        have y1a : ∀ ob, (w4.alloc ob).cell? ⟨g, (rest.length + 1) * 5 + 1, none⟩ = some (.slice AA p'.attrs.length AC) := fun ob => ((below_one w4 ob).cell (World.block_lt_of_cell? _ _ y1)).trans y1
        have y2a : ∀ ob, (w4.alloc ob).cell? ⟨g, (rest.length + 1) * 5 + 2, none⟩ = some (.string ⟨#[]⟩) := fun ob => ((below_one w4 ob).cell (World.block_lt_of_cell? _ _ y2)).trans y2
        have y3a : ∀ ob, (w4.alloc ob).cell? ⟨g, (rest.length + 1) * 5 + 3, none⟩ = some (.slice KA p'.kids.length KC) := fun ob => ((below_one w4 ob).cell (World.block_lt_of_cell? _ _ y3)).trans y3
        have tn5 : ((q.kids.length : Nat) : Int) < (q.kids.length : Int) + 1 := by omega
        clear tn1 tn2 tn3 tn4 tn6 tn7
        go_wp2_with fail
        go_region_law (first
          | (refine step_node0 rfl _ _ rfl B (.slice QA q.kids.length QC) q.kids rfl (HOWN.out _ ?_) ?_ ⟨w4.heap.size, 0, none⟩ rfl (node_row _ _ _ _ _).1 (node_row _ _ _ _ _).2.1 (node_row _ _ _ _ _).2.2.1 (node_row _ _ _ _ _).2.2.2 (by have := HQL.out; omega) ?_
             · exact ((Below.refl _ _).alloc (Nat.le_refl _) _).drew
             · exact Nat.le_trans HB5.out.size (((Below.refl w4.heap.size w4).alloc (Nat.le_refl _) _).drew).size
             intro g' cap' w5 ho2 hg2 hor2 hc2 hm2
             have hk1 : Below w4.heap.size w4 (w4.alloc (.cells #[.string ⟨#[]⟩, .slice none 0 0, .string ⟨#[]⟩, .slice none 0 0] 41)).drew := ((Below.refl w4.heap.size w4).alloc (Nat.le_refl _) _).drew
             have HB1 := hide (HB5.out.kept hk1)
             have HA6 := hide (HA5.out.mono (C' := C2) (fun k hk => hk1.block k (HB5.out.typ k hk).1) (fun _ x => x))
             have HN6 := hide (HN5.out.mono (C' := C2) (fun k hk => hk1.block k (HB5.out.typ k hk).1) (fun _ x => x))
             have hg3 := hg2
             rw [← HQV.out] at hg3 hor2
             obtain ⟨n1, n2, ⟨n3, n4, n5, n6⟩, n7, n8⟩ := app_facts HB1.out ho2 hg3 hor2
             have n9 : w5.cell? ⟨g, rest.length * 5 + 3, none⟩ = some (.slice QA q.kids.length QC) := (n8 _).trans (z3a _)
             have n11 : ¬ (g = g') := fun e => n1 e.symm
             have HO2 := hide ho2
             have HG2 := hide hg3
             have HOR := hide hor2
             clear ho2 hg2 hg3 hor2 hc2 hm2 n8 hk1))
        all_goals
          first | rw [kid_comm w5 n11] | skip
          have hb6 := HB1.out.kidWritten (q := ((⟨p'.name, p'.attrs, []⟩, Tr.of (p'.kids.map Prod.fst)), (p'.av, p'.kv))) HO2.out HG2.out HOR.out ⟨HA6.out, HN6.out⟩
          simp only at hb6
          rw [HAV.out, HKV.out] at hb6
          have HB7 := hide hb6
          clear hb6
          go_wp2_with fail
          go_roundg gk
          case rel =>
            have heq : toLs (({ q with kids := q.kids ++ [((⟨p'.name, p'.attrs, []⟩, Tr.of (p'.kids.map Prod.fst)), (.slice AA p'.attrs.length AC, .slice KA p'.kids.length KC))], kv := .slice (some ⟨g', 0, none⟩) (q.kids.length + 1) cap' } : PartV) :: rest) = closeTop (toLs (p :: q :: rest)) := by
              show _ = { q.toL with kids := q.toL.kids ++ [(endTextL p.toL).node] } :: toLs rest
              rw [← HP.out]
              simp [toLs, PartV.toL, PartL.node]
            refine ⟨_ :: rest, by have := HLN.out; simp only [List.length_cons]; omega, hide ⟨⟨C2, _, HB7.out⟩, ?_, ?_, ?_, ?_⟩⟩
            · rw [heq]; exact HH.out.1
            · rw [heq, closeTop_wt]; exact HH.out.2.1
            · intro x hx
              rcases List.mem_cons.1 hx with rfl | hx
              · exact HH.out.2.2.1 q (List.mem_cons_of_mem _ (List.mem_cons_self ..))
              · exact HH.out.2.2.1 x (List.mem_cons_of_mem _ (List.mem_cons_of_mem _ hx))
            · have := HH.out.2.2.2; simp only [List.length_cons]; omega
          case measure => omega
end Go.Proofs.YtgokefodmjhhiaaGreatDoor

/- WALKS of package tree: isWall, isHeading, Void, isBlock. Written by wip/tools/treenames.py. No statement is proved here. Own work of the verifier. -/
namespace Go.Proofs.YtgokefodmjhhiaaGreatDoor
open Go.RowKit
set_option linter.unusedVariables false
set_option linter.unusedSimpArgs false
set_option maxRecDepth 100000
set_option maxHeartbeats 8000000 in
theorem isWall_any (n : ByteArray) (w : World) : Calls Tryz.prog 109 #[.string n] w fun e w' => e = .returned (.bool (wallL.contains n.data.toList)) ∧ w = w' := by
  cases hk : wallL.contains n.data.toList with
  | true =>
    have hc : n.data.toList = [116, 97, 98, 108, 101] ∨ n.data.toList = [98, 117, 116, 116, 111, 110] ∨ n.data.toList = [117, 108] ∨ n.data.toList = [111, 108] ∨ n.data.toList = [100, 108] ∨ n.data.toList = [115, 118, 103] ∨ n.data.toList = [109, 97, 116, 104] ∨ n.data.toList = [116, 101, 109, 112, 108, 97, 116, 101] ∨ n.data.toList = [111, 98, 106, 101, 99, 116] ∨ n.data.toList = [97, 112, 112, 108, 101, 116] ∨ n.data.toList = [109, 97, 114, 113, 117, 101, 101] := by simpa [wallL] using hk
    clear hk
    rcases hc with h | h | h | h | h | h | h | h | h | h | h
    · obtain rfl : n = ⟨#[116, 97, 98, 108, 101]⟩ := ext_list h
      clear h
      go_enter Tryz.func109, Tryz.ntmps109
      go_wp2_with fail
      go_ret
      exact ⟨rfl, rfl⟩
    · obtain rfl : n = ⟨#[98, 117, 116, 116, 111, 110]⟩ := ext_list h
      clear h
      go_enter Tryz.func109, Tryz.ntmps109
      go_wp2_with fail
      go_ret
      exact ⟨rfl, rfl⟩
    · obtain rfl : n = ⟨#[117, 108]⟩ := ext_list h
      clear h
      go_enter Tryz.func109, Tryz.ntmps109
      go_wp2_with fail
      go_ret
      exact ⟨rfl, rfl⟩
    · obtain rfl : n = ⟨#[111, 108]⟩ := ext_list h
      clear h
      go_enter Tryz.func109, Tryz.ntmps109
      go_wp2_with fail
      go_ret
      exact ⟨rfl, rfl⟩
    · obtain rfl : n = ⟨#[100, 108]⟩ := ext_list h
      clear h
      go_enter Tryz.func109, Tryz.ntmps109
      go_wp2_with fail
      go_ret
      exact ⟨rfl, rfl⟩
    · obtain rfl : n = ⟨#[115, 118, 103]⟩ := ext_list h
      clear h
      go_enter Tryz.func109, Tryz.ntmps109
      go_wp2_with fail
      go_ret
      exact ⟨rfl, rfl⟩
    · obtain rfl : n = ⟨#[109, 97, 116, 104]⟩ := ext_list h
      clear h
      go_enter Tryz.func109, Tryz.ntmps109
      go_wp2_with fail
      go_ret
      exact ⟨rfl, rfl⟩
    · obtain rfl : n = ⟨#[116, 101, 109, 112, 108, 97, 116, 101]⟩ := ext_list h
      clear h
      go_enter Tryz.func109, Tryz.ntmps109
      go_wp2_with fail
      go_ret
      exact ⟨rfl, rfl⟩
    · obtain rfl : n = ⟨#[111, 98, 106, 101, 99, 116]⟩ := ext_list h
      clear h
      go_enter Tryz.func109, Tryz.ntmps109
      go_wp2_with fail
      go_ret
      exact ⟨rfl, rfl⟩
    · obtain rfl : n = ⟨#[97, 112, 112, 108, 101, 116]⟩ := ext_list h
      clear h
      go_enter Tryz.func109, Tryz.ntmps109
      go_wp2_with fail
      go_ret
      exact ⟨rfl, rfl⟩
    · obtain rfl : n = ⟨#[109, 97, 114, 113, 117, 101, 101]⟩ := ext_list h
      clear h
      go_enter Tryz.func109, Tryz.ntmps109
      go_wp2_with fail
      go_ret
      exact ⟨rfl, rfl⟩
  | false =>
    have hc : n.data.toList ≠ [116, 97, 98, 108, 101] ∧ n.data.toList ≠ [98, 117, 116, 116, 111, 110] ∧ n.data.toList ≠ [117, 108] ∧ n.data.toList ≠ [111, 108] ∧ n.data.toList ≠ [100, 108] ∧ n.data.toList ≠ [115, 118, 103] ∧ n.data.toList ≠ [109, 97, 116, 104] ∧ n.data.toList ≠ [116, 101, 109, 112, 108, 97, 116, 101] ∧ n.data.toList ≠ [111, 98, 106, 101, 99, 116] ∧ n.data.toList ≠ [97, 112, 112, 108, 101, 116] ∧ n.data.toList ≠ [109, 97, 114, 113, 117, 101, 101] := by simpa [wallL] using hk
    clear hk
    obtain ⟨tn0, tn1, tn2, tn3, tn4, tn5, tn6, tn7, tn8, tn9, tn10⟩ := hc
    have t0 : (n.toList == [116, 97, 98, 108, 101]) = false := beq_eq_false_iff_ne.2 (by rw [bytes_list]; exact tn0)
    have t1 : (n.toList == [98, 117, 116, 116, 111, 110]) = false := beq_eq_false_iff_ne.2 (by rw [bytes_list]; exact tn1)
    have t2 : (n.toList == [117, 108]) = false := beq_eq_false_iff_ne.2 (by rw [bytes_list]; exact tn2)
    have t3 : (n.toList == [111, 108]) = false := beq_eq_false_iff_ne.2 (by rw [bytes_list]; exact tn3)
    have t4 : (n.toList == [100, 108]) = false := beq_eq_false_iff_ne.2 (by rw [bytes_list]; exact tn4)
    have t5 : (n.toList == [115, 118, 103]) = false := beq_eq_false_iff_ne.2 (by rw [bytes_list]; exact tn5)
    have t6 : (n.toList == [109, 97, 116, 104]) = false := beq_eq_false_iff_ne.2 (by rw [bytes_list]; exact tn6)
    have t7 : (n.toList == [116, 101, 109, 112, 108, 97, 116, 101]) = false := beq_eq_false_iff_ne.2 (by rw [bytes_list]; exact tn7)
    have t8 : (n.toList == [111, 98, 106, 101, 99, 116]) = false := beq_eq_false_iff_ne.2 (by rw [bytes_list]; exact tn8)
    have t9 : (n.toList == [97, 112, 112, 108, 101, 116]) = false := beq_eq_false_iff_ne.2 (by rw [bytes_list]; exact tn9)
    have t10 : (n.toList == [109, 97, 114, 113, 117, 101, 101]) = false := beq_eq_false_iff_ne.2 (by rw [bytes_list]; exact tn10)
    clear tn0 tn1 tn2 tn3 tn4 tn5 tn6 tn7 tn8 tn9 tn10
    go_enter Tryz.func109, Tryz.ntmps109
    go_wp2_with fail
    go_ret
    exact ⟨rfl, rfl⟩
set_option maxHeartbeats 8000000 in
theorem isHeading_any (n : ByteArray) (w : World) : Calls Tryz.prog 70 #[.string n] w fun e w' => e = .returned (.bool (headNL.contains n.data.toList)) ∧ w = w' := by
  cases hk : headNL.contains n.data.toList with
  | true =>
    have hc : n.data.toList = [104, 49] ∨ n.data.toList = [104, 50] ∨ n.data.toList = [104, 51] ∨ n.data.toList = [104, 52] ∨ n.data.toList = [104, 53] ∨ n.data.toList = [104, 54] := by simpa [headNL] using hk
    clear hk
    rcases hc with h | h | h | h | h | h
    · obtain rfl : n = ⟨#[104, 49]⟩ := ext_list h
      clear h
      go_enter Tryz.func70, Tryz.ntmps70
      go_wp2_with fail
      go_ret
      exact ⟨rfl, rfl⟩
    · obtain rfl : n = ⟨#[104, 50]⟩ := ext_list h
      clear h
      go_enter Tryz.func70, Tryz.ntmps70
      go_wp2_with fail
      go_ret
      exact ⟨rfl, rfl⟩
    · obtain rfl : n = ⟨#[104, 51]⟩ := ext_list h
      clear h
      go_enter Tryz.func70, Tryz.ntmps70
      go_wp2_with fail
      go_ret
      exact ⟨rfl, rfl⟩
    · obtain rfl : n = ⟨#[104, 52]⟩ := ext_list h
      clear h
      go_enter Tryz.func70, Tryz.ntmps70
      go_wp2_with fail
      go_ret
      exact ⟨rfl, rfl⟩
    · obtain rfl : n = ⟨#[104, 53]⟩ := ext_list h
      clear h
      go_enter Tryz.func70, Tryz.ntmps70
      go_wp2_with fail
      go_ret
      exact ⟨rfl, rfl⟩
    · obtain rfl : n = ⟨#[104, 54]⟩ := ext_list h
      clear h
      go_enter Tryz.func70, Tryz.ntmps70
      go_wp2_with fail
      go_ret
      exact ⟨rfl, rfl⟩
  | false =>
    have hc : n.data.toList ≠ [104, 49] ∧ n.data.toList ≠ [104, 50] ∧ n.data.toList ≠ [104, 51] ∧ n.data.toList ≠ [104, 52] ∧ n.data.toList ≠ [104, 53] ∧ n.data.toList ≠ [104, 54] := by simpa [headNL] using hk
    clear hk
    obtain ⟨tn0, tn1, tn2, tn3, tn4, tn5⟩ := hc
    have t0 : (n.toList == [104, 49]) = false := beq_eq_false_iff_ne.2 (by rw [bytes_list]; exact tn0)
    have t1 : (n.toList == [104, 50]) = false := beq_eq_false_iff_ne.2 (by rw [bytes_list]; exact tn1)
    have t2 : (n.toList == [104, 51]) = false := beq_eq_false_iff_ne.2 (by rw [bytes_list]; exact tn2)
    have t3 : (n.toList == [104, 52]) = false := beq_eq_false_iff_ne.2 (by rw [bytes_list]; exact tn3)
    have t4 : (n.toList == [104, 53]) = false := beq_eq_false_iff_ne.2 (by rw [bytes_list]; exact tn4)
    have t5 : (n.toList == [104, 54]) = false := beq_eq_false_iff_ne.2 (by rw [bytes_list]; exact tn5)
    clear tn0 tn1 tn2 tn3 tn4 tn5
    go_enter Tryz.func70, Tryz.ntmps70
    go_wp2_with fail
    go_ret
    exact ⟨rfl, rfl⟩
set_option maxHeartbeats 8000000 in
theorem void14_any (n : ByteArray) (w : World) : Calls Tryz.prog 32 #[.string n] w fun e w' => e = .returned (.bool (voidL.contains n.data.toList)) ∧ w = w' := by
  cases hk : voidL.contains n.data.toList with
  | true =>
    have hc : n.data.toList = [97, 114, 101, 97] ∨ n.data.toList = [98, 97, 115, 101] ∨ n.data.toList = [98, 114] ∨ n.data.toList = [99, 111, 108] ∨ n.data.toList = [101, 109, 98, 101, 100] ∨ n.data.toList = [104, 114] ∨ n.data.toList = [105, 109, 103] ∨ n.data.toList = [105, 110, 112, 117, 116] ∨ n.data.toList = [108, 105, 110, 107] ∨ n.data.toList = [109, 101, 116, 97] ∨ n.data.toList = [115, 111, 117, 114, 99, 101] ∨ n.data.toList = [116, 114, 97, 99, 107] ∨ n.data.toList = [119, 98, 114] := by simpa [voidL] using hk
    clear hk
    rcases hc with h | h | h | h | h | h | h | h | h | h | h | h | h
    · obtain rfl : n = ⟨#[97, 114, 101, 97]⟩ := ext_list h
      clear h
      go_enter Tryz.func32, Tryz.ntmps32
      go_wp2_with fail
      go_ret
      exact ⟨rfl, rfl⟩
    · obtain rfl : n = ⟨#[98, 97, 115, 101]⟩ := ext_list h
      clear h
      go_enter Tryz.func32, Tryz.ntmps32
      go_wp2_with fail
      go_ret
      exact ⟨rfl, rfl⟩
    · obtain rfl : n = ⟨#[98, 114]⟩ := ext_list h
      clear h
      go_enter Tryz.func32, Tryz.ntmps32
      go_wp2_with fail
      go_ret
      exact ⟨rfl, rfl⟩
    · obtain rfl : n = ⟨#[99, 111, 108]⟩ := ext_list h
      clear h
      go_enter Tryz.func32, Tryz.ntmps32
      go_wp2_with fail
      go_ret
      exact ⟨rfl, rfl⟩
    · obtain rfl : n = ⟨#[101, 109, 98, 101, 100]⟩ := ext_list h
      clear h
      go_enter Tryz.func32, Tryz.ntmps32
      go_wp2_with fail
      go_ret
      exact ⟨rfl, rfl⟩
    · obtain rfl : n = ⟨#[104, 114]⟩ := ext_list h
      clear h
      go_enter Tryz.func32, Tryz.ntmps32
      go_wp2_with fail
      go_ret
      exact ⟨rfl, rfl⟩
    · obtain rfl : n = ⟨#[105, 109, 103]⟩ := ext_list h
      clear h
      go_enter Tryz.func32, Tryz.ntmps32
      go_wp2_with fail
      go_ret
      exact ⟨rfl, rfl⟩
    · obtain rfl : n = ⟨#[105, 110, 112, 117, 116]⟩ := ext_list h
      clear h
      go_enter Tryz.func32, Tryz.ntmps32
      go_wp2_with fail
      go_ret
      exact ⟨rfl, rfl⟩
    · obtain rfl : n = ⟨#[108, 105, 110, 107]⟩ := ext_list h
      clear h
      go_enter Tryz.func32, Tryz.ntmps32
      go_wp2_with fail
      go_ret
      exact ⟨rfl, rfl⟩
    · obtain rfl : n = ⟨#[109, 101, 116, 97]⟩ := ext_list h
      clear h
      go_enter Tryz.func32, Tryz.ntmps32
      go_wp2_with fail
      go_ret
      exact ⟨rfl, rfl⟩
    · obtain rfl : n = ⟨#[115, 111, 117, 114, 99, 101]⟩ := ext_list h
      clear h
      go_enter Tryz.func32, Tryz.ntmps32
      go_wp2_with fail
      go_ret
      exact ⟨rfl, rfl⟩
    · obtain rfl : n = ⟨#[116, 114, 97, 99, 107]⟩ := ext_list h
      clear h
      go_enter Tryz.func32, Tryz.ntmps32
      go_wp2_with fail
      go_ret
      exact ⟨rfl, rfl⟩
    · obtain rfl : n = ⟨#[119, 98, 114]⟩ := ext_list h
      clear h
      go_enter Tryz.func32, Tryz.ntmps32
      go_wp2_with fail
      go_ret
      exact ⟨rfl, rfl⟩
  | false =>
    have hc : n.data.toList ≠ [97, 114, 101, 97] ∧ n.data.toList ≠ [98, 97, 115, 101] ∧ n.data.toList ≠ [98, 114] ∧ n.data.toList ≠ [99, 111, 108] ∧ n.data.toList ≠ [101, 109, 98, 101, 100] ∧ n.data.toList ≠ [104, 114] ∧ n.data.toList ≠ [105, 109, 103] ∧ n.data.toList ≠ [105, 110, 112, 117, 116] ∧ n.data.toList ≠ [108, 105, 110, 107] ∧ n.data.toList ≠ [109, 101, 116, 97] ∧ n.data.toList ≠ [115, 111, 117, 114, 99, 101] ∧ n.data.toList ≠ [116, 114, 97, 99, 107] ∧ n.data.toList ≠ [119, 98, 114] := by simpa [voidL] using hk
    clear hk
    obtain ⟨tn0, tn1, tn2, tn3, tn4, tn5, tn6, tn7, tn8, tn9, tn10, tn11, tn12⟩ := hc
    have t0 : (n.toList == [97, 114, 101, 97]) = false := beq_eq_false_iff_ne.2 (by rw [bytes_list]; exact tn0)
    have t1 : (n.toList == [98, 97, 115, 101]) = false := beq_eq_false_iff_ne.2 (by rw [bytes_list]; exact tn1)
    have t2 : (n.toList == [98, 114]) = false := beq_eq_false_iff_ne.2 (by rw [bytes_list]; exact tn2)
    have t3 : (n.toList == [99, 111, 108]) = false := beq_eq_false_iff_ne.2 (by rw [bytes_list]; exact tn3)
    have t4 : (n.toList == [101, 109, 98, 101, 100]) = false := beq_eq_false_iff_ne.2 (by rw [bytes_list]; exact tn4)
    have t5 : (n.toList == [104, 114]) = false := beq_eq_false_iff_ne.2 (by rw [bytes_list]; exact tn5)
    have t6 : (n.toList == [105, 109, 103]) = false := beq_eq_false_iff_ne.2 (by rw [bytes_list]; exact tn6)
    have t7 : (n.toList == [105, 110, 112, 117, 116]) = false := beq_eq_false_iff_ne.2 (by rw [bytes_list]; exact tn7)
    have t8 : (n.toList == [108, 105, 110, 107]) = false := beq_eq_false_iff_ne.2 (by rw [bytes_list]; exact tn8)
    have t9 : (n.toList == [109, 101, 116, 97]) = false := beq_eq_false_iff_ne.2 (by rw [bytes_list]; exact tn9)
    have t10 : (n.toList == [115, 111, 117, 114, 99, 101]) = false := beq_eq_false_iff_ne.2 (by rw [bytes_list]; exact tn10)
    have t11 : (n.toList == [116, 114, 97, 99, 107]) = false := beq_eq_false_iff_ne.2 (by rw [bytes_list]; exact tn11)
    have t12 : (n.toList == [119, 98, 114]) = false := beq_eq_false_iff_ne.2 (by rw [bytes_list]; exact tn12)
    clear tn0 tn1 tn2 tn3 tn4 tn5 tn6 tn7 tn8 tn9 tn10 tn11 tn12
    go_enter Tryz.func32, Tryz.ntmps32
    go_wp2_with fail
    go_ret
    exact ⟨rfl, rfl⟩
set_option maxHeartbeats 8000000 in
theorem isBlock_any (n : ByteArray) (w : World) : Calls Tryz.prog 69 #[.string n] w fun e w' => e = .returned (.bool (blockNL.contains n.data.toList)) ∧ w = w' := by
  have hh : ∀ bb : Bool, headNL.contains n.data.toList = bb → Calls Tryz.prog 70 #[.string n] w fun e w' => e = .returned (.bool bb) ∧ w = w' := fun bb e => by rw [← e]; exact isHeading_any n w
  cases hk : blockNL.contains n.data.toList with
  | true =>
    have hc : n.data.toList = [97, 100, 100, 114, 101, 115, 115] ∨ n.data.toList = [97, 114, 116, 105, 99, 108, 101] ∨ n.data.toList = [97, 115, 105, 100, 101] ∨ n.data.toList = [98, 108, 111, 99, 107, 113, 117, 111, 116, 101] ∨ n.data.toList = [99, 101, 110, 116, 101, 114] ∨ n.data.toList = [100, 101, 116, 97, 105, 108, 115] ∨ n.data.toList = [100, 105, 118] ∨ n.data.toList = [100, 108] ∨ n.data.toList = [102, 105, 101, 108, 100, 115, 101, 116] ∨ n.data.toList = [102, 105, 103, 117, 114, 101] ∨ n.data.toList = [102, 111, 111, 116, 101, 114] ∨ n.data.toList = [102, 111, 114, 109] ∨ n.data.toList = [104, 101, 97, 100, 101, 114] ∨ n.data.toList = [104, 114] ∨ n.data.toList = [108, 105] ∨ n.data.toList = [109, 97, 105, 110] ∨ n.data.toList = [110, 97, 118] ∨ n.data.toList = [111, 108] ∨ n.data.toList = [112] ∨ n.data.toList = [112, 114, 101] ∨ n.data.toList = [115, 101, 99, 116, 105, 111, 110] ∨ n.data.toList = [116, 97, 98, 108, 101] ∨ n.data.toList = [117, 108] ∨ n.data.toList = [100, 100] ∨ n.data.toList = [100, 116] ∨ n.data.toList = [104, 49] ∨ n.data.toList = [104, 50] ∨ n.data.toList = [104, 51] ∨ n.data.toList = [104, 52] ∨ n.data.toList = [104, 53] ∨ n.data.toList = [104, 54] := by simpa [blockNL] using hk
    clear hk
    rcases hc with h | h | h | h | h | h | h | h | h | h | h | h | h | h | h | h | h | h | h | h | h | h | h | h | h | h | h | h | h | h | h
    · obtain rfl : n = ⟨#[97, 100, 100, 114, 101, 115, 115]⟩ := ext_list h
      clear h hh
      go_enter Tryz.func69, Tryz.ntmps69
      go_wp2_with fail
      go_ret
      exact ⟨rfl, rfl⟩
    · obtain rfl : n = ⟨#[97, 114, 116, 105, 99, 108, 101]⟩ := ext_list h
      clear h hh
      go_enter Tryz.func69, Tryz.ntmps69
      go_wp2_with fail
      go_ret
      exact ⟨rfl, rfl⟩
    · obtain rfl : n = ⟨#[97, 115, 105, 100, 101]⟩ := ext_list h
      clear h hh
      go_enter Tryz.func69, Tryz.ntmps69
      go_wp2_with fail
      go_ret
      exact ⟨rfl, rfl⟩
    · obtain rfl : n = ⟨#[98, 108, 111, 99, 107, 113, 117, 111, 116, 101]⟩ := ext_list h
      clear h hh
      go_enter Tryz.func69, Tryz.ntmps69
      go_wp2_with fail
      go_ret
      exact ⟨rfl, rfl⟩
    · obtain rfl : n = ⟨#[99, 101, 110, 116, 101, 114]⟩ := ext_list h
      clear h hh
      go_enter Tryz.func69, Tryz.ntmps69
      go_wp2_with fail
      go_ret
      exact ⟨rfl, rfl⟩
    · obtain rfl : n = ⟨#[100, 101, 116, 97, 105, 108, 115]⟩ := ext_list h
      clear h hh
      go_enter Tryz.func69, Tryz.ntmps69
      go_wp2_with fail
      go_ret
      exact ⟨rfl, rfl⟩
    · obtain rfl : n = ⟨#[100, 105, 118]⟩ := ext_list h
      clear h hh
      go_enter Tryz.func69, Tryz.ntmps69
      go_wp2_with fail
      go_ret
      exact ⟨rfl, rfl⟩
    · obtain rfl : n = ⟨#[100, 108]⟩ := ext_list h
      clear h hh
      go_enter Tryz.func69, Tryz.ntmps69
      go_wp2_with fail
      go_ret
      exact ⟨rfl, rfl⟩
    · obtain rfl : n = ⟨#[102, 105, 101, 108, 100, 115, 101, 116]⟩ := ext_list h
      clear h hh
      go_enter Tryz.func69, Tryz.ntmps69
      go_wp2_with fail
      go_ret
      exact ⟨rfl, rfl⟩
    · obtain rfl : n = ⟨#[102, 105, 103, 117, 114, 101]⟩ := ext_list h
      clear h hh
      go_enter Tryz.func69, Tryz.ntmps69
      go_wp2_with fail
      go_ret
      exact ⟨rfl, rfl⟩
    · obtain rfl : n = ⟨#[102, 111, 111, 116, 101, 114]⟩ := ext_list h
      clear h hh
      go_enter Tryz.func69, Tryz.ntmps69
      go_wp2_with fail
      go_ret
      exact ⟨rfl, rfl⟩
    · obtain rfl : n = ⟨#[102, 111, 114, 109]⟩ := ext_list h
      clear h hh
      go_enter Tryz.func69, Tryz.ntmps69
      go_wp2_with fail
      go_ret
      exact ⟨rfl, rfl⟩
    · obtain rfl : n = ⟨#[104, 101, 97, 100, 101, 114]⟩ := ext_list h
      clear h hh
      go_enter Tryz.func69, Tryz.ntmps69
      go_wp2_with fail
      go_ret
      exact ⟨rfl, rfl⟩
    · obtain rfl : n = ⟨#[104, 114]⟩ := ext_list h
      clear h hh
      go_enter Tryz.func69, Tryz.ntmps69
      go_wp2_with fail
      go_ret
      exact ⟨rfl, rfl⟩
    · obtain rfl : n = ⟨#[108, 105]⟩ := ext_list h
      clear h hh
      go_enter Tryz.func69, Tryz.ntmps69
      go_wp2_with fail
      go_ret
      exact ⟨rfl, rfl⟩
    · obtain rfl : n = ⟨#[109, 97, 105, 110]⟩ := ext_list h
      clear h hh
      go_enter Tryz.func69, Tryz.ntmps69
      go_wp2_with fail
      go_ret
      exact ⟨rfl, rfl⟩
    · obtain rfl : n = ⟨#[110, 97, 118]⟩ := ext_list h
      clear h hh
      go_enter Tryz.func69, Tryz.ntmps69
      go_wp2_with fail
      go_ret
      exact ⟨rfl, rfl⟩
    · obtain rfl : n = ⟨#[111, 108]⟩ := ext_list h
      clear h hh
      go_enter Tryz.func69, Tryz.ntmps69
      go_wp2_with fail
      go_ret
      exact ⟨rfl, rfl⟩
    · obtain rfl : n = ⟨#[112]⟩ := ext_list h
      clear h hh
      go_enter Tryz.func69, Tryz.ntmps69
      go_wp2_with fail
      go_ret
      exact ⟨rfl, rfl⟩
    · obtain rfl : n = ⟨#[112, 114, 101]⟩ := ext_list h
      clear h hh
      go_enter Tryz.func69, Tryz.ntmps69
      go_wp2_with fail
      go_ret
      exact ⟨rfl, rfl⟩
    · obtain rfl : n = ⟨#[115, 101, 99, 116, 105, 111, 110]⟩ := ext_list h
      clear h hh
      go_enter Tryz.func69, Tryz.ntmps69
      go_wp2_with fail
      go_ret
      exact ⟨rfl, rfl⟩
    · obtain rfl : n = ⟨#[116, 97, 98, 108, 101]⟩ := ext_list h
      clear h hh
      go_enter Tryz.func69, Tryz.ntmps69
      go_wp2_with fail
      go_ret
      exact ⟨rfl, rfl⟩
    · obtain rfl : n = ⟨#[117, 108]⟩ := ext_list h
      clear h hh
      go_enter Tryz.func69, Tryz.ntmps69
      go_wp2_with fail
      go_ret
      exact ⟨rfl, rfl⟩
    · obtain rfl : n = ⟨#[100, 100]⟩ := ext_list h
      clear h hh
      go_enter Tryz.func69, Tryz.ntmps69
      go_wp2_with fail
      go_ret
      exact ⟨rfl, rfl⟩
    · obtain rfl : n = ⟨#[100, 116]⟩ := ext_list h
      clear h hh
      go_enter Tryz.func69, Tryz.ntmps69
      go_wp2_with fail
      go_ret
      exact ⟨rfl, rfl⟩
    · obtain rfl : n = ⟨#[104, 49]⟩ := ext_list h
      have HH := hide (hh true (by decide))
      clear h hh
      go_enter Tryz.func69, Tryz.ntmps69
      go_wp2_with fail
      refine HH.out.mono ?_
      rintro e w1 ⟨rfl, rfl⟩
      go_wp2_with fail
      go_ret
      exact ⟨rfl, rfl⟩
    · obtain rfl : n = ⟨#[104, 50]⟩ := ext_list h
      have HH := hide (hh true (by decide))
      clear h hh
      go_enter Tryz.func69, Tryz.ntmps69
      go_wp2_with fail
      refine HH.out.mono ?_
      rintro e w1 ⟨rfl, rfl⟩
      go_wp2_with fail
      go_ret
      exact ⟨rfl, rfl⟩
    · obtain rfl : n = ⟨#[104, 51]⟩ := ext_list h
      have HH := hide (hh true (by decide))
      clear h hh
      go_enter Tryz.func69, Tryz.ntmps69
      go_wp2_with fail
      refine HH.out.mono ?_
      rintro e w1 ⟨rfl, rfl⟩
      go_wp2_with fail
      go_ret
      exact ⟨rfl, rfl⟩
    · obtain rfl : n = ⟨#[104, 52]⟩ := ext_list h
      have HH := hide (hh true (by decide))
      clear h hh
      go_enter Tryz.func69, Tryz.ntmps69
      go_wp2_with fail
      refine HH.out.mono ?_
      rintro e w1 ⟨rfl, rfl⟩
      go_wp2_with fail
      go_ret
      exact ⟨rfl, rfl⟩
    · obtain rfl : n = ⟨#[104, 53]⟩ := ext_list h
      have HH := hide (hh true (by decide))
      clear h hh
      go_enter Tryz.func69, Tryz.ntmps69
      go_wp2_with fail
      refine HH.out.mono ?_
      rintro e w1 ⟨rfl, rfl⟩
      go_wp2_with fail
      go_ret
      exact ⟨rfl, rfl⟩
    · obtain rfl : n = ⟨#[104, 54]⟩ := ext_list h
      have HH := hide (hh true (by decide))
      clear h hh
      go_enter Tryz.func69, Tryz.ntmps69
      go_wp2_with fail
      refine HH.out.mono ?_
      rintro e w1 ⟨rfl, rfl⟩
      go_wp2_with fail
      go_ret
      exact ⟨rfl, rfl⟩
  | false =>
    have hc : n.data.toList ≠ [97, 100, 100, 114, 101, 115, 115] ∧ n.data.toList ≠ [97, 114, 116, 105, 99, 108, 101] ∧ n.data.toList ≠ [97, 115, 105, 100, 101] ∧ n.data.toList ≠ [98, 108, 111, 99, 107, 113, 117, 111, 116, 101] ∧ n.data.toList ≠ [99, 101, 110, 116, 101, 114] ∧ n.data.toList ≠ [100, 101, 116, 97, 105, 108, 115] ∧ n.data.toList ≠ [100, 105, 118] ∧ n.data.toList ≠ [100, 108] ∧ n.data.toList ≠ [102, 105, 101, 108, 100, 115, 101, 116] ∧ n.data.toList ≠ [102, 105, 103, 117, 114, 101] ∧ n.data.toList ≠ [102, 111, 111, 116, 101, 114] ∧ n.data.toList ≠ [102, 111, 114, 109] ∧ n.data.toList ≠ [104, 101, 97, 100, 101, 114] ∧ n.data.toList ≠ [104, 114] ∧ n.data.toList ≠ [108, 105] ∧ n.data.toList ≠ [109, 97, 105, 110] ∧ n.data.toList ≠ [110, 97, 118] ∧ n.data.toList ≠ [111, 108] ∧ n.data.toList ≠ [112] ∧ n.data.toList ≠ [112, 114, 101] ∧ n.data.toList ≠ [115, 101, 99, 116, 105, 111, 110] ∧ n.data.toList ≠ [116, 97, 98, 108, 101] ∧ n.data.toList ≠ [117, 108] ∧ n.data.toList ≠ [100, 100] ∧ n.data.toList ≠ [100, 116] ∧ n.data.toList ≠ [104, 49] ∧ n.data.toList ≠ [104, 50] ∧ n.data.toList ≠ [104, 51] ∧ n.data.toList ≠ [104, 52] ∧ n.data.toList ≠ [104, 53] ∧ n.data.toList ≠ [104, 54] := by simpa [blockNL] using hk
    obtain ⟨tn0, tn1, tn2, tn3, tn4, tn5, tn6, tn7, tn8, tn9, tn10, tn11, tn12, tn13, tn14, tn15, tn16, tn17, tn18, tn19, tn20, tn21, tn22, tn23, tn24, tn25, tn26, tn27, tn28, tn29, tn30⟩ := hc
    have HH := hide (hh false (by
      have : ¬ headNL.contains n.data.toList = true := by
        simp only [headNL, List.contains_cons, List.contains_nil, Bool.or_false, Bool.or_eq_true, beq_iff_eq, not_or]
        exact ⟨tn25, tn26, tn27, tn28, tn29, tn30⟩
      simpa using this))
    clear hk hh
    have t0 : (n.toList == [97, 100, 100, 114, 101, 115, 115]) = false := beq_eq_false_iff_ne.2 (by rw [bytes_list]; exact tn0)
    have t1 : (n.toList == [97, 114, 116, 105, 99, 108, 101]) = false := beq_eq_false_iff_ne.2 (by rw [bytes_list]; exact tn1)
    have t2 : (n.toList == [97, 115, 105, 100, 101]) = false := beq_eq_false_iff_ne.2 (by rw [bytes_list]; exact tn2)
    have t3 : (n.toList == [98, 108, 111, 99, 107, 113, 117, 111, 116, 101]) = false := beq_eq_false_iff_ne.2 (by rw [bytes_list]; exact tn3)
    have t4 : (n.toList == [99, 101, 110, 116, 101, 114]) = false := beq_eq_false_iff_ne.2 (by rw [bytes_list]; exact tn4)
    have t5 : (n.toList == [100, 101, 116, 97, 105, 108, 115]) = false := beq_eq_false_iff_ne.2 (by rw [bytes_list]; exact tn5)
    have t6 : (n.toList == [100, 105, 118]) = false := beq_eq_false_iff_ne.2 (by rw [bytes_list]; exact tn6)
    have t7 : (n.toList == [100, 108]) = false := beq_eq_false_iff_ne.2 (by rw [bytes_list]; exact tn7)
    have t8 : (n.toList == [102, 105, 101, 108, 100, 115, 101, 116]) = false := beq_eq_false_iff_ne.2 (by rw [bytes_list]; exact tn8)
    have t9 : (n.toList == [102, 105, 103, 117, 114, 101]) = false := beq_eq_false_iff_ne.2 (by rw [bytes_list]; exact tn9)
    have t10 : (n.toList == [102, 111, 111, 116, 101, 114]) = false := beq_eq_false_iff_ne.2 (by rw [bytes_list]; exact tn10)
    have t11 : (n.toList == [102, 111, 114, 109]) = false := beq_eq_false_iff_ne.2 (by rw [bytes_list]; exact tn11)
    have t12 : (n.toList == [104, 101, 97, 100, 101, 114]) = false := beq_eq_false_iff_ne.2 (by rw [bytes_list]; exact tn12)
    have t13 : (n.toList == [104, 114]) = false := beq_eq_false_iff_ne.2 (by rw [bytes_list]; exact tn13)
    have t14 : (n.toList == [108, 105]) = false := beq_eq_false_iff_ne.2 (by rw [bytes_list]; exact tn14)
    have t15 : (n.toList == [109, 97, 105, 110]) = false := beq_eq_false_iff_ne.2 (by rw [bytes_list]; exact tn15)
    have t16 : (n.toList == [110, 97, 118]) = false := beq_eq_false_iff_ne.2 (by rw [bytes_list]; exact tn16)
    have t17 : (n.toList == [111, 108]) = false := beq_eq_false_iff_ne.2 (by rw [bytes_list]; exact tn17)
    have t18 : (n.toList == [112]) = false := beq_eq_false_iff_ne.2 (by rw [bytes_list]; exact tn18)
    have t19 : (n.toList == [112, 114, 101]) = false := beq_eq_false_iff_ne.2 (by rw [bytes_list]; exact tn19)
    have t20 : (n.toList == [115, 101, 99, 116, 105, 111, 110]) = false := beq_eq_false_iff_ne.2 (by rw [bytes_list]; exact tn20)
    have t21 : (n.toList == [116, 97, 98, 108, 101]) = false := beq_eq_false_iff_ne.2 (by rw [bytes_list]; exact tn21)
    have t22 : (n.toList == [117, 108]) = false := beq_eq_false_iff_ne.2 (by rw [bytes_list]; exact tn22)
    have t23 : (n.toList == [100, 100]) = false := beq_eq_false_iff_ne.2 (by rw [bytes_list]; exact tn23)
    have t24 : (n.toList == [100, 116]) = false := beq_eq_false_iff_ne.2 (by rw [bytes_list]; exact tn24)
    clear tn0 tn1 tn2 tn3 tn4 tn5 tn6 tn7 tn8 tn9 tn10 tn11 tn12 tn13 tn14 tn15 tn16 tn17 tn18 tn19 tn20 tn21 tn22 tn23 tn24
    go_enter Tryz.func69, Tryz.ntmps69
    go_wp2_with fail
    refine HH.out.mono ?_
    rintro e w1 ⟨rfl, rfl⟩
    go_wp2_with fail
    go_ret
    exact ⟨rfl, rfl⟩
end Go.Proofs.YtgokefodmjhhiaaGreatDoor

/- WALK of the tree builder: close. No statement is proved here. Own work of the verifier. -/
namespace Go.Proofs.YtgokefodmjhhiaaGreatDoor
open Go.RowKit
set_option linter.unusedVariables false
set_option linter.unusedSimpArgs false
set_option maxRecDepth 100000
/-! ### close, walked -/
def closeB (is : List UInt8 → Bool) (s : List PartL) : List PartL := match findP is s with
  | none => s
  | some k => closeN k s
/-- the function that is handed in tells of a name what is tells; block bt is the token's box -/
def AskAt (K bt : Nat) (nm : ByteArray) (is : List UInt8 → Bool) : Prop :=
  ∀ (w1 : World) (g o : Nat) (x : List UInt8), w1.cell? ⟨bt, 1, none⟩ = some (.string nm) → w1.cell? ⟨g, o, none⟩ = some (.string (str x)) →
    Calls Tryz.prog K #[.pointer (some ⟨g, o, none⟩), .pointer (some ⟨bt, 0, none⟩)] w1 fun e w' => e = .returned (.bool (is x)) ∧ ∃ m, w' = w1.drewN m
theorem findP_cons {is : List UInt8 → Bool} (p q : PartL) (r : List PartL) : findP is (p :: q :: r) = if is p.name = true then some 1 else if wallB p.name = true then none else (findP is (q :: r)).map (· + 1) := rfl
/-- how far close has come: pre has been asked -/
def AskedC (is : List UInt8 → Bool) (st : List PartV) (k : Nat) : Prop := ∃ pre p rest, st = pre ++ p :: rest ∧ rest.length = k ∧ findP is (toLs st) = (findP is (toLs (p :: rest))).map (· + pre.length)
theorem BS.cellOf {C : Nat → Prop} {B b g cap m : Nat} {pre : List PartV} {p : PartV} {rest : List PartV} {n : Nat} {W0 w : World} (h : BS C B b (.slice (some ⟨g, 0, none⟩) m cap) (pre ++ p :: rest) n W0 w) : w.cell? ⟨g, rest.length * 5, none⟩ = some (.string (str p.name)) := by
  have hr := h.row
  have e1 := partVals_at rest.reverse p 0 (by decide) pre.reverse
  rw [List.length_reverse] at e1
  have e2 : (partVals (pre ++ p :: rest).reverse)[rest.length * 5 + 0]? = some (.string (str p.name)) := by
    rw [List.reverse_append, List.reverse_cons, List.append_assoc, List.singleton_append]
    exact e1
  have := hr.cells (g := g) rfl _ _ e2
  rw [Addr.add_lit, Nat.zero_add, Nat.add_zero] at this
  exact this
set_option maxHeartbeats 16000000 in
theorem close_gen (K bt : Nat) (nm : ByteArray) (is : List UInt8 → Bool) (hK : ∀ args w, (callFunc K args).run Tryz.prog w = .ok (.enter K args) w) (hask : AskAt K bt nm is)
    (C : Nat → Prop) (B b : Nat) (r : Value) (st : List PartV) (n : Nat) (W0 w : World) (h : BS C B b r st n W0 w) (hs : st ≠ []) (hw : stW (toLs st) ≤ 5000) (htl : ∀ p ∈ st, p.tail.length ≤ 1099511627776) (hl : st.length ≤ 1000000) (hbt : w.cell? ⟨bt, 1, none⟩ = some (.string nm)) :
    Calls Tryz.prog 55 #[.pointer (some ⟨b, 0, none⟩), .func (.func K) #[] #[.pointer (some ⟨bt, 0, none⟩)]] w fun e w' => e = .returned (.bool (findP is (toLs st)).isSome) ∧
      ∃ st', (∃ C' r', BS C' B b r' st' n W0 w') ∧ toLs st' = closeB is (toLs st) ∧ ∀ p ∈ st', p.tail.length ≤ 1099511627776 := by
  obtain ⟨g, cap, rfl, i1, i2, i3, i4⟩ := h.form hs
  have c0 := h.c0
  obtain ⟨M, hM⟩ : ∃ M, st.length = M + 1 := ⟨st.length - 1, by have := List.length_pos_iff.2 hs; omega⟩
  have HB := hide h
  have HS : Hid (AskedC is st M) := hide (by
    match st, hs, hM with
    | p :: rest, _, hM => exact ⟨[], p, rest, rfl, by simpa using hM, by simp⟩)
  have HQ := hide (And.intro hw (And.intro htl hl))
  have HASK := hide hask
  have HBT := hide hbt
  have HM := hide hM
  rw [hM] at c0
  have hM2 : M ≤ 1000000 := by omega
  have tn1 : wrap64 ((M : Int) + 1 - 1) = (M : Int) := by unfold wrap64; omega
  clear h hs hw htl hl hask hbt i1 i2 i3 i4 hM
  go_enter Tryz.func55, Tryz.ntmps55
  go_wp2_with fail
  go_loopg [5] M (fun gk i wr => gk ≤ M ∧ i = .int .i64 gk ∧ Hid (∃ m, wr = w.drewN m) ∧ Hid (AskedC is st gk))
  case atStart => exact ⟨Nat.le_refl _, by first | rfl | (congr 1; omega), hide ⟨0, rfl⟩, HS.out⟩
  case round =>
    obtain ⟨hgk, rfl, HD, HA⟩ := hrel
    obtain ⟨m, rfl⟩ := HD.out
    have hbw : ∀ q, Below w.heap.size w (w.drewN q) := fun q => ⟨rfl, rfl, rfl, Nat.le_refl _, fun _ _ => rfl⟩
    cases gk with
    | zero =>
      have hf : findP is (toLs st) = none := by
        obtain ⟨pre, p, rest, h1, h2, h3⟩ := HA.out
        have := List.eq_nil_of_length_eq_zero h2
        subst this
        rw [h3]; rfl
      have HE : Hid ((findP is (toLs st)).isSome = false ∧ ∃ st', (∃ C' r', BS C' B b r' st' n W0 (w.drewN m)) ∧ toLs st' = closeB is (toLs st) ∧ ∀ p ∈ st', p.tail.length ≤ 1099511627776) := hide ⟨by rw [hf]; rfl, st, ⟨C, _, HB.out.kept (hbw m)⟩, by unfold closeB; rw [hf], HQ.out.2.1⟩
      have t0 : decide ((0 : Int) < ((0 : Nat) : Int)) = false := by decide
      clear hf HA HD
      go_wp2_with fail
      go_ret
      rw [HE.out.1]
      exact ⟨rfl, HE.out.2⟩
    | succ k =>
      have t0 : decide ((0 : Int) < ((k + 1 : Nat) : Int)) = true := decide_eq_true (by omega)
      have t1 : (k : Int) + 1 < (M : Int) + 1 := by omega
      have t2 : (0 : Int) ≤ (k : Int) + 1 := by omega
      have t3 : ((k : Int) + 1).toNat = k + 1 := by omega
      obtain ⟨pre, p, rest, e1, e2, e3⟩ := HA.out
      obtain ⟨q, rest, rfl⟩ : ∃ q r, rest = q :: r := by
        cases rest with
        | nil => simp at e2
        | cons q r => exact ⟨q, r, rfl⟩
      have hk : rest.length = k := by simpa using e2
      have hpl : pre.length + k + 1 = M := by
        have := HM.out
        rw [e1] at this
        simp only [List.length_append, List.length_cons] at this
        omega
      have hc := HB.out.kept (hbw m)
      rw [e1] at hc
      have hcell : (w.drewN m).cell? ⟨g, (k + 1) * 5, none⟩ = some (.string (str p.name)) := by
        have := BS.cellOf hc
        rw [e2] at this
        exact this
      have HC := hide hcell
      have hfc : findP is (toLs (p :: q :: rest)) = if is p.name = true then some 1 else if wallB p.name = true then none else (findP is (toLs (q :: rest))).map (· + 1) := findP_cons p.toL q.toL (toLs rest)
      have HAK := hide (HASK.out (w.drewN m) g ((k + 1) * 5) p.name HBT.out hcell)
      obtain ⟨X, hX⟩ : ∃ X, X = str p.name := ⟨_, rfl⟩
      have hcw : w.cell? ⟨g, (k + 1) * 5, none⟩ = some (.string X) := by rw [hX]; exact hcell
      clear hcell
      cases hi : is p.name with
      | true =>
        rw [hi] at HAK
        rw [hfc, if_pos hi] at e3
        have hfs : findP is (toLs st) = some (pre.length + 1) := by rw [e3]; simp; omega
        have hln : st.length - (k + 1) = pre.length + 1 := by have := HM.out; omega
        have HF := hide (fun q => by
          have := closeFrom_any C B b _ st n (k + 1) W0 (w.drewN q) (HB.out.kept (hbw q)) (by omega) (by have := HM.out; omega) HQ.out.1 HQ.out.2.1 HQ.out.2.2
          rw [show ((k + 1 : Nat) : Int) = (k : Int) + 1 by omega] at this
          exact this)
        have HE : Hid ((findP is (toLs st)).isSome = true ∧ closeB is (toLs st) = closeN (st.length - (k + 1)) (toLs st)) := hide ⟨by rw [hfs]; rfl, by unfold closeB; rw [hfs, hln]⟩
        clear e1 e2 e3 hk hpl hc hfc hi hfs hln HA HD hX
        go_wp2_with fail
        refine HAK.out.mono ?_
        rintro e w1 ⟨rfl, mm, rfl⟩
        go_wp2_with fail
        refine (HF.out _).mono ?_
        rintro e w2 ⟨rfl, hE⟩
        have HEE := hide hE
        clear hE
        go_wp2_with fail
        go_ret
        rw [HE.out.1, HE.out.2]
        exact ⟨rfl, HEE.out⟩
      | false =>
        rw [hi] at HAK
        rw [hfc, if_neg (by rw [hi]; exact Bool.false_ne_true)] at e3
        have hzz : str p.name = X := hX.symm
        cases hw : wallB p.name with
        | true =>
          rw [if_pos hw] at e3
          have hfs : findP is (toLs st) = none := by rw [e3]; rfl
          have HW : Hid (∀ w, Calls Tryz.prog 109 #[.string X] w fun e w' => e = .returned (.bool true) ∧ w = w') := hide fun w => by
            have := isWall_any X w
            rw [hX, str_toList, show wallL.contains p.name = true from hw, ← hX] at this
            exact this
          have HE : Hid ((findP is (toLs st)).isSome = false ∧ ∀ q, ∃ st', (∃ C' r', BS C' B b r' st' n W0 (w.drewN q)) ∧ toLs st' = closeB is (toLs st) ∧ ∀ p ∈ st', p.tail.length ≤ 1099511627776) := hide ⟨by rw [hfs]; rfl, fun q => ⟨st, ⟨C, _, HB.out.kept (hbw q)⟩, by unfold closeB; rw [hfs], HQ.out.2.1⟩⟩
          clear e1 e2 e3 hk hpl hc hfc hi hfs hw HA HD hX hzz
          go_wp2_with fail
          refine HAK.out.mono ?_
          rintro e w1 ⟨rfl, mm, rfl⟩
          go_wp2_with fail
          refine (HW.out _).mono ?_
          rintro e w2 ⟨rfl, rfl⟩
          go_wp2_with fail
          go_ret
          rw [HE.out.1]
          exact ⟨rfl, HE.out.2 _⟩
        | false =>
          rw [if_neg (by rw [hw]; exact Bool.false_ne_true)] at e3
          have HW : Hid (∀ w, Calls Tryz.prog 109 #[.string X] w fun e w' => e = .returned (.bool false) ∧ w = w') := hide fun w => by
            have := isWall_any X w
            rw [hX, str_toList, show wallL.contains p.name = false from hw, ← hX] at this
            exact this
          have HN : Hid (AskedC is st k) := hide ⟨pre ++ [p], q, rest, by rw [e1]; simp, hk, by
            rw [e3, Option.map_map, List.length_append]
            congr 1
            funext z
            simp only [Function.comp_apply, List.length_cons, List.length_nil]
            omega⟩
          have tk1 : wrap64 ((k : Int) + 1 - 1) = (k : Int) := by unfold wrap64; omega
          have HKM := hide (show k ≤ M by omega)
          clear e1 e2 e3 hk hpl hc hfc hi hw HA HD hX hzz
          go_wp2_with fail
          refine HAK.out.mono ?_
          rintro e w1 ⟨rfl, mm, rfl⟩
          go_wp2_with fail
          refine (HW.out _).mono ?_
          rintro e w2 ⟨rfl, rfl⟩
          go_wp2_with fail
          go_roundg k
          case rel => exact ⟨HKM.out, by first | rfl | (congr 1; omega), hide ⟨m + mm, by first | rfl | rw [World.drewN_drewN]⟩, HN⟩
          case measure => omega
end Go.Proofs.YtgokefodmjhhiaaGreatDoor

/- WALK of tree.Closes. Written by wip/tools/treenames.py. No statement is proved here. Own work of the verifier. -/
namespace Go.Proofs.YtgokefodmjhhiaaGreatDoor
open Go.RowKit
set_option linter.unusedVariables false
set_option linter.unusedSimpArgs false
set_option maxRecDepth 100000
theorem closes14_pure (n o : List UInt8) (h : o ≠ [112] ∧ o ≠ [100, 100] ∧ o ≠ [100, 116] ∧ o ≠ [116, 100] ∧ o ≠ [116, 104] ∧ o ≠ [108, 105] ∧ o ≠ [97] ∧ o ≠ [111, 112, 116, 105, 111, 110] ∧ o ≠ [116, 114] ∧ o ≠ [110, 111, 98, 114] ∧ o ≠ [98, 117, 116, 116, 111, 110]) : closesB n o = (headNB o && headNB n) := by
  unfold closesB
  rw [if_neg h.1, if_neg (fun e => e.elim h.2.1 h.2.2.1), if_neg (fun e => e.elim h.2.2.2.1 h.2.2.2.2.1), if_neg]
  have h2 := h.2.2.2.2.2
  simp only [sameL, List.contains_cons, List.contains_nil, Bool.or_false, Bool.or_eq_true, beq_iff_eq, not_or]
  exact h2
set_option maxHeartbeats 8000000 in
theorem closes14_any (n o : ByteArray) (w : World) : Calls Tryz.prog 30 #[.string n, .string o] w fun e w' => e = .returned (.bool (closesB n.data.toList o.data.toList)) ∧ w = w' := by
  by_cases h0 : o.data.toList = [112]
  · obtain rfl : o = ⟨#[112]⟩ := ext_list h0
    have hb := isBlock_any n w
    have he : closesB n.data.toList (⟨#[112]⟩ : ByteArray).data.toList = blockNL.contains n.data.toList := rfl
    rw [he]
    obtain ⟨bb, hbb⟩ : ∃ bb, bb = blockNL.contains n.data.toList := ⟨_, rfl⟩
    rw [← hbb] at hb ⊢
    have HB := hide hb
    clear h0 hb he hbb
    go_enter Tryz.func30, Tryz.ntmps30
    go_wp2_with fail
    refine HB.out.mono ?_
    rintro e w1 ⟨rfl, rfl⟩
    go_wp2_with fail
    go_ret
    exact ⟨rfl, rfl⟩
  by_cases h1 : o.data.toList = [100, 100]
  · obtain rfl : o = ⟨#[100, 100]⟩ := ext_list h1
    clear h0 h1
    by_cases m : n.data.toList = [100, 100]
    · obtain rfl : n = ⟨#[100, 100]⟩ := ext_list m
      clear m
      rw [show closesB (⟨#[100, 100]⟩ : ByteArray).data.toList (⟨#[100, 100]⟩ : ByteArray).data.toList = true by decide]
      go_enter Tryz.func30, Tryz.ntmps30
      go_wp2_with fail
      go_ret
      exact ⟨rfl, rfl⟩
    have m0 := m
    clear m
    by_cases m : n.data.toList = [100, 116]
    · obtain rfl : n = ⟨#[100, 116]⟩ := ext_list m
      clear m
      rw [show closesB (⟨#[100, 116]⟩ : ByteArray).data.toList (⟨#[100, 100]⟩ : ByteArray).data.toList = true by decide]
      go_enter Tryz.func30, Tryz.ntmps30
      go_wp2_with fail
      go_ret
      exact ⟨rfl, rfl⟩
    have m1 := m
    clear m
    have t0 : (n.toList == [100, 100]) = false := beq_eq_false_iff_ne.2 (by rw [bytes_list]; exact m0)
    have t1 : (n.toList == [100, 116]) = false := beq_eq_false_iff_ne.2 (by rw [bytes_list]; exact m1)
    have HE : closesB n.data.toList (⟨#[100, 100]⟩ : ByteArray).data.toList = false := by
      show decide (n.data.toList = [100, 100] ∨ n.data.toList = [100, 116]) = false
      exact decide_eq_false (by simp only [not_or]; exact ⟨m0, m1⟩)
    clear m0 m1
    rw [HE]
    clear HE
    go_enter Tryz.func30, Tryz.ntmps30
    go_wp2_with fail
    go_ret
    exact ⟨rfl, rfl⟩
  by_cases h2 : o.data.toList = [100, 116]
  · obtain rfl : o = ⟨#[100, 116]⟩ := ext_list h2
    clear h0 h1 h2
    by_cases m : n.data.toList = [100, 100]
    · obtain rfl : n = ⟨#[100, 100]⟩ := ext_list m
      clear m
      rw [show closesB (⟨#[100, 100]⟩ : ByteArray).data.toList (⟨#[100, 116]⟩ : ByteArray).data.toList = true by decide]
      go_enter Tryz.func30, Tryz.ntmps30
      go_wp2_with fail
      go_ret
      exact ⟨rfl, rfl⟩
    have m0 := m
    clear m
    by_cases m : n.data.toList = [100, 116]
    · obtain rfl : n = ⟨#[100, 116]⟩ := ext_list m
      clear m
      rw [show closesB (⟨#[100, 116]⟩ : ByteArray).data.toList (⟨#[100, 116]⟩ : ByteArray).data.toList = true by decide]
      go_enter Tryz.func30, Tryz.ntmps30
      go_wp2_with fail
      go_ret
      exact ⟨rfl, rfl⟩
    have m1 := m
    clear m
    have t0 : (n.toList == [100, 100]) = false := beq_eq_false_iff_ne.2 (by rw [bytes_list]; exact m0)
    have t1 : (n.toList == [100, 116]) = false := beq_eq_false_iff_ne.2 (by rw [bytes_list]; exact m1)
    have HE : closesB n.data.toList (⟨#[100, 116]⟩ : ByteArray).data.toList = false := by
      show decide (n.data.toList = [100, 100] ∨ n.data.toList = [100, 116]) = false
      exact decide_eq_false (by simp only [not_or]; exact ⟨m0, m1⟩)
    clear m0 m1
    rw [HE]
    clear HE
    go_enter Tryz.func30, Tryz.ntmps30
    go_wp2_with fail
    go_ret
    exact ⟨rfl, rfl⟩
  by_cases h3 : o.data.toList = [116, 100]
  · obtain rfl : o = ⟨#[116, 100]⟩ := ext_list h3
    clear h0 h1 h2 h3
    by_cases m : n.data.toList = [116, 100]
    · obtain rfl : n = ⟨#[116, 100]⟩ := ext_list m
      clear m
      rw [show closesB (⟨#[116, 100]⟩ : ByteArray).data.toList (⟨#[116, 100]⟩ : ByteArray).data.toList = true by decide]
      go_enter Tryz.func30, Tryz.ntmps30
      go_wp2_with fail
      go_ret
      exact ⟨rfl, rfl⟩
    have m0 := m
    clear m
    by_cases m : n.data.toList = [116, 104]
    · obtain rfl : n = ⟨#[116, 104]⟩ := ext_list m
      clear m
      rw [show closesB (⟨#[116, 104]⟩ : ByteArray).data.toList (⟨#[116, 100]⟩ : ByteArray).data.toList = true by decide]
      go_enter Tryz.func30, Tryz.ntmps30
      go_wp2_with fail
      go_ret
      exact ⟨rfl, rfl⟩
    have m1 := m
    clear m
    by_cases m : n.data.toList = [116, 114]
    · obtain rfl : n = ⟨#[116, 114]⟩ := ext_list m
      clear m
      rw [show closesB (⟨#[116, 114]⟩ : ByteArray).data.toList (⟨#[116, 100]⟩ : ByteArray).data.toList = true by decide]
      go_enter Tryz.func30, Tryz.ntmps30
      go_wp2_with fail
      go_ret
      exact ⟨rfl, rfl⟩
    have m2 := m
    clear m
    have t0 : (n.toList == [116, 100]) = false := beq_eq_false_iff_ne.2 (by rw [bytes_list]; exact m0)
    have t1 : (n.toList == [116, 104]) = false := beq_eq_false_iff_ne.2 (by rw [bytes_list]; exact m1)
    have t2 : (n.toList == [116, 114]) = false := beq_eq_false_iff_ne.2 (by rw [bytes_list]; exact m2)
    have HE : closesB n.data.toList (⟨#[116, 100]⟩ : ByteArray).data.toList = false := by
      show decide (n.data.toList = [116, 100] ∨ n.data.toList = [116, 104] ∨ n.data.toList = [116, 114]) = false
      exact decide_eq_false (by simp only [not_or]; exact ⟨m0, m1, m2⟩)
    clear m0 m1 m2
    rw [HE]
    clear HE
    go_enter Tryz.func30, Tryz.ntmps30
    go_wp2_with fail
    go_ret
    exact ⟨rfl, rfl⟩
  by_cases h4 : o.data.toList = [116, 104]
  · obtain rfl : o = ⟨#[116, 104]⟩ := ext_list h4
    clear h0 h1 h2 h3 h4
    by_cases m : n.data.toList = [116, 100]
    · obtain rfl : n = ⟨#[116, 100]⟩ := ext_list m
      clear m
      rw [show closesB (⟨#[116, 100]⟩ : ByteArray).data.toList (⟨#[116, 104]⟩ : ByteArray).data.toList = true by decide]
      go_enter Tryz.func30, Tryz.ntmps30
      go_wp2_with fail
      go_ret
      exact ⟨rfl, rfl⟩
    have m0 := m
    clear m
    by_cases m : n.data.toList = [116, 104]
    · obtain rfl : n = ⟨#[116, 104]⟩ := ext_list m
      clear m
      rw [show closesB (⟨#[116, 104]⟩ : ByteArray).data.toList (⟨#[116, 104]⟩ : ByteArray).data.toList = true by decide]
      go_enter Tryz.func30, Tryz.ntmps30
      go_wp2_with fail
      go_ret
      exact ⟨rfl, rfl⟩
    have m1 := m
    clear m
    by_cases m : n.data.toList = [116, 114]
    · obtain rfl : n = ⟨#[116, 114]⟩ := ext_list m
      clear m
      rw [show closesB (⟨#[116, 114]⟩ : ByteArray).data.toList (⟨#[116, 104]⟩ : ByteArray).data.toList = true by decide]
      go_enter Tryz.func30, Tryz.ntmps30
      go_wp2_with fail
      go_ret
      exact ⟨rfl, rfl⟩
    have m2 := m
    clear m
    have t0 : (n.toList == [116, 100]) = false := beq_eq_false_iff_ne.2 (by rw [bytes_list]; exact m0)
    have t1 : (n.toList == [116, 104]) = false := beq_eq_false_iff_ne.2 (by rw [bytes_list]; exact m1)
    have t2 : (n.toList == [116, 114]) = false := beq_eq_false_iff_ne.2 (by rw [bytes_list]; exact m2)
    have HE : closesB n.data.toList (⟨#[116, 104]⟩ : ByteArray).data.toList = false := by
      show decide (n.data.toList = [116, 100] ∨ n.data.toList = [116, 104] ∨ n.data.toList = [116, 114]) = false
      exact decide_eq_false (by simp only [not_or]; exact ⟨m0, m1, m2⟩)
    clear m0 m1 m2
    rw [HE]
    clear HE
    go_enter Tryz.func30, Tryz.ntmps30
    go_wp2_with fail
    go_ret
    exact ⟨rfl, rfl⟩
  by_cases h5 : o.data.toList = [108, 105]
  · obtain rfl : o = ⟨#[108, 105]⟩ := ext_list h5
    clear h0 h1 h2 h3 h4 h5
    by_cases m : n.data.toList = [108, 105]
    · obtain rfl : n = ⟨#[108, 105]⟩ := ext_list m
      clear m
      rw [show closesB (⟨#[108, 105]⟩ : ByteArray).data.toList (⟨#[108, 105]⟩ : ByteArray).data.toList = true by decide]
      go_enter Tryz.func30, Tryz.ntmps30
      go_wp2_with fail
      go_ret
      exact ⟨rfl, rfl⟩
    have m0 := m
    clear m
    have t0 : (n.toList == [108, 105]) = false := beq_eq_false_iff_ne.2 (by rw [bytes_list]; exact m0)
    have HE : closesB n.data.toList (⟨#[108, 105]⟩ : ByteArray).data.toList = false := by
      show decide (n.data.toList = [108, 105]) = false
      exact decide_eq_false m0
    clear m0
    rw [HE]
    clear HE
    go_enter Tryz.func30, Tryz.ntmps30
    go_wp2_with fail
    go_ret
    exact ⟨rfl, rfl⟩
  by_cases h6 : o.data.toList = [97]
  · obtain rfl : o = ⟨#[97]⟩ := ext_list h6
    clear h0 h1 h2 h3 h4 h5 h6
    by_cases m : n.data.toList = [97]
    · obtain rfl : n = ⟨#[97]⟩ := ext_list m
      clear m
      rw [show closesB (⟨#[97]⟩ : ByteArray).data.toList (⟨#[97]⟩ : ByteArray).data.toList = true by decide]
      go_enter Tryz.func30, Tryz.ntmps30
      go_wp2_with fail
      go_ret
      exact ⟨rfl, rfl⟩
    have m0 := m
    clear m
    have t0 : (n.toList == [97]) = false := beq_eq_false_iff_ne.2 (by rw [bytes_list]; exact m0)
    have HE : closesB n.data.toList (⟨#[97]⟩ : ByteArray).data.toList = false := by
      show decide (n.data.toList = [97]) = false
      exact decide_eq_false m0
    clear m0
    rw [HE]
    clear HE
    go_enter Tryz.func30, Tryz.ntmps30
    go_wp2_with fail
    go_ret
    exact ⟨rfl, rfl⟩
  by_cases h7 : o.data.toList = [111, 112, 116, 105, 111, 110]
  · obtain rfl : o = ⟨#[111, 112, 116, 105, 111, 110]⟩ := ext_list h7
    clear h0 h1 h2 h3 h4 h5 h6 h7
    by_cases m : n.data.toList = [111, 112, 116, 105, 111, 110]
    · obtain rfl : n = ⟨#[111, 112, 116, 105, 111, 110]⟩ := ext_list m
      clear m
      rw [show closesB (⟨#[111, 112, 116, 105, 111, 110]⟩ : ByteArray).data.toList (⟨#[111, 112, 116, 105, 111, 110]⟩ : ByteArray).data.toList = true by decide]
      go_enter Tryz.func30, Tryz.ntmps30
      go_wp2_with fail
      go_ret
      exact ⟨rfl, rfl⟩
    have m0 := m
    clear m
    have t0 : (n.toList == [111, 112, 116, 105, 111, 110]) = false := beq_eq_false_iff_ne.2 (by rw [bytes_list]; exact m0)
    have HE : closesB n.data.toList (⟨#[111, 112, 116, 105, 111, 110]⟩ : ByteArray).data.toList = false := by
      show decide (n.data.toList = [111, 112, 116, 105, 111, 110]) = false
      exact decide_eq_false m0
    clear m0
    rw [HE]
    clear HE
    go_enter Tryz.func30, Tryz.ntmps30
    go_wp2_with fail
    go_ret
    exact ⟨rfl, rfl⟩
  by_cases h8 : o.data.toList = [116, 114]
  · obtain rfl : o = ⟨#[116, 114]⟩ := ext_list h8
    clear h0 h1 h2 h3 h4 h5 h6 h7 h8
    by_cases m : n.data.toList = [116, 114]
    · obtain rfl : n = ⟨#[116, 114]⟩ := ext_list m
      clear m
      rw [show closesB (⟨#[116, 114]⟩ : ByteArray).data.toList (⟨#[116, 114]⟩ : ByteArray).data.toList = true by decide]
      go_enter Tryz.func30, Tryz.ntmps30
      go_wp2_with fail
      go_ret
      exact ⟨rfl, rfl⟩
    have m0 := m
    clear m
    have t0 : (n.toList == [116, 114]) = false := beq_eq_false_iff_ne.2 (by rw [bytes_list]; exact m0)
    have HE : closesB n.data.toList (⟨#[116, 114]⟩ : ByteArray).data.toList = false := by
      show decide (n.data.toList = [116, 114]) = false
      exact decide_eq_false m0
    clear m0
    rw [HE]
    clear HE
    go_enter Tryz.func30, Tryz.ntmps30
    go_wp2_with fail
    go_ret
    exact ⟨rfl, rfl⟩
  by_cases h9 : o.data.toList = [110, 111, 98, 114]
  · obtain rfl : o = ⟨#[110, 111, 98, 114]⟩ := ext_list h9
    clear h0 h1 h2 h3 h4 h5 h6 h7 h8 h9
    by_cases m : n.data.toList = [110, 111, 98, 114]
    · obtain rfl : n = ⟨#[110, 111, 98, 114]⟩ := ext_list m
      clear m
      rw [show closesB (⟨#[110, 111, 98, 114]⟩ : ByteArray).data.toList (⟨#[110, 111, 98, 114]⟩ : ByteArray).data.toList = true by decide]
      go_enter Tryz.func30, Tryz.ntmps30
      go_wp2_with fail
      go_ret
      exact ⟨rfl, rfl⟩
    have m0 := m
    clear m
    have t0 : (n.toList == [110, 111, 98, 114]) = false := beq_eq_false_iff_ne.2 (by rw [bytes_list]; exact m0)
    have HE : closesB n.data.toList (⟨#[110, 111, 98, 114]⟩ : ByteArray).data.toList = false := by
      show decide (n.data.toList = [110, 111, 98, 114]) = false
      exact decide_eq_false m0
    clear m0
    rw [HE]
    clear HE
    go_enter Tryz.func30, Tryz.ntmps30
    go_wp2_with fail
    go_ret
    exact ⟨rfl, rfl⟩
  by_cases h10 : o.data.toList = [98, 117, 116, 116, 111, 110]
  · obtain rfl : o = ⟨#[98, 117, 116, 116, 111, 110]⟩ := ext_list h10
    clear h0 h1 h2 h3 h4 h5 h6 h7 h8 h9 h10
    by_cases m : n.data.toList = [98, 117, 116, 116, 111, 110]
    · obtain rfl : n = ⟨#[98, 117, 116, 116, 111, 110]⟩ := ext_list m
      clear m
      rw [show closesB (⟨#[98, 117, 116, 116, 111, 110]⟩ : ByteArray).data.toList (⟨#[98, 117, 116, 116, 111, 110]⟩ : ByteArray).data.toList = true by decide]
      go_enter Tryz.func30, Tryz.ntmps30
      go_wp2_with fail
      go_ret
      exact ⟨rfl, rfl⟩
    have m0 := m
    clear m
    have t0 : (n.toList == [98, 117, 116, 116, 111, 110]) = false := beq_eq_false_iff_ne.2 (by rw [bytes_list]; exact m0)
    have HE : closesB n.data.toList (⟨#[98, 117, 116, 116, 111, 110]⟩ : ByteArray).data.toList = false := by
      show decide (n.data.toList = [98, 117, 116, 116, 111, 110]) = false
      exact decide_eq_false m0
    clear m0
    rw [HE]
    clear HE
    go_enter Tryz.func30, Tryz.ntmps30
    go_wp2_with fail
    go_ret
    exact ⟨rfl, rfl⟩
  rw [closes14_pure n.data.toList o.data.toList ⟨h0, h1, h2, h3, h4, h5, h6, h7, h8, h9, h10⟩]
  have t0 : (o.toList == [112]) = false := beq_eq_false_iff_ne.2 (by rw [bytes_list]; exact h0)
  have t1 : (o.toList == [100, 100]) = false := beq_eq_false_iff_ne.2 (by rw [bytes_list]; exact h1)
  have t2 : (o.toList == [100, 116]) = false := beq_eq_false_iff_ne.2 (by rw [bytes_list]; exact h2)
  have t3 : (o.toList == [116, 100]) = false := beq_eq_false_iff_ne.2 (by rw [bytes_list]; exact h3)
  have t4 : (o.toList == [116, 104]) = false := beq_eq_false_iff_ne.2 (by rw [bytes_list]; exact h4)
  have t5 : (o.toList == [108, 105]) = false := beq_eq_false_iff_ne.2 (by rw [bytes_list]; exact h5)
  have t6 : (o.toList == [97]) = false := beq_eq_false_iff_ne.2 (by rw [bytes_list]; exact h6)
  have t7 : (o.toList == [111, 112, 116, 105, 111, 110]) = false := beq_eq_false_iff_ne.2 (by rw [bytes_list]; exact h7)
  have t8 : (o.toList == [116, 114]) = false := beq_eq_false_iff_ne.2 (by rw [bytes_list]; exact h8)
  have t9 : (o.toList == [110, 111, 98, 114]) = false := beq_eq_false_iff_ne.2 (by rw [bytes_list]; exact h9)
  have t10 : (o.toList == [98, 117, 116, 116, 111, 110]) = false := beq_eq_false_iff_ne.2 (by rw [bytes_list]; exact h10)
  clear h0 h1 h2 h3 h4 h5 h6 h7 h8 h9 h10
  have hh : ∀ (s : ByteArray) (bb : Bool), headNB s.data.toList = bb → Calls Tryz.prog 70 #[.string s] w fun e w' => e = .returned (.bool bb) ∧ w = w' := fun s bb e => by rw [← e]; exact isHeading_any s w
  cases ho : headNB o.data.toList with
  | false =>
    have HO := hide (hh o false ho)
    clear hh ho
    go_enter Tryz.func30, Tryz.ntmps30
    go_wp2_with fail
    refine HO.out.mono ?_
    rintro e w1 ⟨rfl, rfl⟩
    go_wp2_with fail
    go_ret
    exact ⟨rfl, rfl⟩
  | true =>
    have HO := hide (hh o true ho)
    obtain ⟨bb, hbb⟩ : ∃ bb, bb = headNB n.data.toList := ⟨_, rfl⟩
    have HN := hide (hh n bb hbb.symm)
    rw [← hbb]
    clear hh ho hbb
    go_enter Tryz.func30, Tryz.ntmps30
    go_wp2_with fail
    refine HO.out.mono ?_
    rintro e w1 ⟨rfl, rfl⟩
    go_wp2_with fail
    refine HN.out.mono ?_
    rintro e w1 ⟨rfl, rfl⟩
    go_wp2_with fail
    go_ret
    exact ⟨rfl, rfl⟩
end Go.Proofs.YtgokefodmjhhiaaGreatDoor

/- WALKS of the tree builder: the two that are asked. No statement is proved here. Own work of the verifier. -/
namespace Go.Proofs.YtgokefodmjhhiaaGreatDoor
open Go.RowKit
set_option linter.unusedVariables false
set_option linter.unusedSimpArgs false
set_option maxRecDepth 100000
theorem tok_ne {x y : List UInt8} {X Y : ByteArray} (hX : X = str x) (hY : Y = str y) (h : x ≠ y) : (X.toList == Y.toList) = false := by
  rw [hX, hY, bytes_list, bytes_list, str_toList, str_toList]; exact beq_eq_false_iff_ne.2 h
set_option maxHeartbeats 2000000 in
theorem ask_end (bt : Nat) (nm : ByteArray) : AskAt 56 bt nm (fun o => o == nm.data.toList) := by
  intro w1 g o x hn hx
  obtain ⟨X, hX⟩ : ∃ X, X = str x := ⟨_, rfl⟩
  rw [← hX] at hx
  by_cases he : x = nm.data.toList
  · have e1 : X = nm := by rw [hX, he, str_of]
    subst e1
    have hb : (x == X.data.toList) = true := beq_iff_eq.2 he
    show Calls _ _ _ _ fun e w' => e = .returned (.bool (x == _)) ∧ _
    rw [hb]
    clear hX he hb
    go_enter Tryz.func56, Tryz.ntmps56
    go_wp2_with fail
    go_quiet (fail)
    go_wp2_with fail
    go_ret
    exact ⟨rfl, nq, rfl⟩
  · have hb : (x == nm.data.toList) = false := beq_eq_false_iff_ne.2 he
    have h1 : (X.toList == nm.toList) = false := tok_ne hX (str_of nm).symm he
    show Calls _ _ _ _ fun e w' => e = .returned (.bool (x == _)) ∧ _
    rw [hb]
    clear hX he hb
    go_enter Tryz.func56, Tryz.ntmps56
    go_wp2_with fail
    go_quiet (fail)
    go_wp2_with fail
    go_ret
    exact ⟨rfl, nq, rfl⟩
set_option maxHeartbeats 2000000 in
theorem ask_start (bt : Nat) (nm : ByteArray) : AskAt 108 bt nm (closesB nm.data.toList) := by
  intro w1 g o x hn hx
  obtain ⟨X, hX⟩ : ∃ X, X = str x := ⟨_, rfl⟩
  rw [← hX] at hx
  have hxl : X.data.toList = x := by rw [hX, str_toList]
  have hc := fun w => closes14_any nm X w
  rw [hxl] at hc
  obtain ⟨bb, hbb⟩ : ∃ bb, bb = closesB nm.data.toList x := ⟨_, rfl⟩
  rw [← hbb] at hc ⊢
  have HC := hide (fun w => (hc w).mono (fun e w' h => (⟨h.1, 0, h.2.symm⟩ : e = .returned (.bool bb) ∧ ∃ m, w' = w.drewN m)))
  clear hX hxl hc hbb
  go_enter Tryz.func108, Tryz.ntmps108
  go_wp2_with fail
  go_quiet (first | (go_at_call 30; exact Calls.quiet_of (HC.out _)) | fail)
  go_wp2_with fail
  go_ret
  exact ⟨rfl, nq, rfl⟩
/-- put back before an earlier world -/
theorem BS.onto {C : Nat → Prop} {B b : Nat} {r : Value} {st : List PartV} {n : Nat} {W0 W1 w : World} (h : BS C B b r st n W1 w) (hb : Below B W0 W1) (hs : Since4 W0 W1) : BS C B b r st n W0 w :=
  ⟨h.blk, h.row, h.attrs, h.kids, h.apart, h.tails, h.quiet, h.typ, h.base, hb.trans h.below, h.size, hs.trans h.since⟩
end Go.Proofs.YtgokefodmjhhiaaGreatDoor

/- WALK of the tree builder: start. No statement is proved here. Own work of the verifier. -/
namespace Go.Proofs.YtgokefodmjhhiaaGreatDoor
open Go.RowKit
set_option linter.unusedVariables false
set_option linter.unusedSimpArgs false
set_option maxRecDepth 100000
theorem attrs_since {W w : World} {B : Nat} {u : Value} {m : Nat} {xs : List Value} (hs : Since4 W w) (hu : W.ownsRow B 32 2 u m xs) : w.ownsRow B 32 2 u m xs := by
  refine ⟨hu.1, ?_⟩
  rcases hu.2 with h | ⟨g, cap, cur, rfl, h1, h2, h3⟩
  · exact .inl h
  · exact .inr ⟨g, cap, cur, rfl, h1, (hs g _ _ _ h2 (by decide)).trans h2, h3⟩
/-- the attributes of a token lie in blocks that lie still -/
theorem BS.withAttrs {C : Nat → Prop} {B B' b : Nat} {r u : Value} {st : List PartV} {n : Nat} {W0 w : World} {ats : List AtL} (h : BS C B b r st n W0 w) (hu : w.ownsRow B' 32 2 u ats.length (atVals ats)) : ∃ C' : Nat → Prop, BS C' B b r st n W0 w ∧ AttrsC C' w u ats := by
  refine ⟨fun g => C g ∨ ∃ (cur : Array Value) (fz : Nat × Nat), w.heap[g]? = some (Obj.cells cur 32 fz), h.wider (fun x hx => .inl hx) (fun p hp g e hc => ?_) (fun g hg => ?_), attrs_of_row hu, fun a m c e hne => .inr ?_⟩
  · rcases hc with hc | ⟨cur, fz, hh⟩
    · exact (h.kids p hp).out g e hc
    · obtain ⟨cur2, T2, fz2, h2, h3⟩ := own_ty (h.kids p hp).row e
      rw [hh] at h2
      injection h2 with h2
      injection h2 with _ h2
      rw [← h2] at h3
      exact absurd h3 (by decide)
  · rcases hg with hg | ⟨cur, fz, hh⟩
    · exact h.typ g hg
    · refine ⟨lt_of_block hh, fun cur2 T2 fz2 h2 => .inr ?_⟩
      rw [hh] at h2
      injection h2 with h2
      injection h2 with _ h2
      exact h2.symm
  · rcases hu.2 with ⟨e0, _⟩ | ⟨g, cap, cur, e0, _, hh, _⟩
    · rw [e0] at e; cases e
    · rw [e0] at e
      injection e with e _ _
      injection e with e
      subst e
      exact ⟨cur, _, hh⟩
theorem info_part : (Tryz.prog.info? 71).map (fun i => (i.zero, i.size, i.bytes)) = some (some (.agg #[.string ByteArray.empty, .slice none 0 0, .string ByteArray.empty, .slice none 0 0, .slice none 0 0]), 5, 104) := by kernel_rfl
/-- append(row, an element that is opened) at a step of a region that draws its order -/
theorem step_part {ops : Array Oper} {o : Oper} {a : Act} {w : World} {K : Act → World → Prop} {Q : Exit → Act → World → Prop} {E : Prop} (hgd : o.guard = none) (s x : Operand)
    (ho : o.op = .call { callee := .builtin .append, args := #[s, x], argTypes := #[64, 64] })
    (B : Nat) (v : Value) (st : List PartV) (hs : a.eval s = v) (hb : w.ownsRow B 71 5 v st.length (partVals st.reverse)) (hB : B ≤ w.heap.size) (ad : Addr) (nm : List UInt8) (ats : List AtL) (A : Option Addr) (c m : Nat)
    (hx : a.eval x = .slice (some ad) 1 1) (h0 : w.cell? (ad.add 0) = some (.string (str nm))) (h1 : w.cell? (ad.add 1) = some (.slice A m c)) (h2 : w.cell? (ad.add 2) = some (.string ⟨#[]⟩)) (h3 : w.cell? (ad.add 3) = some (.slice none 0 0)) (h4 : w.cell? (ad.add 4) = some (.slice none 0 0))
    (hlen : st.length + 1 ≤ 1073741824)
    (h : ∀ v' w', w'.ownsRow B 71 5 v' (st.length + 1) (partVals st.reverse ++ partVals [⟨nm, ats, .slice A m c, [], .slice none 0 0, [], .slice none 0 0⟩]) → w.grownBy w' v.ownBlock → K (a.put o.dst v') w') :
    if Region.wanted o (yielded ops a.tmps) = true then Oper.wp Tryz.prog o a w K Q else E := by
  have hw : Region.wanted o (yielded ops a.tmps) = true := by simp [Region.wanted, hgd]
  rw [if_pos hw]
  obtain ⟨i0, hi, hz0, hz1, hz2⟩ := info_parts info_part
  refine wp_append_own _ s x 64 ho B 71 i0 _ 5 104 Tryz.underlying64 hi hz0 hz1 hz2 rfl (by decide) v st.length (partVals st.reverse) hs hb ad 1 1 (partVals [⟨nm, ats, .slice A m c, [], .slice none 0 0, [], .slice none 0 0⟩]) hx rfl ?_ ?_ (by unfold maxLen; omega) (by omega) hB ?_
  · intro j u hj
    match j, hj with
    | 0, hj => simp [partVals] at hj; subst hj; exact h0
    | 1, hj => simp [partVals] at hj; subst hj; exact h1
    | 2, hj => simp [partVals] at hj; subst hj; exact h2
    | 3, hj => simp [partVals] at hj; subst hj; exact h3
    | 4, hj => simp [partVals] at hj; subst hj; exact h4
    | (j + 5), hj => simp [partVals] at hj
  · intro u hu
    simp [partVals] at hu
    rcases hu with rfl | rfl | rfl | rfl | rfl <;> rfl
  · intro v' w' ho' hg _
    exact h v' w' ho' hg
theorem part_row (W : World) (c0 c1 c2 c3 c4 : Value) : (W.alloc (.cells #[c0, c1, c2, c3, c4] 71)).cell? ((⟨W.heap.size, 0, none⟩ : Addr).add 0) = some c0 ∧ (W.alloc (.cells #[c0, c1, c2, c3, c4] 71)).cell? ((⟨W.heap.size, 0, none⟩ : Addr).add 1) = some c1 ∧ (W.alloc (.cells #[c0, c1, c2, c3, c4] 71)).cell? ((⟨W.heap.size, 0, none⟩ : Addr).add 2) = some c2 ∧ (W.alloc (.cells #[c0, c1, c2, c3, c4] 71)).cell? ((⟨W.heap.size, 0, none⟩ : Addr).add 3) = some c3 ∧ (W.alloc (.cells #[c0, c1, c2, c3, c4] 71)).cell? ((⟨W.heap.size, 0, none⟩ : Addr).add 4) = some c4 := by
  have h : (W.alloc (.cells #[c0, c1, c2, c3, c4] 71)).heap[W.heap.size]? = some (.cells #[c0, c1, c2, c3, c4] 71 (0, 0)) := by
    show (W.heap.push _)[W.heap.size]? = _
    exact Array.getElem?_push_size
  exact ⟨by rw [Addr.add_lit, Lib.cell_of_heap h]; rfl, by rw [Addr.add_lit, Lib.cell_of_heap h]; rfl, by rw [Addr.add_lit, Lib.cell_of_heap h]; rfl, by rw [Addr.add_lit, Lib.cell_of_heap h]; rfl, by rw [Addr.add_lit, Lib.cell_of_heap h]; rfl⟩
/-- how far start has closed -/
def ClosedS (B b n : Nat) (is : List UInt8 → Bool) (F : List PartL) (W1 wr : World) (st : List PartV) : Prop :=
  (∃ C r, BS C B b r st n W1 wr) ∧ closeAll is (toLs st).length (toLs st) = F ∧ stW (toLs st) ≤ 5000 ∧ (∀ p ∈ st, p.tail.length ≤ 1099511627776) ∧ st.length ≤ 1000000 ∧ st ≠ []
/-- what start leaves -/
def StartP (B b : Nat) (t : TokL) (F : List PartL) (n : Nat) (W0 w' : World) : Prop :=
  ∃ C r st', BS C B b r st' (if n = 5000 then n else n + 1) W0 w' ∧ toLs st' = (if n = 5000 then F else (putP t F n).1) ∧ ∀ p ∈ st', p.tail.length ≤ 1099511627776
set_option maxHeartbeats 16000000 in
theorem start14_any (C : Nat → Prop) (B B' b : Nat) (r : Value) (st : List PartV) (n : Nat) (W0 w : World) (t : TokL) (u : Value) (h : BS C B b r st n W0 w) (hs : st ≠ []) (hw : stW (toLs st) ≤ 5000) (hn : n ≤ 5000) (htl : ∀ p ∈ st, p.tail.length ≤ 1099511627776) (hl : st.length ≤ 1000000) (hu : w.ownsRow B' 32 2 u t.attrs.length (atVals t.attrs)) :
    Calls Tryz.prog 54 #[.pointer (some ⟨b, 0, none⟩), tokV t u] w fun e w' => e = .returned (.tuple #[]) ∧ StartP B b t (closeAll (closesB t.name) (toLs st).length (toLs st)) n W0 w' := by
  obtain ⟨A, c, rfl⟩ : ∃ A c, u = .slice A t.attrs.length c := by
    rcases hu.2 with ⟨rfl, h0⟩ | ⟨g, cap, cur, rfl, _⟩
    · rw [h0]; exact ⟨_, _, rfl⟩
    · exact ⟨_, _, rfl⟩
  obtain ⟨F, hF⟩ : ∃ F, F = closeAll (closesB t.name) (toLs st).length (toLs st) := ⟨_, rfl⟩
  rw [← hF]
  obtain ⟨W1, hW1⟩ : ∃ W1, W1 = w.alloc (.cells #[.int .i64 (t.kind : Int), .string (str t.name), .slice A t.attrs.length c, .string (str t.text)] 29) := ⟨_, rfl⟩
  have hb1 : Below w.heap.size w W1 := by rw [hW1]; exact below_one _ _
  have hbx : W1.heap[w.heap.size]? = some (Obj.cells #[.int .i64 (t.kind : Int), .string (str t.name), .slice A t.attrs.length c, .string (str t.text)] 29 (0, 0)) := by rw [hW1]; exact heap_alloc_new w _
  have hB1 : BS C B b r st n W1 W1 := (h.kept hb1).from
  have HON : Hid (∀ C' r' st' n' w', BS C' B b r' st' n' W1 w' → BS C' B b r' st' n' W0 w') := hide fun C' r' st' n' w' h' => h'.onto ((h.kept hb1).below) ((h.kept hb1).since)
  have HU : Hid (W1.ownsRow B' 32 2 (.slice A t.attrs.length c) t.attrs.length (atVals t.attrs)) := hide (hu.kept (grown_none hb1) (by cases hv : Value.ownBlock (.slice A t.attrs.length c) <;> simp))
  have HBX : Hid (∀ w', Since4 W1 w' → w'.heap[w.heap.size]? = some (Obj.cells #[.int .i64 (t.kind : Int), .string (str t.name), .slice A t.attrs.length c, .string (str t.text)] 29 (0, 0))) := hide fun w' hs => (hs _ _ _ _ hbx (by decide)).trans hbx
  have HS : Hid (ClosedS B b n (closesB t.name) F W1 W1 st) := hide ⟨⟨C, r, hB1⟩, hF.symm, hw, htl, hl, hs⟩
  have HASK := hide (ask_start w.heap.size (str t.name))
  have HN := hide hn
  obtain ⟨nm, hnm⟩ : ∃ nm, nm = str t.name := ⟨_, rfl⟩
  have hnl : nm.data.toList = t.name := by rw [hnm, str_toList]
  have hmf : ∀ (fn : Fn) (first cap : Array Value) (w : World), (Instr.makeFunc fn first cap).run Tryz.prog w = .ok (.func fn first cap) w := fun _ _ _ _ => rfl
  have HNM := hide hnm
  have HW1 := hide hW1
  rw [← hnm] at HASK HBX
  unfold AskAt at HASK
  rw [hnl] at HASK
  have HK := hide (enters_of Tryz.func108 (by kernel_rfl) rfl)
  clear h hs hw hn htl hl hu hF hb1 hbx hB1 hnl
  unfold tokV
  rw [← hnm]
  rw [← hnm] at hW1
  clear hnm
  go_enter Tryz.func54, Tryz.ntmps54
  go_wp2_with fail
  rw [← hW1]
  clear hW1
  go_loopg [] st.length (fun gk wr => ∃ st' : List PartV, st'.length ≤ gk ∧ Hid (ClosedS B b n (closesB t.name) F W1 wr st'))
  case atStart => exact ⟨st, Nat.le_refl _, HS.out⟩
  case round =>
    obtain ⟨st', hlen, HR⟩ := hrel
    obtain ⟨⟨C1, r1, hb⟩, h1, h2, h3, h4, h5⟩ := HR.out
    have hbx := HBX.out wr hb.since
    have hcl := close_gen 108 w.heap.size nm (closesB t.name) HK.out HASK.out C1 B b r1 st' n W1 wr hb h5 h2 h3 h4 (by rw [Lib.cell_of_heap hbx]; rfl)
    cases hf : findP (closesB t.name) (toLs st') with
    | some k =>
      rw [hf] at hcl
      have HCL := hide hcl
      obtain ⟨k1, k2⟩ := findP_lt hf
      rw [toLs_length] at k2
      have hcs := closeAll_step hf
      have hcn := closeN_length k (toLs st') (by rw [toLs_length]; exact k2)
      have HP : Hid (∀ st2 : List PartV, toLs st2 = closeB (closesB t.name) (toLs st') → st2.length < st'.length ∧ closeAll (closesB t.name) (toLs st2).length (toLs st2) = F ∧ stW (toLs st2) ≤ 5000 ∧ st2.length ≤ 1000000 ∧ st2 ≠ []) := hide fun st2 he => by
        unfold closeB at he
        rw [hf] at he
        simp only at he
        have hl2 : st2.length = st'.length - k := by rw [← toLs_length, he, hcn, toLs_length]
        refine ⟨by omega, by rw [he, ← hcs]; exact h1, by rw [he, closeN_wt]; exact h2, by omega, fun e => by rw [e] at hl2; simp only [List.length_nil] at hl2; omega⟩
      clear hb hbx hcl hf k1 k2 hcs hcn h1 h2 h3 h4 h5
      go_wp2_with fail
      refine HCL.out.mono ?_
      rintro e w2 ⟨rfl, st2, hb2, he2, ht2⟩
      have HB2 := hide hb2
      have HE2 := hide (HP.out st2 he2)
      have HT2 := hide ht2
      clear hb2 he2 ht2
      go_wp2_with fail
      cases gk with
      | zero => exact absurd hlen (by have := HE2.out.1; omega)
      | succ gk =>
      go_roundg gk
      case rel => exact ⟨st2, by have := HE2.out.1; omega, hide ⟨HB2.out, HE2.out.2.1, HE2.out.2.2.1, HT2.out, HE2.out.2.2.2.1, HE2.out.2.2.2.2⟩⟩
      case measure => omega
    | none =>
      rw [hf] at hcl
      have HCL := hide hcl
      have HP : Hid (∀ st2 : List PartV, toLs st2 = closeB (closesB t.name) (toLs st') → toLs st2 = F ∧ stW (toLs st2) ≤ 5000 ∧ st2.length ≤ 1000000 ∧ st2 ≠ []) := hide fun st2 he => by
        unfold closeB at he
        rw [hf] at he
        simp only at he
        have hl2 : st2.length = st'.length := by rw [← toLs_length, he, toLs_length]
        refine ⟨by rw [he, ← h1, closeAll_none hf], by rw [he]; exact h2, by omega, fun e => by rw [e] at hl2; simp only [List.length_nil] at hl2; exact h5 (List.eq_nil_of_length_eq_zero hl2.symm)⟩
      clear hb hbx hcl hf h1 h2 h3 h4 h5
      go_wp2_with fail
      refine HCL.out.mono ?_
      rintro e w2 ⟨rfl, st2, ⟨C2, r2, hb2⟩, he2, ht2⟩
      have HE2 := hide (HP.out st2 he2)
      have HT2 := hide ht2
      obtain ⟨g, cap, rfl, i1, i2, i3, i4⟩ := hb2.form HE2.out.2.2.2
      have HB2 := hide hb2
      have HC2 := hide (And.intro i1 i2)
      clear hb2 he2 ht2 HP HCL HR hlen i1 i2 i3 i4
      by_cases hn5 : n = 5000
      · have HR2 : Hid (StartP B b t F n W0 w2) := hide ⟨C2, _, st2, by rw [if_pos hn5]; exact HON.out _ _ _ _ _ HB2.out, by rw [if_pos hn5]; exact HE2.out.1, HT2.out⟩
        have HT := hide (take_no C2 B b _ st2 W1 w2 (by have := HB2.out; rw [hn5] at this; exact this))
        clear hn5
        go_wp2_with fail
        refine HT.out.mono ?_
        rintro e w3 ⟨rfl, rfl⟩
        go_wp2_with fail
        try simp only [Exit.inBlock, Exit.then]
        refine bodyPost_ret (results_none rfl _ _ _) rfl ?_
        exact ⟨rfl, HR2.out⟩
      · match st2, HB2, HE2, HT2, HC2 with
        | [], _, HE2, _, _ => exact absurd rfl HE2.out.2.2.2
        | p :: rest, HB2, HE2, HT2, HC2 =>
        have hb2 : BS C2 B b (.slice (some ⟨g, 0, none⟩) (rest.length + 1) cap) (p :: rest) n W1 w2 := HB2.out
        have hn5' : n < 5000 := by have := HN.out; omega
        have hrl : rest.length ≤ 1000000 := by have := HE2.out.2.2.1; simp only [List.length_cons] at this; omega
        have HT := hide (take_yes C2 B b _ (p :: rest) n W1 w2 hb2 hn5')
        have HRL := hide hrl
        have HN5 := hide hn5
        clear hb2 hn5 hn5' hrl
        go_wp2_with fail
        refine HT.out.mono ?_
        rintro e w3 ⟨rfl, hb3⟩
        have HI := hide (inner_at C2 B b g cap p rest (n + 1) W1 w3 hb3 HRL.out)
        clear hb3
        go_wp2_with fail
        refine HI.out.mono ?_
        rintro e w4 ⟨rfl, hb4⟩
        have HEX := hide (endTextT_any C2 B b g cap p rest (n + 1) W1 w4 hb4 (by have := HRL.out; omega) (by have := kids_le (p := p) (List.mem_cons_self ..) HE2.out.2.1; omega) (HT2.out p (List.mem_cons_self ..)))
        clear hb4
        go_wp2_with fail
        refine HEX.out.mono ?_
        rintro e w5 ⟨rfl, p', hb5, hp'⟩
        obtain ⟨C3, hb6, ha6⟩ := hb5.withAttrs (attrs_since hb5.since HU.out)
        have hbx := HBX.out w5 hb5.since
        have bx1 : w5.cell? ⟨w.heap.size, 1, none⟩ = some (.string nm) := by rw [Lib.cell_of_heap hbx]; rfl
        have bx2 : w5.cell? ⟨w.heap.size, 2, none⟩ = some (.slice A t.attrs.length c) := by rw [Lib.cell_of_heap hbx]; rfl
        have hk6 := below_one w5 (Obj.cells #[.string nm, .slice A t.attrs.length c, .string ⟨#[]⟩, .slice none 0 0] 41)
        have HB6 := hide (hb6.kept hk6)
        have HA6 := hide (ha6.mono (C' := C3) (fun k hk => hk6.block k (hb6.typ k hk).1) (fun _ x => x))
        have HP := hide hp'
        have hbe := node_row w5 (.string nm) (.slice A t.attrs.length c) (.string ⟨#[]⟩) (.slice none 0 0)
        rw [Addr.add_zero', Addr.add_lit, Addr.add_lit, Addr.add_lit, Nat.zero_add, Nat.zero_add, Nat.zero_add] at hbe
        have HBE := hide hbe
        have HBXC : Hid ((w5.alloc (Obj.cells #[.string nm, .slice A t.attrs.length c, .string ⟨#[]⟩, .slice none 0 0] 41)).cell? ⟨w.heap.size, 1, none⟩ = some (.string nm)) := hide ((hk6.cell (World.block_lt_of_cell? _ _ bx1)).trans bx1)
        have bx1a := HBXC.out
        clear hb5 hb6 ha6 hbx hk6 hp' hbe
        go_wp2_with fail
        clear bx1a
        generalize (w5.alloc (Obj.cells #[.string nm, .slice A t.attrs.length c, .string ⟨#[]⟩, .slice none 0 0] 41)) = W6 at HB6 HA6 HBE HBXC ⊢
        have hpl : p'.kids.length ≤ 5001 := by
          have h1 := kids_le (p := p) (List.mem_cons_self ..) HE2.out.2.1
          have h2 := congrArg (fun z : PartL => z.kids.length) HP.out
          unfold endTextL at h2
          split at h2
          · simp only [PartV.toL, List.length_map] at h2; omega
          · simp only [PartV.toL, List.length_map, List.length_append, List.length_cons, List.length_nil] at h2; omega
        have HPL := hide hpl
        have htp : p'.tail = [] := by
          have h2 := congrArg (fun z : PartL => z.tail) HP.out
          simp only [endText_tail] at h2
          exact h2
        have HTP : Hid (p'.tail.length ≤ 1099511627776) := hide (by rw [htp]; exact Nat.zero_le _)
        have HQT : Hid (∀ x ∈ p' :: rest, x.tail = []) := hide (fun x hx => by
          rcases List.mem_cons.1 hx with rfl | hx
          · exact htp
          · exact HB6.out.quiet x hx)
        have hv := fun w => void14_any nm w
        rw [show nm.data.toList = t.name by rw [HNM.out, str_toList]] at hv
        clear hpl htp bx1 bx2
        cases hvb : voidL.contains t.name with
        | true =>
          rw [hvb] at hv
          have HV := hide hv
          have HCD : Hid (voidB t.name = true ∨ 30 < (p.toL :: toLs rest).length) := hide (.inl hvb)
          clear hv hvb
          refine (HV.out _).mono ?_
          rintro e w8 ⟨rfl, rfl⟩
          have hb7 := HB6.out
          obtain ⟨QA, QC, hqv⟩ := (hb7.kids p' (List.mem_cons_self ..)).form
          obtain ⟨z0, z1, z2, z3, z4, zf⟩ := hb7.cells
          rw [hqv] at z3
          have HQV := hide hqv
          obtain ⟨y0, y1, y2, y3⟩ := HBE.out
          clear hb7 hqv z0 z1 z2 z4
          have HOWN : Hid (∀ W, Below W6.heap.size W6 W → W.ownsRow B 41 4 (.slice QA p'.kids.length QC) p'.kids.length (nodeVals p'.kids)) := hide fun W hW => by
            have := ((HB6.out.kept hW).kids p' (List.mem_cons_self ..)).row
            rw [HQV.out] at this; exact this
          have z3a : ∀ ob, (W6.alloc ob).cell? ⟨g, rest.length * 5 + 3, none⟩ = some (.slice QA p'.kids.length QC) := fun ob => ((below_one W6 ob).cell (World.block_lt_of_cell? _ _ z3)).trans z3
          have y0a : ∀ ob, (W6.alloc ob).cell? ⟨w5.heap.size, 0, none⟩ = some (.string nm) := fun ob => ((below_one W6 ob).cell (World.block_lt_of_cell? _ _ y0)).trans y0
          have y1a : ∀ ob, (W6.alloc ob).cell? ⟨w5.heap.size, 1, none⟩ = some (.slice A t.attrs.length c) := fun ob => ((below_one W6 ob).cell (World.block_lt_of_cell? _ _ y1)).trans y1
          have y2a : ∀ ob, (W6.alloc ob).cell? ⟨w5.heap.size, 2, none⟩ = some (.string ⟨#[]⟩) := fun ob => ((below_one W6 ob).cell (World.block_lt_of_cell? _ _ y2)).trans y2
          have y3a : ∀ ob, (W6.alloc ob).cell? ⟨w5.heap.size, 3, none⟩ = some (.slice none 0 0) := fun ob => ((below_one W6 ob).cell (World.block_lt_of_cell? _ _ y3)).trans y3
          have tn5 : ((p'.kids.length : Nat) : Int) < (p'.kids.length : Int) + 1 := by omega
          go_wp2_with fail
          go_region_law (first
            | (refine step_node0 rfl _ _ rfl B (.slice QA p'.kids.length QC) p'.kids rfl (HOWN.out _ ?_) ?_ ⟨W6.heap.size, 0, none⟩ rfl (node_row _ _ _ _ _).1 (node_row _ _ _ _ _).2.1 (node_row _ _ _ _ _).2.2.1 (node_row _ _ _ _ _).2.2.2 (by have := HPL.out; omega) ?_
               · exact ((Below.refl _ _).alloc (Nat.le_refl _) _).drew
               · exact Nat.le_trans HB6.out.size (((Below.refl W6.heap.size W6).alloc (Nat.le_refl _) _).drew).size
               intro g' cap' w7 ho2 hg2 hor2 hc2 hm2
               have hk1 : Below W6.heap.size W6 (W6.alloc (.cells #[.string ⟨#[]⟩, .slice none 0 0, .string ⟨#[]⟩, .slice none 0 0] 41)).drew := ((Below.refl W6.heap.size W6).alloc (Nat.le_refl _) _).drew
               have HB1 := hide (HB6.out.kept hk1)
               have HA7 := hide (HA6.out.mono (C' := C3) (fun k hk => hk1.block k (HB6.out.typ k hk).1) (fun _ x => x))
               have hg3 := hg2
               rw [← HQV.out] at hg3 hor2
               obtain ⟨n1, n2, ⟨n3, n4, n5, n6⟩, n7, n8⟩ := app_facts HB1.out ho2 hg3 hor2
               have n9 : w7.cell? ⟨g, rest.length * 5 + 3, none⟩ = some (.slice QA p'.kids.length QC) := (n8 _).trans (z3a _)
               have n11 : ¬ (g = g') := fun e => n1 e.symm
               have HO2 := hide ho2
               have HG2 := hide hg3
               have HOR := hide hor2
               clear ho2 hg2 hg3 hor2 hc2 hm2 n8 hk1))
          all_goals
            first | rw [kid_comm w7 n11] | skip
            have hb8 := HB1.out.kidWritten (q := ((⟨t.name, t.attrs, []⟩, .nil), (.slice A t.attrs.length c, .slice none 0 0))) HO2.out HG2.out HOR.out ⟨HA7.out, .inl ⟨rfl, rfl⟩⟩
            simp only at hb8
            rw [← HNM.out] at hb8
            have HB8 := hide hb8
            clear hb8
            go_wp2_with fail
            try simp only [Exit.inBlock, Exit.then]
            refine bodyPost_ret (results_none rfl _ _ _) rfl ?_
            refine ⟨rfl, C3, _, _, by rw [if_neg HN5.out]; exact HON.out _ _ _ _ _ HB8.out, ?_, ?_⟩
            · rw [if_neg HN5.out, ← HE2.out.1]
              show _ = (putP t (p.toL :: toLs rest) n).1
              rw [putP_cons, if_pos HCD.out, ← HP.out]
              simp [toLs, PartV.toL]
            · intro x hx
              rcases List.mem_cons.1 hx with rfl | hx
              · exact HTP.out
              · exact HT2.out x (List.mem_cons_of_mem _ hx)
        | false =>
          rw [hvb] at hv
          have HV := hide hv
          by_cases hd : 30 < rest.length + 1
          · have HCD : Hid (voidB t.name = true ∨ 30 < (p.toL :: toLs rest).length) := hide (.inr (by rw [List.length_cons, toLs_length]; exact hd))
            have d0 : decide ((30 : Int) < (rest.length : Int) + 1) = true := decide_eq_true (by omega)
            have cc0 := HB6.out.c0
            clear hv hvb hd
            refine (HV.out _).mono ?_
            rintro e w8 ⟨rfl, rfl⟩
            have hb7 := HB6.out
            obtain ⟨QA, QC, hqv⟩ := (hb7.kids p' (List.mem_cons_self ..)).form
            obtain ⟨z0, z1, z2, z3, z4, zf⟩ := hb7.cells
            rw [hqv] at z3
            have HQV := hide hqv
            obtain ⟨y0, y1, y2, y3⟩ := HBE.out
            clear hb7 hqv z0 z1 z2 z4
            have HOWN : Hid (∀ W, Below W6.heap.size W6 W → W.ownsRow B 41 4 (.slice QA p'.kids.length QC) p'.kids.length (nodeVals p'.kids)) := hide fun W hW => by
              have := ((HB6.out.kept hW).kids p' (List.mem_cons_self ..)).row
              rw [HQV.out] at this; exact this
            have z3a : ∀ ob, (W6.alloc ob).cell? ⟨g, rest.length * 5 + 3, none⟩ = some (.slice QA p'.kids.length QC) := fun ob => ((below_one W6 ob).cell (World.block_lt_of_cell? _ _ z3)).trans z3
            have y0a : ∀ ob, (W6.alloc ob).cell? ⟨w5.heap.size, 0, none⟩ = some (.string nm) := fun ob => ((below_one W6 ob).cell (World.block_lt_of_cell? _ _ y0)).trans y0
            have y1a : ∀ ob, (W6.alloc ob).cell? ⟨w5.heap.size, 1, none⟩ = some (.slice A t.attrs.length c) := fun ob => ((below_one W6 ob).cell (World.block_lt_of_cell? _ _ y1)).trans y1
            have y2a : ∀ ob, (W6.alloc ob).cell? ⟨w5.heap.size, 2, none⟩ = some (.string ⟨#[]⟩) := fun ob => ((below_one W6 ob).cell (World.block_lt_of_cell? _ _ y2)).trans y2
            have y3a : ∀ ob, (W6.alloc ob).cell? ⟨w5.heap.size, 3, none⟩ = some (.slice none 0 0) := fun ob => ((below_one W6 ob).cell (World.block_lt_of_cell? _ _ y3)).trans y3
            have tn5 : ((p'.kids.length : Nat) : Int) < (p'.kids.length : Int) + 1 := by omega
            go_wp2_with fail
            clear cc0
            go_region_law (first
              | (refine step_node0 rfl _ _ rfl B (.slice QA p'.kids.length QC) p'.kids rfl (HOWN.out _ ?_) ?_ ⟨W6.heap.size, 0, none⟩ rfl (node_row _ _ _ _ _).1 (node_row _ _ _ _ _).2.1 (node_row _ _ _ _ _).2.2.1 (node_row _ _ _ _ _).2.2.2 (by have := HPL.out; omega) ?_
                 · exact ((Below.refl _ _).alloc (Nat.le_refl _) _).drew
                 · exact Nat.le_trans HB6.out.size (((Below.refl W6.heap.size W6).alloc (Nat.le_refl _) _).drew).size
                 intro g' cap' w7 ho2 hg2 hor2 hc2 hm2
                 have hk1 : Below W6.heap.size W6 (W6.alloc (.cells #[.string ⟨#[]⟩, .slice none 0 0, .string ⟨#[]⟩, .slice none 0 0] 41)).drew := ((Below.refl W6.heap.size W6).alloc (Nat.le_refl _) _).drew
                 have HB1 := hide (HB6.out.kept hk1)
                 have HA7 := hide (HA6.out.mono (C' := C3) (fun k hk => hk1.block k (HB6.out.typ k hk).1) (fun _ x => x))
                 have hg3 := hg2
                 rw [← HQV.out] at hg3 hor2
                 obtain ⟨n1, n2, ⟨n3, n4, n5, n6⟩, n7, n8⟩ := app_facts HB1.out ho2 hg3 hor2
                 have n9 : w7.cell? ⟨g, rest.length * 5 + 3, none⟩ = some (.slice QA p'.kids.length QC) := (n8 _).trans (z3a _)
                 have n11 : ¬ (g = g') := fun e => n1 e.symm
                 have HO2 := hide ho2
                 have HG2 := hide hg3
                 have HOR := hide hor2
                 clear ho2 hg2 hg3 hor2 hc2 hm2 n8 hk1))
            all_goals
              first | rw [kid_comm w7 n11] | skip
              have hb8 := HB1.out.kidWritten (q := ((⟨t.name, t.attrs, []⟩, .nil), (.slice A t.attrs.length c, .slice none 0 0))) HO2.out HG2.out HOR.out ⟨HA7.out, .inl ⟨rfl, rfl⟩⟩
              simp only at hb8
              rw [← HNM.out] at hb8
              have HB8 := hide hb8
              clear hb8
              go_wp2_with fail
              try simp only [Exit.inBlock, Exit.then]
              refine bodyPost_ret (results_none rfl _ _ _) rfl ?_
              refine ⟨rfl, C3, _, _, by rw [if_neg HN5.out]; exact HON.out _ _ _ _ _ HB8.out, ?_, ?_⟩
              · rw [if_neg HN5.out, ← HE2.out.1]
                show _ = (putP t (p.toL :: toLs rest) n).1
                rw [putP_cons, if_pos HCD.out, ← HP.out]
                simp [toLs, PartV.toL]
              · intro x hx
                rcases List.mem_cons.1 hx with rfl | hx
                · exact HTP.out
                · exact HT2.out x (List.mem_cons_of_mem _ hx)
          · have HCD : Hid (¬ (voidB t.name = true ∨ 30 < (p.toL :: toLs rest).length)) := hide (by
              rw [List.length_cons, toLs_length]
              exact fun e => e.elim (fun e => by rw [show voidB t.name = false from hvb] at e; cases e) hd)
            have d0 : decide ((30 : Int) < (rest.length : Int) + 1) = false := decide_eq_false (by omega)
            have cc0 := HB6.out.c0
            clear hv hvb hd
            refine (HV.out _).mono ?_
            rintro e w8 ⟨rfl, rfl⟩
            have hb7 := HB6.out
            have c0 := hb7.c0
            have f0 := hb7.free 0
            have c0a : ∀ ob, (W6.alloc ob).cell? ⟨b, 0, none⟩ = some (.slice (some ⟨g, 0, none⟩) (rest.length + 1) cap) := fun ob => ((below_one W6 ob).cell (World.block_lt_of_cell? _ _ c0)).trans c0
            obtain ⟨y0, y1, y2, y3⟩ := HBE.out
            clear hb7
            have HOWN : Hid (∀ W, Below W6.heap.size W6 W → W.ownsRow B 71 5 (.slice (some ⟨g, 0, none⟩) (rest.length + 1) cap) (p' :: rest).length (partVals (p' :: rest).reverse)) := hide fun W hW => (HB6.out.kept hW).row
            have y0a : ∀ ob, (W6.alloc ob).cell? ⟨w5.heap.size, 0, none⟩ = some (.string nm) := fun ob => ((below_one W6 ob).cell (World.block_lt_of_cell? _ _ y0)).trans y0
            have y1a : ∀ ob, (W6.alloc ob).cell? ⟨w5.heap.size, 1, none⟩ = some (.slice A t.attrs.length c) := fun ob => ((below_one W6 ob).cell (World.block_lt_of_cell? _ _ y1)).trans y1
            have y2a : ∀ ob, (W6.alloc ob).cell? ⟨w5.heap.size, 2, none⟩ = some (.string ⟨#[]⟩) := fun ob => ((below_one W6 ob).cell (World.block_lt_of_cell? _ _ y2)).trans y2
            have y3a : ∀ ob, (W6.alloc ob).cell? ⟨w5.heap.size, 3, none⟩ = some (.slice none 0 0) := fun ob => ((below_one W6 ob).cell (World.block_lt_of_cell? _ _ y3)).trans y3
            go_wp2_with fail
            go_region_law (first
              | (refine step_part rfl _ _ rfl B (.slice (some ⟨g, 0, none⟩) (rest.length + 1) cap) (p' :: rest) rfl (HOWN.out _ ?_) ?_ ⟨W6.heap.size, 0, none⟩ t.name t.attrs A c t.attrs.length rfl ((part_row _ _ _ _ _ _).1.trans (by rw [HNM.out])) (part_row _ _ _ _ _ _).2.1 (part_row _ _ _ _ _ _).2.2.1 (part_row _ _ _ _ _ _).2.2.2.1 (part_row _ _ _ _ _ _).2.2.2.2 (by have := HRL.out; simp only [List.length_cons]; omega) ?_
                 · exact ((Below.refl _ _).alloc (Nat.le_refl _) _).drew
                 · exact Nat.le_trans HB6.out.size (((Below.refl W6.heap.size W6).alloc (Nat.le_refl _) _).drew).size
                 intro v' w7 ho2 hg2
                 obtain ⟨ao, n', c', rfl⟩ : ∃ ao n' c', v' = .slice ao n' c' := by
                   rcases ho2.2 with ⟨hv, _⟩ | ⟨g0, c0, cur, hv, _⟩
                   · exact ⟨_, _, _, hv⟩
                   · exact ⟨_, _, _, hv⟩
                 have hk1 : Below W6.heap.size W6 (W6.alloc (.cells #[.string nm, .slice A t.attrs.length c, .string ⟨#[]⟩, .slice none 0 0, .slice none 0 0] 71)).drew := ((Below.refl W6.heap.size W6).alloc (Nat.le_refl _) _).drew
                 have HB1 := hide (HB6.out.kept hk1)
                 have HA7 := hide (HA6.out.mono (C' := C3) (fun k hk => hk1.block k (HB6.out.typ k hk).1) (fun _ x => x))
                 have hbb := HB1.out.blk
                 have hbg : w7.heap[b]? = _ := (hg2.block b (lt_of_block hbb) (fun e => (ownsRow_other HB1.out.row (r := b) (fun cur hx => HB1.out.out.2 cur _ (by decide) hx)) e.symm)).trans hbb
                 have n9 : w7.cell? ⟨b, 0, none⟩ = some (.slice (some ⟨g, 0, none⟩) (rest.length + 1) cap) := by rw [Lib.cell_of_heap hbg]; rfl
                 have n10 : w7.frozen? ⟨b, 0, none⟩ = false := Lib.frozen_of_heap hbg 0
                 have HO2 := hide ho2
                 have HG2 := hide hg2
                 clear ho2 hg2 hk1 hbb hbg))
            all_goals
              have hb8 := HB1.out.pushPart t.name t.attrs (.slice A t.attrs.length c) HA7.out HQT.out HO2.out HG2.out
              have HB8 := hide hb8
              clear hb8
              go_wp2_with fail
              go_end0
              refine ⟨rfl, C3, _, _, by rw [if_neg HN5.out]; exact HON.out _ _ _ _ _ HB8.out, ?_, ?_⟩
              · rw [if_neg HN5.out, ← HE2.out.1]
                show _ = (putP t (p.toL :: toLs rest) n).1
                rw [putP_cons, if_neg HCD.out, ← HP.out]
                simp [toLs, PartV.toL]
              · intro x hx
                rcases List.mem_cons.1 hx with rfl | hx
                · exact Nat.zero_le _
                · rcases List.mem_cons.1 hx with rfl | hx
                  · exact HTP.out
                  · exact HT2.out x (List.mem_cons_of_mem _ hx)
end Go.Proofs.YtgokefodmjhhiaaGreatDoor

/- PURE: what layer 13's laws say of a document taken apart: texts alone, a remark, forms. No statement is proved here. Own work of the verifier. -/
namespace Go.Proofs.YtgokefodmjhhiaaGreatDoor
set_option linter.unusedVariables false
set_option linter.unusedSimpArgs false
theorem isMark_off {c : UInt8} {r : List UInt8} (h : c ≠ 60) : isMarkB (c :: r) = false := by
  cases r with
  | nil =>
    unfold isMarkB
    split
    · rename_i heq; injection heq with h1 h2; cases h2
    · rfl
  | cons a b =>
    unfold isMarkB
    split
    · rename_i heq; injection heq with h1 h2; exact absurd h1 h
    · rfl
theorem markN_plain : ∀ (l : List UInt8), 60 ∉ l → markN l = l.length
  | [], _ => rfl
  | c :: r, h => by
    have hc : c ≠ 60 := fun e => h (by rw [e]; exact List.mem_cons_self ..)
    unfold markN
    rw [if_neg (by rw [isMark_off hc]; decide), markN_plain r (fun hm => h (List.mem_cons_of_mem _ hm))]; rfl
theorem scan_plain (dec : List UInt8 → List UInt8) (l : List UInt8) (h : 60 ∉ l) (hne : l ≠ []) : scanL dec [] [] l = flushT [] (dec l) := by
  cases l with
  | nil => exact absurd rfl hne
  | cons c r =>
    have hm := markN_plain _ h
    rw [scanL_text dec [] [] (by rw [hm]; simp), hm, List.take_length, List.drop_length, scanL_nil]; rfl
/-! ### a remark -/
theorem cutAt_here : ∀ (s R : List UInt8), 45 ∉ s → cutAt remEnd (s ++ 45 :: 45 :: 62 :: R) = (s, R)
  | [], R, _ => by
    show cutAt remEnd (45 :: 45 :: 62 :: R) = _
    unfold cutAt
    rw [if_pos (by simp [remEnd, List.isPrefixOf])]; rfl
  | c :: s, R, h => by
    have hc : c ≠ 45 := fun e => h (by rw [e]; exact List.mem_cons_self ..)
    have ih := cutAt_here s R (fun hm => h (List.mem_cons_of_mem _ hm))
    rw [List.cons_append]
    unfold cutAt
    rw [if_neg (by simp [remEnd, List.isPrefixOf]; intro e; exact absurd e.symm hc), ih]
theorem tag_b (dec : List UInt8 → List UInt8) (R : List UInt8) : tagL dec (98 :: 62 :: R) = some ([98], [], R) := by
  have h1 : upL nameEndB (98 :: 62 :: R) = ([98], 62 :: R) := by
    unfold upL
    rw [List.takeWhile_cons, if_pos (by decide), List.takeWhile_cons, if_neg (by decide), List.dropWhile_cons, if_pos (by decide), List.dropWhile_cons, if_neg (by decide)]
  unfold tagL
  rw [h1, attrsLL_end (r := R) (by rw [List.dropWhile_cons, if_neg (by decide)])]
  rfl
theorem scan_remark (dec : List UInt8 → List UInt8) (s : List UInt8) (h45 : 45 ∉ s) (h62 : 62 ∉ s) :
    scanL dec [] [] ([60, 98, 62, 60, 33, 45, 45] ++ s ++ [45, 45, 62, 60, 47, 98, 62]) = [startT [98] [], remT s, endT [98]] := by
  have e : [60, 98, 62, 60, 33, 45, 45] ++ s ++ [45, 45, 62, 60, 47, 98, 62] = 60 :: 98 :: 62 :: 60 :: 33 :: 45 :: 45 :: (s ++ 45 :: 45 :: 62 :: [60, 47, 98, 62]) := by simp
  rw [e]
  have m1 : markL dec (98 :: 62 :: 60 :: 33 :: 45 :: 45 :: (s ++ 45 :: 45 :: 62 :: [60, 47, 98, 62])) = (some (startT [98] []), [], 60 :: 33 :: 45 :: 45 :: (s ++ 45 :: 45 :: 62 :: [60, 47, 98, 62])) := by
    show startL dec (98 :: 62 :: _) = _
    unfold startL
    rw [tag_b]
    simp only
    rw [if_neg (by decide)]
  have hl : longL (s ++ 45 :: 45 :: 62 :: [60, 47, 98, 62]) = (some (remT s), [], [60, 47, 98, 62]) := by
    have hc := cutAt_here s [60, 47, 98, 62] h45
    unfold longL
    split
    · rename_i b hb
      cases s with
      | nil => injection hb with hb _; exact absurd hb (by decide)
      | cons c r => injection hb with hb _; exact absurd (by rw [hb]; exact List.mem_cons_self ..) h62
    · rename_i b hb
      cases s with
      | nil => injection hb with _ hb; injection hb with hb _; exact absurd hb (by decide)
      | cons c r => injection hb with hb _; exact absurd (by rw [hb]; exact List.mem_cons_self ..) h45
    · rw [hc]
  have m2 : markL dec (33 :: 45 :: 45 :: (s ++ 45 :: 45 :: 62 :: [60, 47, 98, 62])) = (some (remT s), [], [60, 47, 98, 62]) := hl
  have m3 : markL dec [47, 98, 62] = (some (endT [98]), [], []) := by
    rw [show markL dec [47, 98, 62] = endL dec [98, 62] from markL_end (by decide) [62]]
    unfold endL
    rw [tag_b]
  rw [scanL_mark dec [] [] (by simp [isMarkB]; decide), m1]
  show scanL dec [startT [98] []] [] _ = _
  rw [scanL_mark dec _ _ (by simp [isMarkB]), m2]
  show scanL dec [startT [98] [], remT s] [] _ = _
  rw [scanL_mark dec _ _ (by simp [isMarkB]), m3]
  show scanL dec [startT [98] [], remT s, endT [98]] [] [] = _
  rw [scanL_nil]; rfl
/-! ### forms -/
theorem lowC_two (c : UInt8) : lowC (lowC c) = lowC c := u8_all (p := fun c => lowC (lowC c) = lowC c) (by decide +kernel) c
theorem lowL_two (l : List UInt8) : lowL (lowL l) = lowL l := by
  unfold lowL
  rw [List.map_map]
  exact List.map_congr_left fun c _ => lowC_two c
/-- attributes in form: at most 30, each name once -/
def FormA (A : List AtL) : Prop := A.length ≤ 30 ∧ A.Pairwise (fun a b => a.1 ≠ b.1)
theorem formA_add {A : List AtL} {a : AtL} (h : FormA A) : FormA (if countsB A a.1 = true then A ++ [a] else A) := by
  split
  · rename_i hc
    unfold countsB at hc
    rw [Bool.and_eq_true, decide_eq_true_eq, Bool.not_eq_true', List.any_eq_false] at hc
    refine ⟨by rw [List.length_append]; simp; omega, ?_⟩
    rw [List.pairwise_append]
    refine ⟨h.2, List.pairwise_singleton _ _, fun x hx y hy => ?_⟩
    obtain rfl := List.mem_singleton.1 hy
    have := hc.2 x hx
    simpa using this
  · exact h
theorem tag_form {dec : List UInt8 → List UInt8} {l n b : List UInt8} {A : List AtL} (h : tagL dec l = some (n, A, b)) : FormA A ∧ lowL n = n := by
  unfold tagL at h
  cases ha : attrsLL dec [] (upL nameEndB l).2 with
  | none => rw [ha] at h; cases h
  | some p =>
    obtain ⟨B, x⟩ := p
    rw [ha] at h
    injection h with h
    injection h with h1 h
    injection h with h2 _
    obtain ⟨_, h3, _⟩ := attrsLL_ind dec (P := fun A _ => FormA A) (fun A l c r _ _ hA => formA_add hA) _ [] _ (Nat.le_refl _) ⟨by simp, List.Pairwise.nil⟩ B x ha
    rw [← h1, ← h2]
    exact ⟨h3, lowL_two _⟩
/-- a token in form -/
def FormT (t : TokL) : Prop := (t.kind = 1 → t.text ≠ []) ∧ lowL t.name = t.name ∧ t.attrs.length ≤ 30 ∧ (t.kind ≠ 2 → t.attrs = []) ∧ t.attrs.Pairwise (fun a b => a.1 ≠ b.1)
theorem form_chars {x : List UInt8} (h : x ≠ []) : FormT (charsT x) := ⟨fun _ => h, rfl, by simp [charsT], fun _ => rfl, List.Pairwise.nil⟩
theorem form_rem (x : List UInt8) : FormT (remT x) := ⟨fun e => absurd (show (4 : Nat) = 1 from e) (by decide), rfl, by simp [remT], fun _ => rfl, List.Pairwise.nil⟩
theorem form_end {n : List UInt8} (h : lowL n = n) : FormT (endT n) := ⟨fun e => absurd (show (3 : Nat) = 1 from e) (by decide), h, by simp [endT], fun _ => rfl, List.Pairwise.nil⟩
theorem form_start {n : List UInt8} {A : List AtL} (h : lowL n = n) (hA : FormA A) : FormT (startT n A) := ⟨fun e => absurd (show (2 : Nat) = 1 from e) (by decide), h, hA.1, fun e => absurd rfl e, hA.2⟩
/-- what a mark gives is in form, is no characters; what it takes away -/
theorem mark_form (dec : List UInt8 → List UInt8) (l : List UInt8) : (∀ t, (markL dec l).1 = some t → FormT t ∧ t.kind ≠ 1) ∧ ((markL dec l).1 = none → (markL dec l).2.1 = []) ∧ (markL dec l).2.1.length + (markL dec l).2.2.length ≤ l.length := by
  have hrem : ∀ k : List UInt8, (∀ t, (remL k).1 = some t → FormT t ∧ t.kind ≠ 1) ∧ ((remL k).1 = none → (remL k).2.1 = []) ∧ (remL k).2.1.length + (remL k).2.2.length ≤ k.length := fun k =>
    ⟨fun t ht => (by injection ht with ht; rw [← ht]; exact ⟨form_rem _, show (4 : Nat) ≠ 1 by decide⟩), fun h => (by cases h), by have := remL_len k; simpa [remL] using this⟩
  have hlong : ∀ k : List UInt8, (∀ t, (longL k).1 = some t → FormT t ∧ t.kind ≠ 1) ∧ ((longL k).1 = none → (longL k).2.1 = []) ∧ (longL k).2.1.length + (longL k).2.2.length ≤ k.length := fun k => by
    have h3 := longL_len k
    unfold longL at h3 ⊢
    split
    · exact ⟨fun t ht => (by injection ht with ht; rw [← ht]; exact ⟨form_rem _, show (4 : Nat) ≠ 1 by decide⟩), fun h => (by cases h), by simp⟩
    · exact ⟨fun t ht => (by injection ht with ht; rw [← ht]; exact ⟨form_rem _, show (4 : Nat) ≠ 1 by decide⟩), fun h => (by cases h), by simp; omega⟩
    · exact ⟨fun t ht => (by injection ht with ht; rw [← ht]; exact ⟨form_rem _, show (4 : Nat) ≠ 1 by decide⟩), fun h => (by cases h), by have := cutAt_len remEnd k; simpa using this⟩
  have hend : ∀ k : List UInt8, (∀ t, (endL dec k).1 = some t → FormT t ∧ t.kind ≠ 1) ∧ ((endL dec k).1 = none → (endL dec k).2.1 = []) ∧ (endL dec k).2.1.length + (endL dec k).2.2.length ≤ k.length := fun k => by
    have h3 := endL_len dec k
    unfold endL at h3 ⊢
    cases h : tagL dec k with
    | none => exact ⟨fun t ht => (by cases ht), fun _ => rfl, by simp⟩
    | some p =>
      obtain ⟨n, A, b⟩ := p
      rw [h] at h3
      exact ⟨fun t ht => (by injection ht with ht; rw [← ht]; exact ⟨form_end (tag_form h).2, show (3 : Nat) ≠ 1 by decide⟩), fun h => (by cases h), by simpa using h3⟩
  have hstart : ∀ k : List UInt8, (∀ t, (startL dec k).1 = some t → FormT t ∧ t.kind ≠ 1) ∧ ((startL dec k).1 = none → (startL dec k).2.1 = []) ∧ (startL dec k).2.1.length + (startL dec k).2.2.length ≤ k.length := fun k => by
    unfold startL
    cases h : tagL dec k with
    | none => exact ⟨fun t ht => (by cases ht), fun _ => rfl, by simp⟩
    | some p =>
      obtain ⟨n, A, b⟩ := p
      have h4 := tagL_len h
      obtain ⟨h5, h6⟩ := tag_form h
      simp only
      split
      · refine ⟨fun t ht => (by injection ht with ht; rw [← ht]; exact ⟨form_start h6 h5, show (2 : Nat) ≠ 1 by decide⟩), fun h => (by cases h), ?_⟩
        show (b.take _).length + (b.drop _).length ≤ _
        rw [← List.length_append, List.take_append_drop]; omega
      · refine ⟨fun t ht => (by injection ht with ht; rw [← ht]; exact ⟨form_start h6 h5, show (2 : Nat) ≠ 1 by decide⟩), fun h => (by cases h), ?_⟩
        show ([] : List UInt8).length + b.length ≤ _
        simp; omega
  unfold markL
  split
  · rename_i r
    split
    · exact ⟨fun t ht => (by cases ht), fun _ => rfl, by simp⟩
    · rename_i c q
      split
      · obtain ⟨a, b, d⟩ := hend (c :: q)
        exact ⟨a, b, by simp only [List.length_cons] at d ⊢; omega⟩
      · split
        · exact ⟨fun t ht => (by cases ht), fun _ => rfl, by simp; omega⟩
        · obtain ⟨a, b, d⟩ := hrem (c :: q)
          exact ⟨a, b, by simp only [List.length_cons] at d ⊢; omega⟩
  · rename_i r
    split
    · rename_i x
      obtain ⟨a, b, d⟩ := hlong x
      exact ⟨a, b, by simp only [List.length_cons] at d ⊢; omega⟩
    · obtain ⟨a, b, d⟩ := hrem r
      exact ⟨a, b, by simp only [List.length_cons] at d ⊢; omega⟩
  · rename_i r
    exact hrem (63 :: r)
  · exact hstart l
/-- tokens in form: no two of characters one behind the other -/
def FormsL (L : List TokL) : Prop := (∀ t ∈ L, FormT t) ∧ ∀ (i : Nat) (a b : TokL), L[i]? = some a → L[i + 1]? = some b → ¬ (a.kind = 1 ∧ b.kind = 1)
def EndsL (L : List TokL) : Prop := ∀ t, L.getLast? = some t → t.kind ≠ 1
theorem forms_snoc {L : List TokL} {t : TokL} (h : FormsL L) (ht : FormT t) (he : t.kind = 1 → EndsL L) : FormsL (L ++ [t]) := by
  refine ⟨fun x hx => ?_, fun i a b ha hb => ?_⟩
  · rcases List.mem_append.1 hx with hx | hx
    · exact h.1 x hx
    · obtain rfl := List.mem_singleton.1 hx
      exact ht
  · by_cases h1 : i + 1 < L.length
    · rw [List.getElem?_append_left h1] at hb
      rw [List.getElem?_append_left (by omega)] at ha
      exact h.2 i a b ha hb
    · have h2 : i + 1 = L.length := by
        have := (List.getElem?_eq_some_iff.1 hb).1
        simp at this; omega
      rw [h2, List.getElem?_append_right (Nat.le_refl _)] at hb
      simp at hb
      rw [List.getElem?_append_left (by omega)] at ha
      rintro ⟨k1, k2⟩
      rw [← hb] at k2
      have hl : L.getLast? = some a := by rw [List.getLast?_eq_getElem?, show L.length - 1 = i by omega]; exact ha
      exact he k2 a hl k1
theorem flush_forms {L : List TokL} {x : List UInt8} (h : FormsL L) (he : EndsL L) : FormsL (flushT L x) := by
  unfold flushT
  split
  · exact h
  · rename_i hx
    exact forms_snoc h (form_chars hx) (fun _ => he)
theorem ends_snoc {L : List TokL} {t : TokL} (h : t.kind ≠ 1) : EndsL (L ++ [t]) := by
  intro u hu
  rw [List.getLast?_append] at hu
  simp at hu
  rw [← hu]; exact h
def sz1 (x : List UInt8) : Nat := if x = [] then 0 else 1
theorem flush_len (L : List TokL) (x : List UInt8) : (flushT L x).length = L.length + sz1 x := by
  unfold flushT sz1
  split <;> simp
/-- a document taken apart is in form, and has at most as many tokens as bytes -/
theorem scan_forms (dec : List UInt8 → List UInt8) : ∀ (k : Nat) (l : List UInt8) (L : List TokL) (x : List UInt8), l.length ≤ k → FormsL L → EndsL L → FormsL (scanL dec L x l) ∧ (scanL dec L x l).length ≤ L.length + sz1 x + l.length := by
  intro k
  induction k with
  | zero =>
    intro l L x hl h he
    obtain rfl : l = [] := List.eq_nil_of_length_eq_zero (by omega)
    rw [scanL_nil]
    exact ⟨flush_forms h he, by rw [flush_len]; simp⟩
  | succ k ih =>
    intro l L x hl h he
    cases l with
    | nil =>
      rw [scanL_nil]
      exact ⟨flush_forms h he, by rw [flush_len]; simp⟩
    | cons c r =>
      by_cases hm : 0 < markN (c :: r)
      · rw [scanL_text dec L x hm]
        have h1 := markN_le (c :: r)
        have h2 : ((c :: r).drop (markN (c :: r))).length = (c :: r).length - markN (c :: r) := List.length_drop
        obtain ⟨a, b⟩ := ih ((c :: r).drop (markN (c :: r))) L (x ++ dec ((c :: r).take (markN (c :: r)))) (by rw [h2]; omega) h he
        refine ⟨a, ?_⟩
        have h3 : sz1 (x ++ dec ((c :: r).take (markN (c :: r)))) ≤ sz1 x + 1 := by unfold sz1; split <;> split <;> omega
        omega
      · have hmk : isMarkB (c :: r) = true := markN_zero (by omega)
        rw [scanL_mark dec L x hmk]
        obtain ⟨m1, m2, m3⟩ := mark_form dec r
        have hlen : (c :: r).length = r.length + 1 := rfl
        have hrk : (markL dec r).2.2.length ≤ k := by omega
        unfold addT
        cases ho : (markL dec r).1 with
        | none =>
          have e := m2 ho
          simp only
          rw [e, List.append_nil]
          obtain ⟨a, b⟩ := ih (markL dec r).2.2 L x hrk h he
          exact ⟨a, by omega⟩
        | some t =>
          obtain ⟨f1, f2⟩ := m1 t ho
          simp only
          obtain ⟨a, b⟩ := ih (markL dec r).2.2 (flushT L x ++ [t]) (markL dec r).2.1 hrk (forms_snoc (flush_forms h he) f1 (fun e => absurd e f2)) (ends_snoc f2)
          refine ⟨a, ?_⟩
          have h3 : sz1 (markL dec r).2.1 ≤ (markL dec r).2.1.length := by
            unfold sz1
            split
            · omega
            · rename_i hne
              exact List.length_pos_iff.2 hne
          rw [List.length_append, flush_len] at b
          simp only [List.length_cons, List.length_nil] at b
          omega
end Go.Proofs.YtgokefodmjhhiaaGreatDoor

/- PURE: no name of a token is longer than the document. No statement is proved here. Own work of the verifier. -/
namespace Go.Proofs.YtgokefodmjhhiaaGreatDoor
set_option linter.unusedVariables false
set_option linter.unusedSimpArgs false
theorem tag_name {dec : List UInt8 → List UInt8} {l n b : List UInt8} {A : List AtL} (h : tagL dec l = some (n, A, b)) : n.length ≤ l.length := by
  unfold tagL at h
  cases ha : attrsLL dec [] (upL nameEndB l).2 with
  | none => rw [ha] at h; cases h
  | some p =>
    obtain ⟨B, x⟩ := p
    rw [ha] at h
    injection h with h
    injection h with h1 _
    rw [← h1]
    unfold lowL
    rw [List.length_map]
    have := upL_len nameEndB l
    omega
theorem start_name (dec : List UInt8 → List UInt8) (l : List UInt8) (t : TokL) (h : (startL dec l).1 = some t) : t.name.length ≤ l.length := by
  unfold startL at h
  cases ht : tagL dec l with
  | none => rw [ht] at h; cases h
  | some p =>
    obtain ⟨n, A, b⟩ := p
    rw [ht] at h
    simp only at h
    have := tag_name ht
    split at h
    · injection h with h; rw [← h]; exact this
    · injection h with h; rw [← h]; exact this
theorem end_name (dec : List UInt8 → List UInt8) (l : List UInt8) (t : TokL) (h : (endL dec l).1 = some t) : t.name.length ≤ l.length := by
  unfold endL at h
  cases ht : tagL dec l with
  | none => rw [ht] at h; cases h
  | some p =>
    obtain ⟨n, A, b⟩ := p
    rw [ht] at h
    injection h with h
    rw [← h]; exact tag_name ht
theorem rem_name (l : List UInt8) (t : TokL) (h : (remL l).1 = some t) : t.name = [] := by
  injection h with h
  rw [← h]; rfl
theorem long_name (l : List UInt8) (t : TokL) (h : (longL l).1 = some t) : t.name = [] := by
  unfold longL at h
  split at h <;> (injection h with h; rw [← h]; rfl)
theorem mark_name (dec : List UInt8 → List UInt8) (l : List UInt8) (t : TokL) (h : (markL dec l).1 = some t) : t.name.length ≤ l.length := by
  unfold markL at h
  split at h
  · rename_i r
    split at h
    · cases h
    · rename_i c q
      split at h
      · have := end_name dec _ t h
        simp only [List.length_cons] at this ⊢; omega
      · split at h
        · cases h
        · rw [rem_name _ t h]; exact Nat.zero_le _
  · rename_i r
    split at h
    · rw [long_name _ t h]; exact Nat.zero_le _
    · rw [rem_name _ t h]; exact Nat.zero_le _
  · rw [rem_name _ t h]; exact Nat.zero_le _
  · exact start_name dec _ t h
theorem flush_names {N : Nat} {L : List TokL} (h : ∀ t ∈ L, t.name.length ≤ N) (x : List UInt8) : ∀ t ∈ flushT L x, t.name.length ≤ N := by
  unfold flushT
  split
  · exact h
  · intro t ht
    rcases List.mem_append.1 ht with ht | ht
    · exact h t ht
    · obtain rfl := List.mem_singleton.1 ht
      exact Nat.zero_le _
theorem scan_names (dec : List UInt8 → List UInt8) (N : Nat) : ∀ (k : Nat) (l : List UInt8) (L : List TokL) (x : List UInt8), l.length ≤ k → l.length ≤ N → (∀ t ∈ L, t.name.length ≤ N) → ∀ t ∈ scanL dec L x l, t.name.length ≤ N := by
  intro k
  induction k with
  | zero =>
    intro l L x hl _ h
    obtain rfl : l = [] := List.eq_nil_of_length_eq_zero (by omega)
    rw [scanL_nil]
    exact flush_names h x
  | succ k ih =>
    intro l L x hl hN h
    cases l with
    | nil => rw [scanL_nil]; exact flush_names h x
    | cons c r =>
      by_cases hm : 0 < markN (c :: r)
      · rw [scanL_text dec L x hm]
        have h2 : ((c :: r).drop (markN (c :: r))).length = (c :: r).length - markN (c :: r) := List.length_drop
        exact ih _ L _ (by rw [h2]; omega) (by rw [h2]; omega) h
      · have hmk : isMarkB (c :: r) = true := markN_zero (by omega)
        rw [scanL_mark dec L x hmk]
        have hlen : (c :: r).length = r.length + 1 := rfl
        have hml := markL_len dec r
        refine ih _ _ _ (by omega) (by omega) ?_
        unfold addT
        cases ho : (markL dec r).1 with
        | none => exact h
        | some u =>
          intro t ht
          simp only at ht
          rcases List.mem_append.1 ht with ht | ht
          · exact flush_names h x t ht
          · obtain rfl := List.mem_singleton.1 ht
            have := mark_name dec r t ho
            omega
end Go.Proofs.YtgokefodmjhhiaaGreatDoor

/- PURE: tokens written, and read to the same, by any way of writing signs that is read back. No statement is proved here. Own work of the verifier. -/
namespace Go.Proofs.YtgokefodmjhhiaaGreatDoor
set_option linter.unusedVariables false
set_option linter.unusedSimpArgs false
theorem tw_of {p : UInt8 → Bool} {m b : List UInt8} {c : UInt8} (h : ∀ x ∈ m, p x = true) (hc : p c = false) : (m ++ c :: b).takeWhile p = m ∧ (m ++ c :: b).dropWhile p = c :: b := by
  induction m with
  | nil => simp [hc]
  | cons a r ih =>
    have ha := h a (List.mem_cons_self ..)
    have := ih (fun x hx => h x (List.mem_cons_of_mem _ hx))
    simp [ha, this.1, this.2]
def attrW (escV : List UInt8 → List UInt8) (a : AtL) : List UInt8 := 32 :: (a.1 ++ 61 :: 34 :: (escV a.2 ++ [34]))
def attrsW (escV : List UInt8 → List UInt8) (A : List AtL) : List UInt8 := A.flatMap (attrW escV)
def tokW (escT escV : List UInt8 → List UInt8) (t : TokL) : List UInt8 :=
  if t.kind = 1 then escT t.text else if t.kind = 2 then 60 :: (t.name ++ (attrsW escV t.attrs ++ [62])) else if t.kind = 3 then 60 :: 47 :: (t.name ++ [62]) else []
def writeTs (escT escV : List UInt8 → List UInt8) (L : List TokL) : List UInt8 := L.flatMap (tokW escT escV)
/-- a name of letters and digits, that begins with a letter -/
def nameOK (N : List UInt8) : Prop := ∃ c r, N = c :: r ∧ letterB c = true ∧ ∀ x ∈ c :: r, (letterB x || digitB x) = true
theorem alnum_ends (c : UInt8) (h : (letterB c || digitB c) = true) : attrEndB c = false ∧ whs c = false ∧ c ≠ 62 ∧ c ≠ 47 ∧ c ≠ 33 ∧ c ≠ 63 ∧ nameEndB c = false :=
  u8_all (p := fun c => (letterB c || digitB c) = true → (attrEndB c = false ∧ whs c = false ∧ c ≠ 62 ∧ c ≠ 47 ∧ c ≠ 33 ∧ c ≠ 63 ∧ nameEndB c = false)) (by decide +kernel) c h
theorem name_up {N R : List UInt8} {c : UInt8} (h : nameOK N) (hc : nameEndB c = true) : upL nameEndB (N ++ c :: R) = (N, c :: R) := by
  obtain ⟨a, r, rfl, _, h2⟩ := h
  obtain ⟨e1, e2⟩ := tw_of (p := fun c => !nameEndB c) (m := a :: r) (b := R) (c := c) (fun x hx => by simp [(alnum_ends x (h2 x hx)).2.2.2.2.2.2]) (by simp [hc])
  unfold upL
  rw [e1, e2]
/-- what is asked of the ways of writing and reading -/
structure EscOK (dec escT escV : List UInt8 → List UInt8) : Prop where
  t60 : ∀ x, 60 ∉ escT x
  tdec : ∀ x, dec (escT x) = x
  tne : ∀ x, x ≠ [] → escT x ≠ []
  v34 : ∀ x, 34 ∉ escV x
  vdec : ∀ x, dec (escV x) = x
theorem attr_back {dec escT escV : List UInt8 → List UInt8} (E : EscOK dec escT escV) {a : AtL} (h : nameOK a.1) (hl : lowL a.1 = a.1) (R : List UInt8) :
    ∃ c r, (attrW escV a ++ R).dropWhile whs = c :: r ∧ c ≠ 62 ∧ attrL dec (c :: r) = (a, R) := by
  obtain ⟨n, v⟩ := a
  obtain ⟨c, r, hn, h1, h2⟩ := h
  have hn : n = c :: r := hn
  subst hn
  have hc := alnum_ends c (h2 c (List.mem_cons_self ..))
  refine ⟨c, r ++ 61 :: 34 :: (escV v ++ 34 :: R), ?_, hc.2.2.1, ?_⟩
  · unfold attrW
    rw [show (32 :: ((c :: r, v).1 ++ 61 :: 34 :: (escV (c :: r, v).2 ++ [34])) ++ R : List UInt8) = 32 :: c :: (r ++ 61 :: 34 :: (escV v ++ 34 :: R)) by simp]
    rw [List.dropWhile_cons, if_pos (by decide), List.dropWhile_cons, if_neg (by rw [hc.2.1]; decide)]
  · obtain ⟨e1, e2⟩ := tw_of (p := fun c => !attrEndB c) (m := r) (b := 34 :: (escV v ++ 34 :: R)) (c := 61) (fun x hx => by simp [(alnum_ends x (h2 x (List.mem_cons_of_mem _ hx))).1]) (by decide)
    obtain ⟨e3, e4⟩ := tw_of (p := fun x => x != 34) (m := escV v) (b := R) (c := 34) (fun x hx => by
      have : x ≠ 34 := fun e => E.v34 v (by rw [← e]; exact hx)
      simpa using this) (by decide)
    have hu : upL attrEndB (r ++ 61 :: 34 :: (escV v ++ 34 :: R)) = (r, 61 :: 34 :: (escV v ++ 34 :: R)) := by unfold upL; rw [e1, e2]
    have hv : valueL (34 :: (escV v ++ 34 :: R)) = (escV v, R) := by
      unfold valueL
      simp only
      rw [if_pos trivial]
      unfold beforeC afterC
      rw [e3, e4]; rfl
    rw [attrL_val (b := 34 :: (escV v ++ 34 :: R)) (by rw [hu]; show (61 :: _ : List UInt8).dropWhile whB = _; rw [List.dropWhile_cons, if_neg (by decide)]), hu]
    rw [show (34 :: (escV v ++ 34 :: R) : List UInt8).dropWhile whB = 34 :: (escV v ++ 34 :: R) by rw [List.dropWhile_cons, if_neg (by decide)], hv]
    simp only
    rw [E.vdec]
    rw [show lowL (c :: r) = c :: r from hl]
theorem attrs_back {dec escT escV : List UInt8 → List UInt8} (E : EscOK dec escT escV) (R : List UInt8) : ∀ (Bs A : List AtL), (∀ a ∈ Bs, nameOK a.1 ∧ lowL a.1 = a.1) → (A ++ Bs).Pairwise (fun a b => a.1 ≠ b.1) → (A ++ Bs).length ≤ 30 →
    attrsLL dec A (attrsW escV Bs ++ 62 :: R) = some (A ++ Bs, R)
  | [], A, _, _, _ => by
    rw [attrsLL_end (r := R) (by show (62 :: R).dropWhile whs = _; rw [List.dropWhile_cons, if_neg (by decide)]), List.append_nil]
  | a :: Bs, A, h1, h2, h3 => by
    obtain ⟨g1, g2⟩ := h1 a (List.mem_cons_self ..)
    have e : attrsW escV (a :: Bs) ++ 62 :: R = attrW escV a ++ (attrsW escV Bs ++ 62 :: R) := by unfold attrsW; rw [List.flatMap_cons, List.append_assoc]
    obtain ⟨c, r, e1, e2, e3⟩ := attr_back E g1 g2 (attrsW escV Bs ++ 62 :: R)
    rw [e, attrsLL_go e1 e2, e3]
    have hcnt : countsB A a.1 = true := by
      unfold countsB
      rw [Bool.and_eq_true, decide_eq_true_eq, Bool.not_eq_true', List.any_eq_false]
      refine ⟨by rw [List.length_append] at h3; simp at h3; omega, fun x hx => ?_⟩
      have := (List.pairwise_append.1 h2).2.2 x hx a (List.mem_cons_self ..)
      simpa using this
    simp only
    rw [if_pos hcnt]
    have ea : A ++ a :: Bs = (A ++ [a]) ++ Bs := by simp
    rw [ea] at h2 h3 ⊢
    exact attrs_back E R Bs (A ++ [a]) (fun x hx => h1 x (List.mem_cons_of_mem _ hx)) h2 h3
theorem tag_back {dec escT escV : List UInt8 → List UInt8} (E : EscOK dec escT escV) {N R : List UInt8} {A : List AtL} (hN : nameOK N) (h1 : ∀ a ∈ A, nameOK a.1 ∧ lowL a.1 = a.1) (h2 : A.Pairwise (fun a b => a.1 ≠ b.1)) (h3 : A.length ≤ 30) :
    tagL dec (N ++ (attrsW escV A ++ 62 :: R)) = some (lowL N, A, R) := by
  have hu : upL nameEndB (N ++ (attrsW escV A ++ 62 :: R)) = (N, attrsW escV A ++ 62 :: R) := by
    cases A with
    | nil => exact name_up hN (by decide)
    | cons a B => exact name_up hN (by decide)
  unfold tagL
  rw [hu]
  simp only
  rw [attrs_back E R A [] h1 (by simpa using h2) (by simpa using h3)]
  rfl
/-- tokens that may be written and read; the second has the names as they are read -/
def ReadT (u t : TokL) : Prop := u.kind = t.kind ∧ u.attrs = t.attrs ∧ u.text = t.text ∧
  ((t.kind = 1 ∧ t.name = [] ∧ t.attrs = [] ∧ t.text ≠ []) ∨
   (t.kind = 3 ∧ nameOK u.name ∧ lowL u.name = t.name ∧ t.attrs = [] ∧ t.text = []) ∨
   (t.kind = 2 ∧ nameOK u.name ∧ lowL u.name = t.name ∧ t.text = [] ∧ (∀ a ∈ t.attrs, nameOK a.1 ∧ lowL a.1 = a.1) ∧ t.attrs.Pairwise (fun a b => a.1 ≠ b.1) ∧ t.attrs.length ≤ 30 ∧ rawL.contains t.name = false))
/-- row by row -/
inductive TokR : List TokL → List TokL → Prop
  | nil : TokR [] []
  | cons {u t : TokL} {U L : List TokL} : ReadT u t → TokR U L → TokR (u :: U) (t :: L)
theorem markN_upto {R : List UInt8} (hR : R = [] ∨ isMarkB R = true) : ∀ a : List UInt8, 60 ∉ a → markN (a ++ R) = a.length
  | [], _ => by
    cases R with
    | nil => rfl
    | cons c r =>
      show markN (c :: r) = 0
      unfold markN
      rcases hR with h | h
      · cases h
      · rw [if_pos h]
  | c :: a, h => by
    have hc : c ≠ 60 := fun e => h (by rw [e]; exact List.mem_cons_self ..)
    have hm : isMarkB (c :: (a ++ R)) = false := by
      unfold isMarkB
      split
      · rename_i heq; injection heq with h1 h2; exact absurd h1 hc
      · rfl
    rw [List.cons_append]
    unfold markN
    rw [if_neg (by rw [hm]; decide), markN_upto hR a (fun hm => h (List.mem_cons_of_mem _ hm))]; rfl
theorem mark_start {c : UInt8} (h : letterB c = true) (r : List UInt8) : isMarkB (60 :: c :: r) = true := by
  have := alnum_ends c (by rw [h]; rfl)
  unfold isMarkB
  simp only
  rw [if_neg (fun e => e.elim this.2.2.2.2.1 this.2.2.2.2.2.1), if_neg this.2.2.2.1]
  exact h
theorem markL_start {dec : List UInt8 → List UInt8} {c : UInt8} (h : letterB c = true) (r : List UInt8) : markL dec (c :: r) = startL dec (c :: r) := by
  have := alnum_ends c (by rw [h]; rfl)
  unfold markL
  split
  · rename_i q heq; injection heq with h1 h2; exact absurd h1 this.2.2.2.1
  · rename_i q heq; injection heq with h1 h2; exact absurd h1 this.2.2.2.2.1
  · rename_i q heq; injection heq with h1 h2; exact absurd h1 this.2.2.2.2.2.1
  · rfl
/-- what is written begins with a mark, but for characters -/
theorem write_mark {escT escV : List UInt8 → List UInt8} {u t : TokL} (h : ReadT u t) (hk : t.kind ≠ 1) (R : List UInt8) : isMarkB (tokW escT escV u ++ R) = true := by
  obtain ⟨k, _, _, h⟩ := h
  unfold tokW
  rw [k, if_neg hk]
  rcases h with h | h | h
  · exact absurd h.1 hk
  · rw [if_neg (by rw [h.1]; decide), if_pos h.1]
    simp [isMarkB]
  · rw [if_pos h.1]
    obtain ⟨c, r, e, hc, _⟩ := h.2.1
    rw [e]
    exact mark_start hc _
theorem tok_eta {t : TokL} {k : Nat} {n : List UInt8} {A : List AtL} {x : List UInt8} (h1 : t.kind = k) (h2 : t.name = n) (h3 : t.attrs = A) (h4 : t.text = x) : t = ⟨k, n, A, x⟩ := by
  obtain ⟨a, b, c, d⟩ := t
  simp only at h1 h2 h3 h4
  subst h1 h2 h3 h4; rfl
/-- tokens that are written are read to the same -/
theorem scan_write {dec escT escV : List UInt8 → List UInt8} (E : EscOK dec escT escV) : ∀ (U L : List TokL), TokR U L → (∀ (i : Nat) (a b : TokL), L[i]? = some a → L[i + 1]? = some b → ¬ (a.kind = 1 ∧ b.kind = 1)) →
    ∀ (O : List TokL) (x : List UInt8), (x = [] ∨ ∀ t, L.head? = some t → t.kind ≠ 1) → scanL dec O x (writeTs escT escV U) = flushT O x ++ L
  | [], [], _, _, O, x, _ => by
    show scanL dec O x [] = _
    rw [scanL_nil, List.append_nil]
  | u :: U, t :: L, hR, hadj, O, x, hx => by
    obtain ⟨hut, hR2⟩ : ReadT u t ∧ TokR U L := by cases hR with | cons a b => exact ⟨a, b⟩
    have hadj2 : ∀ (i : Nat) (a b : TokL), L[i]? = some a → L[i + 1]? = some b → ¬ (a.kind = 1 ∧ b.kind = 1) := fun i a b ha hb => hadj (i + 1) a b (by simpa using ha) (by simpa using hb)
    have ih := scan_write E U L hR2 hadj2
    have e : writeTs escT escV (u :: U) = tokW escT escV u ++ writeTs escT escV U := by unfold writeTs; rw [List.flatMap_cons]
    have hread := hut
    obtain ⟨k, ka, kt, h⟩ := hut
    rw [e]
    rcases h with ⟨h1, h2, h3, h4⟩ | ⟨h1, h2, h3, h4, h5⟩ | ⟨h1, h2, h3, h4, h5, h6, h7, h8⟩
    · have hx0 : x = [] := hx.resolve_right (fun hh => hh t rfl h1)
      subst hx0
      have ew : tokW escT escV u = escT t.text := by unfold tokW; rw [k, if_pos h1, kt]
      have hnx : ∀ q, L.head? = some q → q.kind ≠ 1 := fun q hq hk => by
        cases L with
        | nil => cases hq
        | cons p L => injection hq with hq; subst hq; exact hadj 0 t p rfl rfl ⟨h1, hk⟩
      have hRm : writeTs escT escV U = [] ∨ isMarkB (writeTs escT escV U) = true := by
        cases hR2 with
        | nil => exact .inl rfl
        | cons hab _ =>
          refine .inr ?_
          unfold writeTs
          rw [List.flatMap_cons]
          exact write_mark hab (hnx _ rfl) _
      rw [ew]
      have hm := markN_upto hRm (escT t.text) (E.t60 _)
      have hne := E.tne _ h4
      obtain ⟨c, r, hcr⟩ : ∃ c r, escT t.text ++ writeTs escT escV U = c :: r := by
        cases hq : escT t.text with
        | nil => exact absurd hq hne
        | cons c r => exact ⟨c, r ++ writeTs escT escV U, rfl⟩
      rw [hcr] at hm ⊢
      rw [scanL_text dec O [] (by rw [hm]; exact List.length_pos_iff.2 hne), hm, ← hcr, List.take_left, List.drop_left, E.tdec, List.nil_append, ih O t.text (.inr hnx)]
      unfold flushT
      rw [if_neg h4, if_pos rfl, List.append_assoc]
      rw [show t = charsT t.text from tok_eta h1 h2 h3 rfl]; rfl
    · have h2' := h2
      obtain ⟨c, r, hN, hc, _⟩ := h2
      have ew : tokW escT escV u ++ writeTs escT escV U = 60 :: 47 :: (u.name ++ (attrsW escV [] ++ 62 :: writeTs escT escV U)) := by
        unfold tokW
        rw [k, if_neg (by rw [h1]; decide), if_neg (by rw [h1]; decide), if_pos h1]; simp [attrsW]
      have hm : markL dec (47 :: (u.name ++ (attrsW escV [] ++ 62 :: writeTs escT escV U))) = (some (endT t.name), [], writeTs escT escV U) := by
        have ht := tag_back E (R := writeTs escT escV U) h2' (A := []) (fun a ha => by cases ha) List.Pairwise.nil (by decide)
        rw [hN] at ht ⊢
        rw [List.cons_append, markL_end hc, ← List.cons_append]
        unfold endL
        rw [ht]
        simp only
        rw [← hN, h3]
      rw [ew, scanL_mark dec O x (by rw [hN]; simp [isMarkB]), hm]
      unfold addT
      simp only
      rw [ih _ [] (.inl rfl)]
      unfold flushT
      rw [if_pos rfl, List.append_assoc]
      rw [show t = endT t.name from tok_eta h1 rfl h4 h5]; rfl
    · have h2' := h2
      obtain ⟨c, r, hN, hc, _⟩ := h2
      have ew : tokW escT escV u ++ writeTs escT escV U = 60 :: (u.name ++ (attrsW escV t.attrs ++ 62 :: writeTs escT escV U)) := by
        unfold tokW
        rw [k, if_neg (by rw [h1]; decide), if_pos h1, ka]; simp
      have hm : markL dec (u.name ++ (attrsW escV t.attrs ++ 62 :: writeTs escT escV U)) = (some (startT t.name t.attrs), [], writeTs escT escV U) := by
        have ht := tag_back E (R := writeTs escT escV U) h2' h5 h6 h7
        rw [hN] at ht ⊢
        rw [List.cons_append, markL_start hc, ← List.cons_append]
        unfold startL
        rw [ht]
        simp only
        rw [← hN, h3, if_neg (by rw [h8]; decide)]
      rw [ew, hN, List.cons_append, scanL_mark dec O x (mark_start hc _), ← List.cons_append, ← hN, hm]
      unfold addT
      simp only
      rw [ih _ [] (.inl rfl)]
      unfold flushT
      rw [if_pos rfl, List.append_assoc]
      rw [show t = startT t.name t.attrs from tok_eta h1 rfl rfl h4]; rfl
end Go.Proofs.YtgokefodmjhhiaaGreatDoor

/- Small facts: empty texts, a byte made small. No statement is proved here. Own work of the verifier. -/
namespace Go.Proofs.YtgokefodmjhhiaaGreatDoor
open Go.RowKit
set_option linter.unusedVariables false
theorem size0 {t : ByteArray} (h : t.size = 0) : t.data.toList = [] ∧ t.toList.isEmpty = true := by
  have e : t.data.toList = [] := List.eq_nil_of_length_eq_zero (by rw [toList_length]; exact h)
  exact ⟨e, by rw [bytes_list, e]; rfl⟩
theorem sizeP {t : ByteArray} (h : ¬ t.size = 0) : t.data.toList ≠ [] ∧ t.toList.isEmpty = false := by
  have hne : t.data.toList ≠ [] := fun e => by have := toList_length t; rw [e] at this; simp at this; omega
  refine ⟨hne, ?_⟩
  rw [bytes_list]
  cases h : t.data.toList with
  | nil => exact absurd h hne
  | cons _ _ => rfl
theorem or32 (c : UInt8) : bits .or .u8 (c.toNat : Int) 32 = ((c ||| 32).toNat : Int) := u8_all (p := fun c => bits .or .u8 (c.toNat : Int) 32 = ((c ||| 32).toNat : Int)) (by decide +kernel) c
end Go.Proofs.YtgokefodmjhhiaaGreatDoor

/- WALKS of ParseUint at bases 10 and 16. No statement is proved here. -/
namespace Go.Proofs.YtgokefodmjhhiaaGreatDoor
open Go.RowKit
set_option linter.unusedVariables false
set_option linter.unusedSimpArgs false
set_option maxRecDepth 100000
/-- a letter's or a digit's number -/
def dgV (c : UInt8) : Nat := if 48 ≤ c.toNat ∧ c.toNat ≤ 57 then c.toNat - 48 else if 97 ≤ (c ||| 32).toNat ∧ (c ||| 32).toNat ≤ 122 then (c ||| 32).toNat - 87 else 255
def digB (b : Nat) (c : UInt8) : Option Nat := if dgV c < b then some (dgV c) else none
/-- the number that digits tell, n behind -/
def parseB (b : Nat) : Nat → List UInt8 → Option Nat
  | n, [] => some n
  | n, c :: r => match digB b c with
    | none => none
    | some d => parseB b (n * b + d) r
def uTup : Option Nat → Value
  | some n => .tuple #[.int .u64 n, .nilIface]
  | none => .tuple #[.int .u64 0, .iface 205 (.int .i64 2)]
theorem par_step {b n d k : Nat} (h : n + 1 ≤ b ^ k) (hd : d < b) : n * b + d + 1 ≤ b ^ (k + 1) := by
  have h1 : (n + 1) * b ≤ b ^ k * b := Nat.mul_le_mul_right b h
  rw [Nat.pow_succ]
  rw [Nat.succ_mul] at h1
  omega

set_option maxHeartbeats 4000000 in
theorem iparse10_any (s : ByteArray) (w : World) (hs : s.size ≤ 8) (h0 : s.size ≠ 0) :
    Calls Tryz.prog 170 #[.string s, .int .i64 10, .int .i64 32] w fun e w' => e = .returned (uTup (parseB 10 0 s.data.toList)) ∧ Below w.heap.size w w' := by
  have hemp : s.toList.isEmpty = false := (sizeP h0).2
  go_enter Tryz.func170, Tryz.ntmps170
  go_wp2_with (refine wpList_bytes rfl _ rfl s rfl ?_; intro cap w0 ha0; have HA0 := hide ha0; clear ha0)
  go_loopw [12, 13, 101] (fun un nv i wr => ∃ k n : Nat, un = .bool false ∧ k ≤ s.size ∧ i = .int .i64 k ∧ nv = .int .u64 n ∧ Hid (n + 1 ≤ 10 ^ k) ∧ Hid (parseB 10 n (s.data.toList.drop k) = parseB 10 0 s.data.toList) ∧ Hid (wr = w0)) (fun _ _ i _ => s.size - (intOf i).toNat)
  case atStart => exact ⟨0, 0, rfl, Nat.zero_le _, rfl, rfl, hide (Nat.le_refl _), hide rfl, hide rfl⟩
  case round =>
    obtain ⟨k, n, rfl, hk, rfl, rfl, HP, HG, HW⟩ := hrel
    obtain rfl := HW.out
    by_cases hlt : k < s.size
    · have hst := HG.out
      rw [drop_cons s k hlt, parseB] at hst
      have c1 : wr.cell? ⟨w.heap.size, k, none⟩ = some (.int .u8 s[k].toNat) := HA0.out.cell k (by rw [toList_length]; exact hlt)
      by_cases g1 : 48 ≤ s[k].toNat ∧ s[k].toNat ≤ 57
      · obtain ⟨d, hd⟩ : ∃ d, s[k].toNat = 48 + d := ⟨s[k].toNat - 48, by omega⟩
        have t1 : decide ((48 : Int) ≤ s[k].toNat) = true := decide_eq_true (by omega)
        have t2 : decide ((s[k].toNat : Int) ≤ 57) = true := decide_eq_true (by omega)
        have t3 : ((s[k].toNat : Int) == 95) = false := beq_eq_false_iff_ne.2 (by omega)
        have wd : IntKind.u8.wrap ((s[k].toNat : Int) - 48) = (d : Int) := by rw [hd]; rw [show ((48 + d : Nat) : Int) - 48 = d by omega]; exact IntWalk.u8_in _ (by omega)
        have hdl : d < 10 := by omega
        have hdb : digB 10 s[k] = some d := by unfold digB dgV; rw [if_pos g1]; rw [if_pos (by omega)]; exact congrArg some (by omega)
        rw [hdb] at hst
        have HN : Hid (parseB 10 (n * 10 + d) (s.data.toList.drop (k + 1)) = parseB 10 0 s.data.toList) := hide hst
        have HB1 : Hid (n * 10 + d + 1 ≤ 10 ^ (k + 1)) := hide (par_step HP.out hdl)
        have hb2 : n * 10 + d + 1 ≤ 4294967296 := Nat.le_trans HB1.out (Nat.le_trans (Nat.pow_le_pow_right (by decide) (by omega : k + 1 ≤ 8)) (by decide))
        have x0 : IntKind.u64.wrap (d : Int) = (d : Int) := IntWalk.u64_in _ (by omega)
        have x1 : IntKind.u64.wrap ((n : Int) * 10) = (n : Int) * 10 := IntWalk.u64_in _ (by omega)
        have x2 : IntKind.u64.wrap ((n : Int) * 10 + (d : Int)) = (n : Int) * 10 + d := IntWalk.u64_in _ (by omega)
        have x3 : decide ((n : Int) * 10 + (d : Int) < (n : Int) * 10) = false := decide_eq_false (by omega)
        have x4 : decide ((4294967295 : Int) < (n : Int) * 10 + (d : Int)) = false := decide_eq_false (by omega)
        have x5 : decide ((10 : Int) ≤ (d : Int)) = false := decide_eq_false (by omega)
        have x6 : decide ((1844674407370955162 : Int) ≤ (n : Int)) = false := decide_eq_false (by omega)
        clear hst hdb hdl hb2
        clear hd g1
        go_wp2_with fail
        go_roundw
        case rel => exact ⟨k + 1, n * 10 + d, rfl, by omega, by go_num, by first | rfl | simp, HB1, HN, by first | exact trivial | exact hide rfl⟩
        case measure => simp [intOf]; omega
      · have t1 : (decide ((48 : Int) ≤ s[k].toNat) && decide ((s[k].toNat : Int) ≤ 57)) = false := by
          cases q1 : decide ((48 : Int) ≤ s[k].toNat) with
          | false => rfl
          | true =>
            have := of_decide_eq_true q1
            rw [Bool.true_and]; exact decide_eq_false (by omega)
        obtain ⟨L, hL⟩ : ∃ L, (s[k] ||| 32).toNat = L := ⟨_, rfl⟩
        have ho : bits .or .u8 (s[k].toNat : Int) 32 = (L : Int) := by rw [or32, hL]
        have HC := hide (fun w1 => Tryz.internal_strconv_lower (s[k].toNat : Int) w1)
        rw [ho] at HC
        have t3 : (decide ((s[k].toNat : Int) = 95)) = decide (s[k].toNat = 95) := by congr 1; exact propext (by omega)
        have hdv : dgV s[k] = if 97 ≤ L ∧ L ≤ 122 then L - 87 else 255 := by unfold dgV; rw [if_neg g1, hL]
        have hLl : L < 256 := by rw [← hL]; exact byte_lt _
        by_cases q1 : (48 : Int) ≤ s[k].toNat
        · have q1' : decide ((48 : Int) ≤ s[k].toNat) = true := decide_eq_true q1
          have q2' : decide ((s[k].toNat : Int) ≤ 57) = false := decide_eq_false (by omega)
          clear t1 t3
          by_cases u : s[k].toNat = 95
          · have u' : ((s[k].toNat : Int) == 95) = true := by rw [beq_iff_eq]; omega
            have hL95 : L = 127 := by rw [← hL, show s[k] = 95 from UInt8.toNat_inj.1 u]; rfl
            have hv : dgV s[k] = 255 := by rw [hdv, if_neg (by omega)]
            have hbad : digB 10 s[k] = none := by unfold digB; rw [hv]; rfl
            rw [hbad] at hst
            have HR : Hid (parseB 10 0 s.data.toList = none) := hide hst.symm
            have l1 : decide ((97 : Int) ≤ L) = true := decide_eq_true (by omega)
            have l2 : decide ((L : Int) ≤ 122) = false := decide_eq_false (by omega)
            clear hst hbad hv hdv hL ho u g1 q1
            go_wp2_with (go_at_call 195; refine (HC.out _).mono ?_; rintro e w1 ⟨rfl, hw1⟩; obtain rfl := hw1.symm)
            go_ret2
            exact ⟨by rw [HR.out]; rfl, HA0.out.below⟩
          have u' : ((s[k].toNat : Int) == 95) = false := beq_eq_false_iff_ne.2 (by omega)
          by_cases l1 : 97 ≤ L
          · have l1' : decide ((97 : Int) ≤ L) = true := decide_eq_true (by omega)
            by_cases l2 : L ≤ 122
            · have l2' : decide ((L : Int) ≤ 122) = true := decide_eq_true (by omega)
              rw [if_pos ⟨l1, l2⟩] at hdv
              obtain ⟨d, hd⟩ : ∃ d, L = 87 + d := ⟨L - 87, by omega⟩
              have y1 : IntKind.u8.wrap ((L : Int) - 97) = ((d - 10 : Nat) : Int) := by rw [show (L : Int) - 97 = ((d - 10 : Nat) : Int) by omega]; exact IntWalk.u8_in _ (by omega)
              have y2 : IntKind.u8.wrap (((d - 10 : Nat) : Int) + 10) = (d : Int) := by rw [show ((d - 10 : Nat) : Int) + 10 = (d : Int) by omega]; exact IntWalk.u8_in _ (by omega)
              by_cases hdl : d < 10
              · clear q1
                have hdb : digB 10 s[k] = some d := by unfold digB; rw [hdv, if_pos (by omega)]; exact congrArg some (by omega)
                rw [hdb] at hst
                have HN : Hid (parseB 10 (n * 10 + d) (s.data.toList.drop (k + 1)) = parseB 10 0 s.data.toList) := hide hst
                have HB1 : Hid (n * 10 + d + 1 ≤ 10 ^ (k + 1)) := hide (par_step HP.out hdl)
                have hb2 : n * 10 + d + 1 ≤ 4294967296 := Nat.le_trans HB1.out (Nat.le_trans (Nat.pow_le_pow_right (by decide) (by omega : k + 1 ≤ 8)) (by decide))
                have x0 : IntKind.u64.wrap (d : Int) = (d : Int) := IntWalk.u64_in _ (by omega)
                have x1 : IntKind.u64.wrap ((n : Int) * 10) = (n : Int) * 10 := IntWalk.u64_in _ (by omega)
                have x2 : IntKind.u64.wrap ((n : Int) * 10 + (d : Int)) = (n : Int) * 10 + d := IntWalk.u64_in _ (by omega)
                have x3 : decide ((n : Int) * 10 + (d : Int) < (n : Int) * 10) = false := decide_eq_false (by omega)
                have x4 : decide ((4294967295 : Int) < (n : Int) * 10 + (d : Int)) = false := decide_eq_false (by omega)
                have x5 : decide ((10 : Int) ≤ (d : Int)) = false := decide_eq_false (by omega)
                have x6 : decide ((1844674407370955162 : Int) ≤ (n : Int)) = false := decide_eq_false (by omega)
                clear hst hdb hdl hb2
                clear hdv hL ho u g1 hd
                go_wp2_with (go_at_call 195; refine (HC.out _).mono ?_; rintro e w1 ⟨rfl, hw1⟩; obtain rfl := hw1.symm)
                go_roundw
                case rel => exact ⟨k + 1, n * 10 + d, rfl, by omega, by go_num, by first | rfl | simp, HB1, HN, by first | exact trivial | exact hide rfl⟩
                case measure => simp [intOf]; omega
              · have hbad : digB 10 s[k] = none := by unfold digB; rw [hdv, if_neg (by omega)]
                rw [hbad] at hst
                have HR : Hid (parseB 10 0 s.data.toList = none) := hide hst.symm
                have x5 : decide ((10 : Int) ≤ (d : Int)) = true := decide_eq_true (by omega)
                clear hst hbad hdv hL ho u g1 q1 hdl hd
                go_wp2_with (go_at_call 195; refine (HC.out _).mono ?_; rintro e w1 ⟨rfl, hw1⟩; obtain rfl := hw1.symm)
                go_ret2
                exact ⟨by rw [HR.out]; rfl, HA0.out.below⟩
            · have l2' : decide ((L : Int) ≤ 122) = false := decide_eq_false (by omega)
              have hv : dgV s[k] = 255 := by rw [hdv, if_neg (by omega)]
              have hbad : digB 10 s[k] = none := by unfold digB; rw [hv]; rfl
              rw [hbad] at hst
              have HR : Hid (parseB 10 0 s.data.toList = none) := hide hst.symm
              clear hst hbad hv hdv hL ho u g1 q1
              go_wp2_with (go_at_call 195; refine (HC.out _).mono ?_; rintro e w1 ⟨rfl, hw1⟩; obtain rfl := hw1.symm)
              go_ret2
              exact ⟨by rw [HR.out]; rfl, HA0.out.below⟩
          · have l1' : decide ((97 : Int) ≤ L) = false := decide_eq_false (by omega)
            have hv : dgV s[k] = 255 := by rw [hdv, if_neg (by omega)]
            have hbad : digB 10 s[k] = none := by unfold digB; rw [hv]; rfl
            rw [hbad] at hst
            have HR : Hid (parseB 10 0 s.data.toList = none) := hide hst.symm
            clear hst hbad hv hdv hL ho u g1 q1
            go_wp2_with (go_at_call 195; refine (HC.out _).mono ?_; rintro e w1 ⟨rfl, hw1⟩; obtain rfl := hw1.symm)
            go_ret2
            exact ⟨by rw [HR.out]; rfl, HA0.out.below⟩
        · have q1' : decide ((48 : Int) ≤ s[k].toNat) = false := decide_eq_false q1
          clear t1 t3
          by_cases u : s[k].toNat = 95
          · have u' : ((s[k].toNat : Int) == 95) = true := by rw [beq_iff_eq]; omega
            have hL95 : L = 127 := by rw [← hL, show s[k] = 95 from UInt8.toNat_inj.1 u]; rfl
            have hv : dgV s[k] = 255 := by rw [hdv, if_neg (by omega)]
            have hbad : digB 10 s[k] = none := by unfold digB; rw [hv]; rfl
            rw [hbad] at hst
            have HR : Hid (parseB 10 0 s.data.toList = none) := hide hst.symm
            have l1 : decide ((97 : Int) ≤ L) = true := decide_eq_true (by omega)
            have l2 : decide ((L : Int) ≤ 122) = false := decide_eq_false (by omega)
            clear hst hbad hv hdv hL ho u g1 q1
            go_wp2_with (go_at_call 195; refine (HC.out _).mono ?_; rintro e w1 ⟨rfl, hw1⟩; obtain rfl := hw1.symm)
            go_ret2
            exact ⟨by rw [HR.out]; rfl, HA0.out.below⟩
          have u' : ((s[k].toNat : Int) == 95) = false := beq_eq_false_iff_ne.2 (by omega)
          by_cases l1 : 97 ≤ L
          · have l1' : decide ((97 : Int) ≤ L) = true := decide_eq_true (by omega)
            by_cases l2 : L ≤ 122
            · have l2' : decide ((L : Int) ≤ 122) = true := decide_eq_true (by omega)
              rw [if_pos ⟨l1, l2⟩] at hdv
              obtain ⟨d, hd⟩ : ∃ d, L = 87 + d := ⟨L - 87, by omega⟩
              have y1 : IntKind.u8.wrap ((L : Int) - 97) = ((d - 10 : Nat) : Int) := by rw [show (L : Int) - 97 = ((d - 10 : Nat) : Int) by omega]; exact IntWalk.u8_in _ (by omega)
              have y2 : IntKind.u8.wrap (((d - 10 : Nat) : Int) + 10) = (d : Int) := by rw [show ((d - 10 : Nat) : Int) + 10 = (d : Int) by omega]; exact IntWalk.u8_in _ (by omega)
              by_cases hdl : d < 10
              · clear q1
                have hdb : digB 10 s[k] = some d := by unfold digB; rw [hdv, if_pos (by omega)]; exact congrArg some (by omega)
                rw [hdb] at hst
                have HN : Hid (parseB 10 (n * 10 + d) (s.data.toList.drop (k + 1)) = parseB 10 0 s.data.toList) := hide hst
                have HB1 : Hid (n * 10 + d + 1 ≤ 10 ^ (k + 1)) := hide (par_step HP.out hdl)
                have hb2 : n * 10 + d + 1 ≤ 4294967296 := Nat.le_trans HB1.out (Nat.le_trans (Nat.pow_le_pow_right (by decide) (by omega : k + 1 ≤ 8)) (by decide))
                have x0 : IntKind.u64.wrap (d : Int) = (d : Int) := IntWalk.u64_in _ (by omega)
                have x1 : IntKind.u64.wrap ((n : Int) * 10) = (n : Int) * 10 := IntWalk.u64_in _ (by omega)
                have x2 : IntKind.u64.wrap ((n : Int) * 10 + (d : Int)) = (n : Int) * 10 + d := IntWalk.u64_in _ (by omega)
                have x3 : decide ((n : Int) * 10 + (d : Int) < (n : Int) * 10) = false := decide_eq_false (by omega)
                have x4 : decide ((4294967295 : Int) < (n : Int) * 10 + (d : Int)) = false := decide_eq_false (by omega)
                have x5 : decide ((10 : Int) ≤ (d : Int)) = false := decide_eq_false (by omega)
                have x6 : decide ((1844674407370955162 : Int) ≤ (n : Int)) = false := decide_eq_false (by omega)
                clear hst hdb hdl hb2
                clear hdv hL ho u g1 hd
                go_wp2_with (go_at_call 195; refine (HC.out _).mono ?_; rintro e w1 ⟨rfl, hw1⟩; obtain rfl := hw1.symm)
                go_roundw
                case rel => exact ⟨k + 1, n * 10 + d, rfl, by omega, by go_num, by first | rfl | simp, HB1, HN, by first | exact trivial | exact hide rfl⟩
                case measure => simp [intOf]; omega
              · have hbad : digB 10 s[k] = none := by unfold digB; rw [hdv, if_neg (by omega)]
                rw [hbad] at hst
                have HR : Hid (parseB 10 0 s.data.toList = none) := hide hst.symm
                have x5 : decide ((10 : Int) ≤ (d : Int)) = true := decide_eq_true (by omega)
                clear hst hbad hdv hL ho u g1 q1 hdl hd
                go_wp2_with (go_at_call 195; refine (HC.out _).mono ?_; rintro e w1 ⟨rfl, hw1⟩; obtain rfl := hw1.symm)
                go_ret2
                exact ⟨by rw [HR.out]; rfl, HA0.out.below⟩
            · have l2' : decide ((L : Int) ≤ 122) = false := decide_eq_false (by omega)
              have hv : dgV s[k] = 255 := by rw [hdv, if_neg (by omega)]
              have hbad : digB 10 s[k] = none := by unfold digB; rw [hv]; rfl
              rw [hbad] at hst
              have HR : Hid (parseB 10 0 s.data.toList = none) := hide hst.symm
              clear hst hbad hv hdv hL ho u g1 q1
              go_wp2_with (go_at_call 195; refine (HC.out _).mono ?_; rintro e w1 ⟨rfl, hw1⟩; obtain rfl := hw1.symm)
              go_ret2
              exact ⟨by rw [HR.out]; rfl, HA0.out.below⟩
          · have l1' : decide ((97 : Int) ≤ L) = false := decide_eq_false (by omega)
            have hv : dgV s[k] = 255 := by rw [hdv, if_neg (by omega)]
            have hbad : digB 10 s[k] = none := by unfold digB; rw [hv]; rfl
            rw [hbad] at hst
            have HR : Hid (parseB 10 0 s.data.toList = none) := hide hst.symm
            clear hst hbad hv hdv hL ho u g1 q1
            go_wp2_with (go_at_call 195; refine (HC.out _).mono ?_; rintro e w1 ⟨rfl, hw1⟩; obtain rfl := hw1.symm)
            go_ret2
            exact ⟨by rw [HR.out]; rfl, HA0.out.below⟩
    · have hk2 : k = s.size := by omega
      have HR : Hid (parseB 10 0 s.data.toList = some n) := hide (by rw [← HG.out, drop_nil s k (by omega)]; rfl)
      clear hk2
      go_wp2_with fail
      go_ret2
      exact ⟨by rw [HR.out]; rfl, HA0.out.below⟩

set_option maxHeartbeats 4000000 in
theorem iparse16_any (s : ByteArray) (w : World) (hs : s.size ≤ 8) (h0 : s.size ≠ 0) :
    Calls Tryz.prog 170 #[.string s, .int .i64 16, .int .i64 32] w fun e w' => e = .returned (uTup (parseB 16 0 s.data.toList)) ∧ Below w.heap.size w w' := by
  have hemp : s.toList.isEmpty = false := (sizeP h0).2
  go_enter Tryz.func170, Tryz.ntmps170
  go_wp2_with (refine wpList_bytes rfl _ rfl s rfl ?_; intro cap w0 ha0; have HA0 := hide ha0; clear ha0)
  go_loopw [12, 13, 101] (fun un nv i wr => ∃ k n : Nat, un = .bool false ∧ k ≤ s.size ∧ i = .int .i64 k ∧ nv = .int .u64 n ∧ Hid (n + 1 ≤ 16 ^ k) ∧ Hid (parseB 16 n (s.data.toList.drop k) = parseB 16 0 s.data.toList) ∧ Hid (wr = w0)) (fun _ _ i _ => s.size - (intOf i).toNat)
  case atStart => exact ⟨0, 0, rfl, Nat.zero_le _, rfl, rfl, hide (Nat.le_refl _), hide rfl, hide rfl⟩
  case round =>
    obtain ⟨k, n, rfl, hk, rfl, rfl, HP, HG, HW⟩ := hrel
    obtain rfl := HW.out
    by_cases hlt : k < s.size
    · have hst := HG.out
      rw [drop_cons s k hlt, parseB] at hst
      have c1 : wr.cell? ⟨w.heap.size, k, none⟩ = some (.int .u8 s[k].toNat) := HA0.out.cell k (by rw [toList_length]; exact hlt)
      by_cases g1 : 48 ≤ s[k].toNat ∧ s[k].toNat ≤ 57
      · obtain ⟨d, hd⟩ : ∃ d, s[k].toNat = 48 + d := ⟨s[k].toNat - 48, by omega⟩
        have t1 : decide ((48 : Int) ≤ s[k].toNat) = true := decide_eq_true (by omega)
        have t2 : decide ((s[k].toNat : Int) ≤ 57) = true := decide_eq_true (by omega)
        have t3 : ((s[k].toNat : Int) == 95) = false := beq_eq_false_iff_ne.2 (by omega)
        have wd : IntKind.u8.wrap ((s[k].toNat : Int) - 48) = (d : Int) := by rw [hd]; rw [show ((48 + d : Nat) : Int) - 48 = d by omega]; exact IntWalk.u8_in _ (by omega)
        have hdl : d < 16 := by omega
        have hdb : digB 16 s[k] = some d := by unfold digB dgV; rw [if_pos g1]; rw [if_pos (by omega)]; exact congrArg some (by omega)
        rw [hdb] at hst
        have HN : Hid (parseB 16 (n * 16 + d) (s.data.toList.drop (k + 1)) = parseB 16 0 s.data.toList) := hide hst
        have HB1 : Hid (n * 16 + d + 1 ≤ 16 ^ (k + 1)) := hide (par_step HP.out hdl)
        have hb2 : n * 16 + d + 1 ≤ 4294967296 := Nat.le_trans HB1.out (Nat.le_trans (Nat.pow_le_pow_right (by decide) (by omega : k + 1 ≤ 8)) (by decide))
        have x0 : IntKind.u64.wrap (d : Int) = (d : Int) := IntWalk.u64_in _ (by omega)
        have x1 : IntKind.u64.wrap ((n : Int) * 16) = (n : Int) * 16 := IntWalk.u64_in _ (by omega)
        have x2 : IntKind.u64.wrap ((n : Int) * 16 + (d : Int)) = (n : Int) * 16 + d := IntWalk.u64_in _ (by omega)
        have x3 : decide ((n : Int) * 16 + (d : Int) < (n : Int) * 16) = false := decide_eq_false (by omega)
        have x4 : decide ((4294967295 : Int) < (n : Int) * 16 + (d : Int)) = false := decide_eq_false (by omega)
        have x5 : decide ((16 : Int) ≤ (d : Int)) = false := decide_eq_false (by omega)
        have x6 : decide ((1152921504606846976 : Int) ≤ (n : Int)) = false := decide_eq_false (by omega)
        clear hst hdb hdl hb2
        clear hd g1
        go_wp2_with fail
        go_roundw
        case rel => exact ⟨k + 1, n * 16 + d, rfl, by omega, by go_num, by first | rfl | simp, HB1, HN, by first | exact trivial | exact hide rfl⟩
        case measure => simp [intOf]; omega
      · have t1 : (decide ((48 : Int) ≤ s[k].toNat) && decide ((s[k].toNat : Int) ≤ 57)) = false := by
          cases q1 : decide ((48 : Int) ≤ s[k].toNat) with
          | false => rfl
          | true =>
            have := of_decide_eq_true q1
            rw [Bool.true_and]; exact decide_eq_false (by omega)
        obtain ⟨L, hL⟩ : ∃ L, (s[k] ||| 32).toNat = L := ⟨_, rfl⟩
        have ho : bits .or .u8 (s[k].toNat : Int) 32 = (L : Int) := by rw [or32, hL]
        have HC := hide (fun w1 => Tryz.internal_strconv_lower (s[k].toNat : Int) w1)
        rw [ho] at HC
        have t3 : (decide ((s[k].toNat : Int) = 95)) = decide (s[k].toNat = 95) := by congr 1; exact propext (by omega)
        have hdv : dgV s[k] = if 97 ≤ L ∧ L ≤ 122 then L - 87 else 255 := by unfold dgV; rw [if_neg g1, hL]
        have hLl : L < 256 := by rw [← hL]; exact byte_lt _
        by_cases q1 : (48 : Int) ≤ s[k].toNat
        · have q1' : decide ((48 : Int) ≤ s[k].toNat) = true := decide_eq_true q1
          have q2' : decide ((s[k].toNat : Int) ≤ 57) = false := decide_eq_false (by omega)
          clear t1 t3
          by_cases u : s[k].toNat = 95
          · have u' : ((s[k].toNat : Int) == 95) = true := by rw [beq_iff_eq]; omega
            have hL95 : L = 127 := by rw [← hL, show s[k] = 95 from UInt8.toNat_inj.1 u]; rfl
            have hv : dgV s[k] = 255 := by rw [hdv, if_neg (by omega)]
            have hbad : digB 16 s[k] = none := by unfold digB; rw [hv]; rfl
            rw [hbad] at hst
            have HR : Hid (parseB 16 0 s.data.toList = none) := hide hst.symm
            have l1 : decide ((97 : Int) ≤ L) = true := decide_eq_true (by omega)
            have l2 : decide ((L : Int) ≤ 122) = false := decide_eq_false (by omega)
            clear hst hbad hv hdv hL ho u g1 q1
            go_wp2_with (go_at_call 195; refine (HC.out _).mono ?_; rintro e w1 ⟨rfl, hw1⟩; obtain rfl := hw1.symm)
            go_ret2
            exact ⟨by rw [HR.out]; rfl, HA0.out.below⟩
          have u' : ((s[k].toNat : Int) == 95) = false := beq_eq_false_iff_ne.2 (by omega)
          by_cases l1 : 97 ≤ L
          · have l1' : decide ((97 : Int) ≤ L) = true := decide_eq_true (by omega)
            by_cases l2 : L ≤ 122
            · have l2' : decide ((L : Int) ≤ 122) = true := decide_eq_true (by omega)
              rw [if_pos ⟨l1, l2⟩] at hdv
              obtain ⟨d, hd⟩ : ∃ d, L = 87 + d := ⟨L - 87, by omega⟩
              have y1 : IntKind.u8.wrap ((L : Int) - 97) = ((d - 10 : Nat) : Int) := by rw [show (L : Int) - 97 = ((d - 10 : Nat) : Int) by omega]; exact IntWalk.u8_in _ (by omega)
              have y2 : IntKind.u8.wrap (((d - 10 : Nat) : Int) + 10) = (d : Int) := by rw [show ((d - 10 : Nat) : Int) + 10 = (d : Int) by omega]; exact IntWalk.u8_in _ (by omega)
              by_cases hdl : d < 16
              · clear q1
                have hdb : digB 16 s[k] = some d := by unfold digB; rw [hdv, if_pos (by omega)]; exact congrArg some (by omega)
                rw [hdb] at hst
                have HN : Hid (parseB 16 (n * 16 + d) (s.data.toList.drop (k + 1)) = parseB 16 0 s.data.toList) := hide hst
                have HB1 : Hid (n * 16 + d + 1 ≤ 16 ^ (k + 1)) := hide (par_step HP.out hdl)
                have hb2 : n * 16 + d + 1 ≤ 4294967296 := Nat.le_trans HB1.out (Nat.le_trans (Nat.pow_le_pow_right (by decide) (by omega : k + 1 ≤ 8)) (by decide))
                have x0 : IntKind.u64.wrap (d : Int) = (d : Int) := IntWalk.u64_in _ (by omega)
                have x1 : IntKind.u64.wrap ((n : Int) * 16) = (n : Int) * 16 := IntWalk.u64_in _ (by omega)
                have x2 : IntKind.u64.wrap ((n : Int) * 16 + (d : Int)) = (n : Int) * 16 + d := IntWalk.u64_in _ (by omega)
                have x3 : decide ((n : Int) * 16 + (d : Int) < (n : Int) * 16) = false := decide_eq_false (by omega)
                have x4 : decide ((4294967295 : Int) < (n : Int) * 16 + (d : Int)) = false := decide_eq_false (by omega)
                have x5 : decide ((16 : Int) ≤ (d : Int)) = false := decide_eq_false (by omega)
                have x6 : decide ((1152921504606846976 : Int) ≤ (n : Int)) = false := decide_eq_false (by omega)
                clear hst hdb hdl hb2
                clear hdv hL ho u g1 hd
                go_wp2_with (go_at_call 195; refine (HC.out _).mono ?_; rintro e w1 ⟨rfl, hw1⟩; obtain rfl := hw1.symm)
                go_roundw
                case rel => exact ⟨k + 1, n * 16 + d, rfl, by omega, by go_num, by first | rfl | simp, HB1, HN, by first | exact trivial | exact hide rfl⟩
                case measure => simp [intOf]; omega
              · have hbad : digB 16 s[k] = none := by unfold digB; rw [hdv, if_neg (by omega)]
                rw [hbad] at hst
                have HR : Hid (parseB 16 0 s.data.toList = none) := hide hst.symm
                have x5 : decide ((16 : Int) ≤ (d : Int)) = true := decide_eq_true (by omega)
                clear hst hbad hdv hL ho u g1 q1 hdl hd
                go_wp2_with (go_at_call 195; refine (HC.out _).mono ?_; rintro e w1 ⟨rfl, hw1⟩; obtain rfl := hw1.symm)
                go_ret2
                exact ⟨by rw [HR.out]; rfl, HA0.out.below⟩
            · have l2' : decide ((L : Int) ≤ 122) = false := decide_eq_false (by omega)
              have hv : dgV s[k] = 255 := by rw [hdv, if_neg (by omega)]
              have hbad : digB 16 s[k] = none := by unfold digB; rw [hv]; rfl
              rw [hbad] at hst
              have HR : Hid (parseB 16 0 s.data.toList = none) := hide hst.symm
              clear hst hbad hv hdv hL ho u g1 q1
              go_wp2_with (go_at_call 195; refine (HC.out _).mono ?_; rintro e w1 ⟨rfl, hw1⟩; obtain rfl := hw1.symm)
              go_ret2
              exact ⟨by rw [HR.out]; rfl, HA0.out.below⟩
          · have l1' : decide ((97 : Int) ≤ L) = false := decide_eq_false (by omega)
            have hv : dgV s[k] = 255 := by rw [hdv, if_neg (by omega)]
            have hbad : digB 16 s[k] = none := by unfold digB; rw [hv]; rfl
            rw [hbad] at hst
            have HR : Hid (parseB 16 0 s.data.toList = none) := hide hst.symm
            clear hst hbad hv hdv hL ho u g1 q1
            go_wp2_with (go_at_call 195; refine (HC.out _).mono ?_; rintro e w1 ⟨rfl, hw1⟩; obtain rfl := hw1.symm)
            go_ret2
            exact ⟨by rw [HR.out]; rfl, HA0.out.below⟩
        · have q1' : decide ((48 : Int) ≤ s[k].toNat) = false := decide_eq_false q1
          clear t1 t3
          by_cases u : s[k].toNat = 95
          · have u' : ((s[k].toNat : Int) == 95) = true := by rw [beq_iff_eq]; omega
            have hL95 : L = 127 := by rw [← hL, show s[k] = 95 from UInt8.toNat_inj.1 u]; rfl
            have hv : dgV s[k] = 255 := by rw [hdv, if_neg (by omega)]
            have hbad : digB 16 s[k] = none := by unfold digB; rw [hv]; rfl
            rw [hbad] at hst
            have HR : Hid (parseB 16 0 s.data.toList = none) := hide hst.symm
            have l1 : decide ((97 : Int) ≤ L) = true := decide_eq_true (by omega)
            have l2 : decide ((L : Int) ≤ 122) = false := decide_eq_false (by omega)
            clear hst hbad hv hdv hL ho u g1 q1
            go_wp2_with (go_at_call 195; refine (HC.out _).mono ?_; rintro e w1 ⟨rfl, hw1⟩; obtain rfl := hw1.symm)
            go_ret2
            exact ⟨by rw [HR.out]; rfl, HA0.out.below⟩
          have u' : ((s[k].toNat : Int) == 95) = false := beq_eq_false_iff_ne.2 (by omega)
          by_cases l1 : 97 ≤ L
          · have l1' : decide ((97 : Int) ≤ L) = true := decide_eq_true (by omega)
            by_cases l2 : L ≤ 122
            · have l2' : decide ((L : Int) ≤ 122) = true := decide_eq_true (by omega)
              rw [if_pos ⟨l1, l2⟩] at hdv
              obtain ⟨d, hd⟩ : ∃ d, L = 87 + d := ⟨L - 87, by omega⟩
              have y1 : IntKind.u8.wrap ((L : Int) - 97) = ((d - 10 : Nat) : Int) := by rw [show (L : Int) - 97 = ((d - 10 : Nat) : Int) by omega]; exact IntWalk.u8_in _ (by omega)
              have y2 : IntKind.u8.wrap (((d - 10 : Nat) : Int) + 10) = (d : Int) := by rw [show ((d - 10 : Nat) : Int) + 10 = (d : Int) by omega]; exact IntWalk.u8_in _ (by omega)
              by_cases hdl : d < 16
              · clear q1
                have hdb : digB 16 s[k] = some d := by unfold digB; rw [hdv, if_pos (by omega)]; exact congrArg some (by omega)
                rw [hdb] at hst
                have HN : Hid (parseB 16 (n * 16 + d) (s.data.toList.drop (k + 1)) = parseB 16 0 s.data.toList) := hide hst
                have HB1 : Hid (n * 16 + d + 1 ≤ 16 ^ (k + 1)) := hide (par_step HP.out hdl)
                have hb2 : n * 16 + d + 1 ≤ 4294967296 := Nat.le_trans HB1.out (Nat.le_trans (Nat.pow_le_pow_right (by decide) (by omega : k + 1 ≤ 8)) (by decide))
                have x0 : IntKind.u64.wrap (d : Int) = (d : Int) := IntWalk.u64_in _ (by omega)
                have x1 : IntKind.u64.wrap ((n : Int) * 16) = (n : Int) * 16 := IntWalk.u64_in _ (by omega)
                have x2 : IntKind.u64.wrap ((n : Int) * 16 + (d : Int)) = (n : Int) * 16 + d := IntWalk.u64_in _ (by omega)
                have x3 : decide ((n : Int) * 16 + (d : Int) < (n : Int) * 16) = false := decide_eq_false (by omega)
                have x4 : decide ((4294967295 : Int) < (n : Int) * 16 + (d : Int)) = false := decide_eq_false (by omega)
                have x5 : decide ((16 : Int) ≤ (d : Int)) = false := decide_eq_false (by omega)
                have x6 : decide ((1152921504606846976 : Int) ≤ (n : Int)) = false := decide_eq_false (by omega)
                clear hst hdb hdl hb2
                clear hdv hL ho u g1 hd
                go_wp2_with (go_at_call 195; refine (HC.out _).mono ?_; rintro e w1 ⟨rfl, hw1⟩; obtain rfl := hw1.symm)
                go_roundw
                case rel => exact ⟨k + 1, n * 16 + d, rfl, by omega, by go_num, by first | rfl | simp, HB1, HN, by first | exact trivial | exact hide rfl⟩
                case measure => simp [intOf]; omega
              · have hbad : digB 16 s[k] = none := by unfold digB; rw [hdv, if_neg (by omega)]
                rw [hbad] at hst
                have HR : Hid (parseB 16 0 s.data.toList = none) := hide hst.symm
                have x5 : decide ((16 : Int) ≤ (d : Int)) = true := decide_eq_true (by omega)
                clear hst hbad hdv hL ho u g1 q1 hdl hd
                go_wp2_with (go_at_call 195; refine (HC.out _).mono ?_; rintro e w1 ⟨rfl, hw1⟩; obtain rfl := hw1.symm)
                go_ret2
                exact ⟨by rw [HR.out]; rfl, HA0.out.below⟩
            · have l2' : decide ((L : Int) ≤ 122) = false := decide_eq_false (by omega)
              have hv : dgV s[k] = 255 := by rw [hdv, if_neg (by omega)]
              have hbad : digB 16 s[k] = none := by unfold digB; rw [hv]; rfl
              rw [hbad] at hst
              have HR : Hid (parseB 16 0 s.data.toList = none) := hide hst.symm
              clear hst hbad hv hdv hL ho u g1 q1
              go_wp2_with (go_at_call 195; refine (HC.out _).mono ?_; rintro e w1 ⟨rfl, hw1⟩; obtain rfl := hw1.symm)
              go_ret2
              exact ⟨by rw [HR.out]; rfl, HA0.out.below⟩
          · have l1' : decide ((97 : Int) ≤ L) = false := decide_eq_false (by omega)
            have hv : dgV s[k] = 255 := by rw [hdv, if_neg (by omega)]
            have hbad : digB 16 s[k] = none := by unfold digB; rw [hv]; rfl
            rw [hbad] at hst
            have HR : Hid (parseB 16 0 s.data.toList = none) := hide hst.symm
            clear hst hbad hv hdv hL ho u g1 q1
            go_wp2_with (go_at_call 195; refine (HC.out _).mono ?_; rintro e w1 ⟨rfl, hw1⟩; obtain rfl := hw1.symm)
            go_ret2
            exact ⟨by rw [HR.out]; rfl, HA0.out.below⟩
    · have hk2 : k = s.size := by omega
      have HR : Hid (parseB 16 0 s.data.toList = some n) := hide (by rw [← HG.out, drop_nil s k (by omega)]; rfl)
      clear hk2
      go_wp2_with fail
      go_ret2
      exact ⟨by rw [HR.out]; rfl, HA0.out.below⟩

/-- the number of a text, if it is one -/
def parseU (b : Nat) (l : List UInt8) : Option Nat := if l = [] then none else parseB b 0 l
/-- what ParseUint answers -/
def UOut (o : Option Nat) (e : Ending) : Prop :=
  match o with
  | some n => e = .returned (.tuple #[.int .u64 n, .nilIface])
  | none => ∃ N : Nat, e = .returned (.tuple #[.int .u64 0, .iface 207 (.pointer (some ⟨N, 0, none⟩))])

theorem iempty10_any (w : World) : Calls Tryz.prog 170 #[.string ⟨#[]⟩, .int .i64 10, .int .i64 32] w (fun e w' => e = .returned (uTup none) ∧ Below w.heap.size w w') := by
  go_enter Tryz.func170, Tryz.ntmps170
  go_wp2_with fail
  go_ret2
  exact ⟨rfl, Below.refl _ _⟩
set_option maxHeartbeats 2000000 in
theorem parse10_any (s : ByteArray) (ev : Value) (w : World) (hs : s.size ≤ 8) (hv : w.cell? ⟨1, 0, none⟩ = some ev) (hev : ev = .nilIface ∨ ∃ te pe, ev = .iface te pe) :
    Calls Tryz.prog 149 #[.string s, .int .i64 10, .int .i64 32] w fun e w' => UOut (parseU 10 s.data.toList) e ∧ Below w.heap.size w w' := by
  have HV := hide hv
  have HEV := hide hev
  have HS := hide hs
  have hlt : 1 < w.heap.size := by
    rcases Nat.lt_or_ge 1 w.heap.size with h1 | h1
    · exact h1
    · simp [World.cell?, Array.getElem?_eq_none h1] at hv
  have HLT := hide hlt
  clear hv hev hlt
  have bad : parseU 10 s.data.toList = none → Calls Tryz.prog 170 #[.string s, .int .i64 10, .int .i64 32] w (fun e w' => e = .returned (uTup none) ∧ Below w.heap.size w w') → Calls Tryz.prog 149 #[.string s, .int .i64 10, .int .i64 32] w fun e w' => UOut (parseU 10 s.data.toList) e ∧ Below w.heap.size w w' := by
    intro hn hc
    have HN := hide hn
    have HC := hide hc
    clear hn hc
    go_enter Tryz.func149, Tryz.ntmps149
    go_wp2_with (first
      | (go_at_call 170; refine HC.out.mono ?_; rintro e w1 ⟨rfl, hb1⟩; rw [show uTup none = .tuple #[.int .u64 0, .iface 205 (.int .i64 2)] from rfl]; have HB1 := hide hb1; clear hb1)
      | (go_at_call 171; refine (Tryz.strconv_toError_syntax _ s 10 32 ev _ (Nat.le_trans HS.out (by decide)) ((HB1.out.cell (p := ⟨1, 0, none⟩) HLT.out).trans HV.out) HEV.out).mono ?_; rintro e w2 ⟨N, rfl, _, _, hb2⟩; have HB2 := hide (HB1.out.trans (hb2.mono HB1.out.size)); clear hb2))
    go_ret2
    rw [HN.out]
    exact ⟨⟨N, rfl⟩, HB2.out⟩
  by_cases h0 : s.size = 0
  · have he : s = ⟨#[]⟩ := ext_list (size0 h0).1
    have hp : parseU 10 s.data.toList = none := by unfold parseU; rw [if_pos (size0 h0).1]
    refine bad hp ?_
    rw [he]
    exact iempty10_any w
  · have hp : parseU 10 s.data.toList = parseB 10 0 s.data.toList := by unfold parseU; rw [if_neg (sizeP h0).1]
    have hc := iparse10_any s w hs h0
    cases hr : parseB 10 0 s.data.toList with
    | none => rw [hr] at hp hc; exact bad hp hc
    | some n =>
      rw [hr] at hp hc
      have HP := hide hp
      have HC := hide hc
      clear hp hc bad hr
      go_enter Tryz.func149, Tryz.ntmps149
      go_wp2_with (go_at_call 170; refine HC.out.mono ?_; rintro e w1 ⟨rfl, hb1⟩; rw [show uTup (some n) = .tuple #[.int .u64 n, .nilIface] from rfl]; have HB1 := hide hb1; clear hb1)
      go_ret2
      rw [HP.out]
      exact ⟨rfl, HB1.out⟩

theorem iempty16_any (w : World) : Calls Tryz.prog 170 #[.string ⟨#[]⟩, .int .i64 16, .int .i64 32] w (fun e w' => e = .returned (uTup none) ∧ Below w.heap.size w w') := by
  go_enter Tryz.func170, Tryz.ntmps170
  go_wp2_with fail
  go_ret2
  exact ⟨rfl, Below.refl _ _⟩
set_option maxHeartbeats 2000000 in
theorem parse16_any (s : ByteArray) (ev : Value) (w : World) (hs : s.size ≤ 8) (hv : w.cell? ⟨1, 0, none⟩ = some ev) (hev : ev = .nilIface ∨ ∃ te pe, ev = .iface te pe) :
    Calls Tryz.prog 149 #[.string s, .int .i64 16, .int .i64 32] w fun e w' => UOut (parseU 16 s.data.toList) e ∧ Below w.heap.size w w' := by
  have HV := hide hv
  have HEV := hide hev
  have HS := hide hs
  have hlt : 1 < w.heap.size := by
    rcases Nat.lt_or_ge 1 w.heap.size with h1 | h1
    · exact h1
    · simp [World.cell?, Array.getElem?_eq_none h1] at hv
  have HLT := hide hlt
  clear hv hev hlt
  have bad : parseU 16 s.data.toList = none → Calls Tryz.prog 170 #[.string s, .int .i64 16, .int .i64 32] w (fun e w' => e = .returned (uTup none) ∧ Below w.heap.size w w') → Calls Tryz.prog 149 #[.string s, .int .i64 16, .int .i64 32] w fun e w' => UOut (parseU 16 s.data.toList) e ∧ Below w.heap.size w w' := by
    intro hn hc
    have HN := hide hn
    have HC := hide hc
    clear hn hc
    go_enter Tryz.func149, Tryz.ntmps149
    go_wp2_with (first
      | (go_at_call 170; refine HC.out.mono ?_; rintro e w1 ⟨rfl, hb1⟩; rw [show uTup none = .tuple #[.int .u64 0, .iface 205 (.int .i64 2)] from rfl]; have HB1 := hide hb1; clear hb1)
      | (go_at_call 171; refine (Tryz.strconv_toError_syntax _ s 16 32 ev _ (Nat.le_trans HS.out (by decide)) ((HB1.out.cell (p := ⟨1, 0, none⟩) HLT.out).trans HV.out) HEV.out).mono ?_; rintro e w2 ⟨N, rfl, _, _, hb2⟩; have HB2 := hide (HB1.out.trans (hb2.mono HB1.out.size)); clear hb2))
    go_ret2
    rw [HN.out]
    exact ⟨⟨N, rfl⟩, HB2.out⟩
  by_cases h0 : s.size = 0
  · have he : s = ⟨#[]⟩ := ext_list (size0 h0).1
    have hp : parseU 16 s.data.toList = none := by unfold parseU; rw [if_pos (size0 h0).1]
    refine bad hp ?_
    rw [he]
    exact iempty16_any w
  · have hp : parseU 16 s.data.toList = parseB 16 0 s.data.toList := by unfold parseU; rw [if_neg (sizeP h0).1]
    have hc := iparse16_any s w hs h0
    cases hr : parseB 16 0 s.data.toList with
    | none => rw [hr] at hp hc; exact bad hp hc
    | some n =>
      rw [hr] at hp hc
      have HP := hide hp
      have HC := hide hc
      clear hp hc bad hr
      go_enter Tryz.func149, Tryz.ntmps149
      go_wp2_with (go_at_call 170; refine HC.out.mono ?_; rintro e w1 ⟨rfl, hb1⟩; rw [show uTup (some n) = .tuple #[.int .u64 n, .nilIface] from rfl]; have HB1 := hide hb1; clear hb1)
      go_ret2
      rw [HP.out]
      exact ⟨rfl, HB1.out⟩

end Go.Proofs.YtgokefodmjhhiaaGreatDoor

/- A map with texts as keys and runes as elements that the call makes: said by what it holds at each text. No statement is proved here. -/
namespace Go.Proofs.YtgokefodmjhhiaaGreatDoor
open Go.RowKit Go.Maps Go.WideShapes Go.WideMaps
set_option linter.unusedVariables false
set_option linter.unusedSimpArgs false
set_option maxRecDepth 100000
theorem keyedS : Keyed Tryz.prog 9 := string_keyed Tryz.underlying9
theorem zeroR (w : World) : (zeroValue 21).run Tryz.prog w = .ok (.int .i32 0) w := by kernel_rfl
/-- block b is a map of at most n entries, that holds f -/
def SMapN (w : World) (b n : Nat) (f : List UInt8 → Option Int) : Prop :=
  ∃ D : DataW Unit, w.ownsMap Tryz.prog 9 (plainElem Tryz.prog 21) b n D ∧ IsMap D ∧
    ∀ s : List UInt8, Maps.has D (.string s) = (f s).isSome ∧ D.atKey (.string s) (.lit (.int .i32 0)) = .lit (.int .i32 ((f s).getD 0))
theorem SMapN.made (w : World) : SMapN (w.alloc (.map #[] 0)) w.heap.size 0 (fun _ => none) :=
  ⟨_, World.ownsMap_made w Tryz.prog _ _, isMap_empty, fun s => ⟨rfl, rfl⟩⟩
theorem SMapN.kept {w w' : World} {b n : Nat} {f : List UInt8 → Option Int} (h : SMapN w b n f) (hb : Below w.heap.size w w') : SMapN w' b n f := by
  obtain ⟨D, h1, h2, h3⟩ := h
  exact ⟨D, h1.kept (row := none) ⟨hb.os, hb.tape, hb.output, hb.size, fun k hk _ => hb.block k hk⟩ (by simp), h2, h3⟩
theorem SMapN.drew {w : World} {b n : Nat} {f : List UInt8 → Option Int} (h : SMapN w b n f) : SMapN w.drew b n f := h
theorem SMapN.lt {w : World} {b n : Nat} {f : List UInt8 → Option Int} (h : SMapN w b n f) : b < w.heap.size := by
  obtain ⟨D, h1, _⟩ := h; exact h1.lt
/-- m[s] = c, of a literal -/
theorem wpList_sm_insert {ops : Array Oper} {rest : List Oper} {o : Oper} {a : Act} {Q : Exit → Act → World → Prop} {w : World} (hg : o.guard = none) (m x v : Operand) (hop : o.op = Op.insert 96 m x v)
    (w0 : World) (n : Nat) (f : List UInt8 → Option Int) (hm : a.eval m = .map (some w0.heap.size)) (h : SMapN w w0.heap.size n f ∧ Below w0.heap.size w0 w) (hn : n < maxLen) (s : ByteArray) (hs : s.size ≤ maxLen) (c : Int) (hc : (Lit.int .i32 c).wf = true)
    (hx : a.eval x = .string s) (hv : a.eval v = .int .i32 c)
    (hK : ∀ w', (SMapN w' w0.heap.size (n + 1) (fun y => if y = s.data.toList then some c else f y) ∧ Below w0.heap.size w0 w') → wpList Tryz.prog ops Q rest (a.put o.dst undef) w') : wpList Tryz.prog ops Q (o :: rest) a w := by
  obtain ⟨⟨D, h1, h2, h3⟩, hB⟩ := h
  obtain ⟨w', hrun, r1, r2⟩ := h1.update keyedS Tryz.underlying96 hn (keyOf_string_mk Tryz.underlying9 hs) (plainElem_int Tryz.underlying21 hc)
  refine wpList_plain hg fun K' hK' => ?_
  unfold Oper.wp
  simp [execOp, hop, hm, hx, hv, hrun, Result.andThen]
  refine hK' _ _ (hK w' ⟨⟨_, r1, h2.put _ _, fun y => ?_⟩, hB.grown r2 (Nat.le_of_lt h1.lt) (fun k hk => by cases hk; exact Nat.le_refl _)⟩)
  by_cases e : y = s.data.toList
  · subst e
    exact ⟨(has_put_same h2 (show WideAt.IsKeyLit (.string s.data.toList) from trivial) _).trans (by simp), (atKey_put_same h2 (show WideAt.IsKeyLit (.string s.data.toList) from trivial) _ _).trans (by simp)⟩
  · have hne : (Lit.string y) ≠ (Lit.string s.data.toList) := fun h => e (by injection h)
    obtain ⟨g1, g2⟩ := h3 y
    exact ⟨(has_put_other hne _).trans (by simp [g1, e]), (atKey_put_other hne _ _).trans (by simp [g2, e])⟩
/-- v, ok := m[s] -/
theorem wpList_sm_look {ops : Array Oper} {rest : List Oper} {o : Oper} {a : Act} {Q : Exit → Act → World → Prop} {w : World} (hg : o.guard = none) (m x : Operand) (hop : o.op = Op.lookup 96 m x true)
    (b n : Nat) (f : List UInt8 → Option Int) (hm : a.eval m = .map (some b)) (h : SMapN w b n f) (s : ByteArray) (hs : s.size ≤ maxLen) (hx : a.eval x = .string s)
    (hK : wpList Tryz.prog ops Q rest (a.put o.dst (.tuple #[.int .i32 ((f s.data.toList).getD 0), .bool (f s.data.toList).isSome])) w) : wpList Tryz.prog ops Q (o :: rest) a w := by
  obtain ⟨D, h1, h2, h3⟩ := h
  refine wpList_lookup_own_ok_int w hg m x 96 hop 9 21 .i32 keyedS Tryz.underlying96 Tryz.underlying21 (zeroR w) b n D hm h1 _ (.string s.data.toList) hx (keyOf_string_mk Tryz.underlying9 hs) (fun c hc _ => ?_)
  obtain ⟨g1, g2⟩ := h3 s.data.toList
  rw [g2] at hc
  injection hc with hc
  injection hc with _ hc
  rw [g1, ← hc]
  exact hK
end Go.Proofs.YtgokefodmjhhiaaGreatDoor

/- WALK of ent.signs: the map of names. No statement is proved here. -/
namespace Go.Proofs.YtgokefodmjhhiaaGreatDoor
open Go.RowKit
set_option linter.unusedVariables false
set_option linter.unusedSimpArgs false
set_option maxRecDepth 100000
def putN (f : List UInt8 → Option Int) (k : List UInt8) (c : Int) : List UInt8 → Option Int := fun y => if y = k then some c else f y
/-- the sign of a name -/
def nameN : List UInt8 → Option Int :=
  putN (putN (putN (putN (putN (putN (putN (putN (putN (putN (putN (putN (putN (putN (putN (putN (fun _ => none) [97, 109, 112] 38) [108, 116] 60) [103, 116] 62) [113, 117, 111, 116] 34) [97, 112, 111, 115] 39) [110, 98, 115, 112] 160) [99, 111, 112, 121] 169) [114, 101, 103] 174) [101, 117, 114, 111] 8364) [104, 101, 108, 108, 105, 112] 8230) [110, 100, 97, 115, 104] 8211) [109, 100, 97, 115, 104] 8212) [108, 115, 113, 117, 111] 8216) [114, 115, 113, 117, 111] 8217) [108, 100, 113, 117, 111] 8220) [114, 100, 113, 117, 111] 8221
set_option maxHeartbeats 2000000 in
theorem signs_any (w : World) : Calls Tryz.prog 89 #[] w fun e w' => e = .returned (.map (some w.heap.size)) ∧ SMapN w' w.heap.size 16 nameN ∧ Below w.heap.size w w' := by
  have hst : SMapN (w.alloc (.map #[] 0)) w.heap.size 0 (fun _ => none) ∧ Below w.heap.size w (w.alloc (.map #[] 0)) := ⟨SMapN.made w, (Below.refl _ w).alloc (Nat.le_refl _) _⟩
  have hmm := @run_makeMap Tryz.prog
  go_enter Tryz.func89, Tryz.ntmps89
  go_wp2_with (refine wpList_sm_insert rfl _ _ _ rfl w _ _ rfl hst (by decide) _ (by decide) _ (by decide) rfl rfl ?_; clear hst; intro w1 hst)
  go_ret
  exact ⟨rfl, hst.1, hst.2⟩
end Go.Proofs.YtgokefodmjhhiaaGreatDoor

/- strings.Trim of white. No statement is proved here. -/
namespace Go.Proofs.YtgokefodmjhhiaaGreatDoor
open Go.RowKit
set_option linter.unusedVariables false
set_option linter.unusedSimpArgs false

theorem trim_any (s : ByteArray) (w : World) (hs : s.size ≤ maxLen) :
    Calls Tryz.prog 223 #[.string s, .string ⟨#[32, 9, 10, 12, 13]⟩] w fun e w' => e = .returned (.string (str (Lib.trimS s.data.toList whiteSet))) ∧ Below w.heap.size w w' :=
  Any.strings_Trim_laid Tryz.lays160 (by kernel_rfl) s ⟨#[32, 9, 10, 12, 13]⟩ w (by unfold maxLen at hs; omega) (by decide) (ascii_of_all (by decide))
end Go.Proofs.YtgokefodmjhhiaaGreatDoor

/- utf8.AppendRune onto a row that the call owns, beside a text's iterator; strings.Trim of white. No statement is proved here. -/
namespace Go.Proofs.YtgokefodmjhhiaaGreatDoor
open Go.RowKit
set_option linter.unusedVariables false
set_option linter.unusedSimpArgs false

/-- what is no row of cells stays as it was -/
def IterKept (w w' : World) : Prop := ∀ (b : Nat) (s : ByteArray) (p : Nat), w.heap[b]? = some (Obj.stringIter s p) → w'.heap[b]? = some (Obj.stringIter s p)
theorem buf_not_iter {B : Nat} {v : Value} {l : List UInt8} {W0 w : World} (h : Buf B v l W0 w) {b : Nat} {s : ByteArray} {p : Nat} (hb : w.heap[b]? = some (Obj.stringIter s p)) : v.ownBlock ≠ some b := by
  rcases h.1.2 with ⟨rfl, _⟩ | ⟨g, cap, cur, rfl, _, hh, _⟩
  · simp [Value.ownBlock]
  · intro he
    have e : g = b := by simpa [Value.ownBlock] using he
    subst e
    rw [hh] at hb; cases hb
theorem iter_own {B : Nat} {v : Value} {l : List UInt8} {W0 w w' : World} (h : Buf B v l W0 w) (hg : w.grownBy w' v.ownBlock) : IterKept w w' := fun b s p hb =>
  (hg.block b (Array.getElem?_eq_some_iff.1 hb).1 (fun e => buf_not_iter h hb e.symm)).trans hb

theorem appendRune_any (B : Nat) (v : Value) (l : List UInt8) (W0 w : World) (hb : Buf B v l W0 w) (r : Int) (h0 : 0 ≤ r) (h1 : r ≤ 1114111) (hl : l.length ≤ 70368744177664) :
    Calls Tryz.prog 132 #[v, .int .i32 r] w fun e w' => ∃ v', e = .returned v' ∧ Buf B v' (l ++ runeL r) W0 w' ∧ IterKept w w' := by
  refine (Tryz.utf8_AppendRune_plain B v l.length (cellsOf l) r (by omega) (by omega) w hb.1 (by omega) hb.2.2).mono ?_
  rintro e w' ⟨v', rfl, ho, o, hg⟩
  have hb' := hb.alloc o
  refine ⟨v', rfl, hb'.grown (l' := l ++ runeL r) ?_ hg, fun b s p hx => iter_own hb' hg b s p ?_⟩
  · have e : Lib.runeCells r = cellsOf (runeL r) := (Lib.byteCells_encodeRune r).symm
    have e2 : (Lib.runeCells r).length = (runeL r).length := by rw [e, cellsOf_length]
    rw [e2, e] at ho
    rw [List.length_append, cellsOf, List.map_append]
    exact ho
  · exact (Below.heap_alloc w o b (Array.getElem?_eq_some_iff.1 hx).1).trans hx

theorem Buf.iterAt {B : Nat} {v : Value} {l : List UInt8} {W0 w : World} (h : Buf B v l W0 w) {k : Nat} {s : ByteArray} {p : Nat} (hk : w.heap[k]? = some (Obj.stringIter s p)) (hB : B ≤ k) (p' : Nat) : Buf B v l W0 (w.iterAt k s p') := by
  have hne := buf_not_iter h hk
  refine ⟨⟨h.1.1, ?_⟩, Lib.below_iterAt h.2.1 hB s p', by rw [Lib.iterAt_size]; exact h.2.2⟩
  rcases h.1.2 with ⟨rfl, h0⟩ | ⟨g, cap, cur, rfl, h1, h2, h3⟩
  · exact .inl ⟨rfl, h0⟩
  · refine .inr ⟨g, cap, cur, rfl, h1, ?_, h3⟩
    rw [Lib.iterAt_other _ _ _ _ _ (fun e => hne (by simp [Value.ownBlock, e]))]
    exact h2

end Go.Proofs.YtgokefodmjhhiaaGreatDoor

/- WALK of chars.Known. No statement is proved here. -/
namespace Go.Proofs.YtgokefodmjhhiaaGreatDoor
open Go.RowKit
set_option linter.unusedVariables false
set_option linter.unusedSimpArgs false

set_option maxRecDepth 100000 in
set_option maxHeartbeats 4000000 in
theorem known_any (s : ByteArray) (w : World) (hs : s.size ≤ 70368744177664) :
    Calls Tryz.prog 201 #[.string s] w fun e w' => e = .returned (knownV (kindL s.data.toList)) ∧ Below w.heap.size w w' := by
  obtain ⟨x, hx⟩ : ∃ x, x = cleanL s.data.toList := ⟨_, rfl⟩
  obtain ⟨X, hX⟩ : ∃ X, X = str x := ⟨_, rfl⟩
  have HX : Hid (str (cleanL s.data.toList) = X) := hide (by rw [hX, hx])
  have hk : kindL s.data.toList = kindOf x := by rw [hx]; rfl
  rw [hk]
  have HXX := hide hX
  have HSZ : Hid ((str (Lib.trimS s.data.toList whiteSet)).size ≤ 70368744177664) := hide (by
    rw [str_size]
    have h := trimS_length s.data.toList whiteSet
    rw [toList_length] at h; omega)
  clear hx hX hk
  by_cases h0 : x = [117, 116, 102, 45, 56]
  · have HV : Hid (knownV (kindOf x) = .tuple #[.string ⟨#[117, 116, 102, 45, 56]⟩, .bool true]) := hide (by rw [h0, show kindOf [117, 116, 102, 45, 56] = 1 from by decide +kernel]; rfl)
    have t0 : (X.toList == [117, 116, 102, 45, 56]) = true := listT HXX.out h0
    clear h0
    go_enter Tryz.func201, Tryz.ntmps201
    go_wp2_with fail
    refine (trim_any s _ (by unfold maxLen; omega)).mono ?_
    rintro e w1 ⟨rfl, hb1⟩
    go_wp2_with fail
    refine (lower_any _ _ HSZ.out).mono ?_
    rintro e w2 ⟨rfl, hb2⟩
    rw [str_toList, show lowL (Lib.trimS s.data.toList whiteSet) = cleanL s.data.toList from rfl, HX.out]
    have hbb := hb1.trans (hb2.mono hb1.size)
    go_wp2_with fail
    go_ret2
    exact ⟨by rw [HV.out]; rfl, hbb⟩
  have t0 : (X.toList == [117, 116, 102, 45, 56]) = false := listF HXX.out h0
  by_cases h1 : x = [117, 116, 102, 56]
  · have HV : Hid (knownV (kindOf x) = .tuple #[.string ⟨#[117, 116, 102, 45, 56]⟩, .bool true]) := hide (by rw [h1, show kindOf [117, 116, 102, 56] = 1 from by decide +kernel]; rfl)
    have t1 : (X.toList == [117, 116, 102, 56]) = true := listT HXX.out h1
    clear h0 h1
    go_enter Tryz.func201, Tryz.ntmps201
    go_wp2_with fail
    refine (trim_any s _ (by unfold maxLen; omega)).mono ?_
    rintro e w1 ⟨rfl, hb1⟩
    go_wp2_with fail
    refine (lower_any _ _ HSZ.out).mono ?_
    rintro e w2 ⟨rfl, hb2⟩
    rw [str_toList, show lowL (Lib.trimS s.data.toList whiteSet) = cleanL s.data.toList from rfl, HX.out]
    have hbb := hb1.trans (hb2.mono hb1.size)
    go_wp2_with fail
    go_ret2
    exact ⟨by rw [HV.out]; rfl, hbb⟩
  have t1 : (X.toList == [117, 116, 102, 56]) = false := listF HXX.out h1
  by_cases h2 : x = [117, 110, 105, 99, 111, 100, 101, 45, 49, 45, 49, 45, 117, 116, 102, 45, 56]
  · have HV : Hid (knownV (kindOf x) = .tuple #[.string ⟨#[117, 116, 102, 45, 56]⟩, .bool true]) := hide (by rw [h2, show kindOf [117, 110, 105, 99, 111, 100, 101, 45, 49, 45, 49, 45, 117, 116, 102, 45, 56] = 1 from by decide +kernel]; rfl)
    have t2 : (X.toList == [117, 110, 105, 99, 111, 100, 101, 45, 49, 45, 49, 45, 117, 116, 102, 45, 56]) = true := listT HXX.out h2
    clear h0 h1 h2
    go_enter Tryz.func201, Tryz.ntmps201
    go_wp2_with fail
    refine (trim_any s _ (by unfold maxLen; omega)).mono ?_
    rintro e w1 ⟨rfl, hb1⟩
    go_wp2_with fail
    refine (lower_any _ _ HSZ.out).mono ?_
    rintro e w2 ⟨rfl, hb2⟩
    rw [str_toList, show lowL (Lib.trimS s.data.toList whiteSet) = cleanL s.data.toList from rfl, HX.out]
    have hbb := hb1.trans (hb2.mono hb1.size)
    go_wp2_with fail
    go_ret2
    exact ⟨by rw [HV.out]; rfl, hbb⟩
  have t2 : (X.toList == [117, 110, 105, 99, 111, 100, 101, 45, 49, 45, 49, 45, 117, 116, 102, 45, 56]) = false := listF HXX.out h2
  by_cases h3 : x = [119, 105, 110, 100, 111, 119, 115, 45, 49, 50, 53, 50]
  · have HV : Hid (knownV (kindOf x) = .tuple #[.string ⟨#[119, 105, 110, 100, 111, 119, 115, 45, 49, 50, 53, 50]⟩, .bool true]) := hide (by rw [h3, show kindOf [119, 105, 110, 100, 111, 119, 115, 45, 49, 50, 53, 50] = 2 from by decide +kernel]; rfl)
    have t3 : (X.toList == [119, 105, 110, 100, 111, 119, 115, 45, 49, 50, 53, 50]) = true := listT HXX.out h3
    clear h0 h1 h2 h3
    go_enter Tryz.func201, Tryz.ntmps201
    go_wp2_with fail
    refine (trim_any s _ (by unfold maxLen; omega)).mono ?_
    rintro e w1 ⟨rfl, hb1⟩
    go_wp2_with fail
    refine (lower_any _ _ HSZ.out).mono ?_
    rintro e w2 ⟨rfl, hb2⟩
    rw [str_toList, show lowL (Lib.trimS s.data.toList whiteSet) = cleanL s.data.toList from rfl, HX.out]
    have hbb := hb1.trans (hb2.mono hb1.size)
    go_wp2_with fail
    go_ret2
    exact ⟨by rw [HV.out]; rfl, hbb⟩
  have t3 : (X.toList == [119, 105, 110, 100, 111, 119, 115, 45, 49, 50, 53, 50]) = false := listF HXX.out h3
  by_cases h4 : x = [99, 112, 49, 50, 53, 50]
  · have HV : Hid (knownV (kindOf x) = .tuple #[.string ⟨#[119, 105, 110, 100, 111, 119, 115, 45, 49, 50, 53, 50]⟩, .bool true]) := hide (by rw [h4, show kindOf [99, 112, 49, 50, 53, 50] = 2 from by decide +kernel]; rfl)
    have t4 : (X.toList == [99, 112, 49, 50, 53, 50]) = true := listT HXX.out h4
    clear h0 h1 h2 h3 h4
    go_enter Tryz.func201, Tryz.ntmps201
    go_wp2_with fail
    refine (trim_any s _ (by unfold maxLen; omega)).mono ?_
    rintro e w1 ⟨rfl, hb1⟩
    go_wp2_with fail
    refine (lower_any _ _ HSZ.out).mono ?_
    rintro e w2 ⟨rfl, hb2⟩
    rw [str_toList, show lowL (Lib.trimS s.data.toList whiteSet) = cleanL s.data.toList from rfl, HX.out]
    have hbb := hb1.trans (hb2.mono hb1.size)
    go_wp2_with fail
    go_ret2
    exact ⟨by rw [HV.out]; rfl, hbb⟩
  have t4 : (X.toList == [99, 112, 49, 50, 53, 50]) = false := listF HXX.out h4
  by_cases h5 : x = [117, 115, 45, 97, 115, 99, 105, 105]
  · have HV : Hid (knownV (kindOf x) = .tuple #[.string ⟨#[119, 105, 110, 100, 111, 119, 115, 45, 49, 50, 53, 50]⟩, .bool true]) := hide (by rw [h5, show kindOf [117, 115, 45, 97, 115, 99, 105, 105] = 2 from by decide +kernel]; rfl)
    have t5 : (X.toList == [117, 115, 45, 97, 115, 99, 105, 105]) = true := listT HXX.out h5
    clear h0 h1 h2 h3 h4 h5
    go_enter Tryz.func201, Tryz.ntmps201
    go_wp2_with fail
    refine (trim_any s _ (by unfold maxLen; omega)).mono ?_
    rintro e w1 ⟨rfl, hb1⟩
    go_wp2_with fail
    refine (lower_any _ _ HSZ.out).mono ?_
    rintro e w2 ⟨rfl, hb2⟩
    rw [str_toList, show lowL (Lib.trimS s.data.toList whiteSet) = cleanL s.data.toList from rfl, HX.out]
    have hbb := hb1.trans (hb2.mono hb1.size)
    go_wp2_with fail
    go_ret2
    exact ⟨by rw [HV.out]; rfl, hbb⟩
  have t5 : (X.toList == [117, 115, 45, 97, 115, 99, 105, 105]) = false := listF HXX.out h5
  by_cases h6 : x = [97, 115, 99, 105, 105]
  · have HV : Hid (knownV (kindOf x) = .tuple #[.string ⟨#[119, 105, 110, 100, 111, 119, 115, 45, 49, 50, 53, 50]⟩, .bool true]) := hide (by rw [h6, show kindOf [97, 115, 99, 105, 105] = 2 from by decide +kernel]; rfl)
    have t6 : (X.toList == [97, 115, 99, 105, 105]) = true := listT HXX.out h6
    clear h0 h1 h2 h3 h4 h5 h6
    go_enter Tryz.func201, Tryz.ntmps201
    go_wp2_with fail
    refine (trim_any s _ (by unfold maxLen; omega)).mono ?_
    rintro e w1 ⟨rfl, hb1⟩
    go_wp2_with fail
    refine (lower_any _ _ HSZ.out).mono ?_
    rintro e w2 ⟨rfl, hb2⟩
    rw [str_toList, show lowL (Lib.trimS s.data.toList whiteSet) = cleanL s.data.toList from rfl, HX.out]
    have hbb := hb1.trans (hb2.mono hb1.size)
    go_wp2_with fail
    go_ret2
    exact ⟨by rw [HV.out]; rfl, hbb⟩
  have t6 : (X.toList == [97, 115, 99, 105, 105]) = false := listF HXX.out h6
  by_cases h7 : x = [105, 115, 111, 45, 56, 56, 53, 57, 45, 49]
  · have HV : Hid (knownV (kindOf x) = .tuple #[.string ⟨#[119, 105, 110, 100, 111, 119, 115, 45, 49, 50, 53, 50]⟩, .bool true]) := hide (by rw [h7, show kindOf [105, 115, 111, 45, 56, 56, 53, 57, 45, 49] = 2 from by decide +kernel]; rfl)
    have t7 : (X.toList == [105, 115, 111, 45, 56, 56, 53, 57, 45, 49]) = true := listT HXX.out h7
    clear h0 h1 h2 h3 h4 h5 h6 h7
    go_enter Tryz.func201, Tryz.ntmps201
    go_wp2_with fail
    refine (trim_any s _ (by unfold maxLen; omega)).mono ?_
    rintro e w1 ⟨rfl, hb1⟩
    go_wp2_with fail
    refine (lower_any _ _ HSZ.out).mono ?_
    rintro e w2 ⟨rfl, hb2⟩
    rw [str_toList, show lowL (Lib.trimS s.data.toList whiteSet) = cleanL s.data.toList from rfl, HX.out]
    have hbb := hb1.trans (hb2.mono hb1.size)
    go_wp2_with fail
    go_ret2
    exact ⟨by rw [HV.out]; rfl, hbb⟩
  have t7 : (X.toList == [105, 115, 111, 45, 56, 56, 53, 57, 45, 49]) = false := listF HXX.out h7
  by_cases h8 : x = [105, 115, 111, 56, 56, 53, 57, 45, 49]
  · have HV : Hid (knownV (kindOf x) = .tuple #[.string ⟨#[119, 105, 110, 100, 111, 119, 115, 45, 49, 50, 53, 50]⟩, .bool true]) := hide (by rw [h8, show kindOf [105, 115, 111, 56, 56, 53, 57, 45, 49] = 2 from by decide +kernel]; rfl)
    have t8 : (X.toList == [105, 115, 111, 56, 56, 53, 57, 45, 49]) = true := listT HXX.out h8
    clear h0 h1 h2 h3 h4 h5 h6 h7 h8
    go_enter Tryz.func201, Tryz.ntmps201
    go_wp2_with fail
    refine (trim_any s _ (by unfold maxLen; omega)).mono ?_
    rintro e w1 ⟨rfl, hb1⟩
    go_wp2_with fail
    refine (lower_any _ _ HSZ.out).mono ?_
    rintro e w2 ⟨rfl, hb2⟩
    rw [str_toList, show lowL (Lib.trimS s.data.toList whiteSet) = cleanL s.data.toList from rfl, HX.out]
    have hbb := hb1.trans (hb2.mono hb1.size)
    go_wp2_with fail
    go_ret2
    exact ⟨by rw [HV.out]; rfl, hbb⟩
  have t8 : (X.toList == [105, 115, 111, 56, 56, 53, 57, 45, 49]) = false := listF HXX.out h8
  by_cases h9 : x = [108, 97, 116, 105, 110, 49]
  · have HV : Hid (knownV (kindOf x) = .tuple #[.string ⟨#[119, 105, 110, 100, 111, 119, 115, 45, 49, 50, 53, 50]⟩, .bool true]) := hide (by rw [h9, show kindOf [108, 97, 116, 105, 110, 49] = 2 from by decide +kernel]; rfl)
    have t9 : (X.toList == [108, 97, 116, 105, 110, 49]) = true := listT HXX.out h9
    clear h0 h1 h2 h3 h4 h5 h6 h7 h8 h9
    go_enter Tryz.func201, Tryz.ntmps201
    go_wp2_with fail
    refine (trim_any s _ (by unfold maxLen; omega)).mono ?_
    rintro e w1 ⟨rfl, hb1⟩
    go_wp2_with fail
    refine (lower_any _ _ HSZ.out).mono ?_
    rintro e w2 ⟨rfl, hb2⟩
    rw [str_toList, show lowL (Lib.trimS s.data.toList whiteSet) = cleanL s.data.toList from rfl, HX.out]
    have hbb := hb1.trans (hb2.mono hb1.size)
    go_wp2_with fail
    go_ret2
    exact ⟨by rw [HV.out]; rfl, hbb⟩
  have t9 : (X.toList == [108, 97, 116, 105, 110, 49]) = false := listF HXX.out h9
  by_cases h10 : x = [108, 49]
  · have HV : Hid (knownV (kindOf x) = .tuple #[.string ⟨#[119, 105, 110, 100, 111, 119, 115, 45, 49, 50, 53, 50]⟩, .bool true]) := hide (by rw [h10, show kindOf [108, 49] = 2 from by decide +kernel]; rfl)
    have t10 : (X.toList == [108, 49]) = true := listT HXX.out h10
    clear h0 h1 h2 h3 h4 h5 h6 h7 h8 h9 h10
    go_enter Tryz.func201, Tryz.ntmps201
    go_wp2_with fail
    refine (trim_any s _ (by unfold maxLen; omega)).mono ?_
    rintro e w1 ⟨rfl, hb1⟩
    go_wp2_with fail
    refine (lower_any _ _ HSZ.out).mono ?_
    rintro e w2 ⟨rfl, hb2⟩
    rw [str_toList, show lowL (Lib.trimS s.data.toList whiteSet) = cleanL s.data.toList from rfl, HX.out]
    have hbb := hb1.trans (hb2.mono hb1.size)
    go_wp2_with fail
    go_ret2
    exact ⟨by rw [HV.out]; rfl, hbb⟩
  have t10 : (X.toList == [108, 49]) = false := listF HXX.out h10
  by_cases h11 : x = [117, 116, 102, 45, 49, 54, 108, 101]
  · have HV : Hid (knownV (kindOf x) = .tuple #[.string ⟨#[117, 116, 102, 45, 49, 54, 108, 101]⟩, .bool true]) := hide (by rw [h11, show kindOf [117, 116, 102, 45, 49, 54, 108, 101] = 3 from by decide +kernel]; rfl)
    have t11 : (X.toList == [117, 116, 102, 45, 49, 54, 108, 101]) = true := listT HXX.out h11
    clear h0 h1 h2 h3 h4 h5 h6 h7 h8 h9 h10 h11
    go_enter Tryz.func201, Tryz.ntmps201
    go_wp2_with fail
    refine (trim_any s _ (by unfold maxLen; omega)).mono ?_
    rintro e w1 ⟨rfl, hb1⟩
    go_wp2_with fail
    refine (lower_any _ _ HSZ.out).mono ?_
    rintro e w2 ⟨rfl, hb2⟩
    rw [str_toList, show lowL (Lib.trimS s.data.toList whiteSet) = cleanL s.data.toList from rfl, HX.out]
    have hbb := hb1.trans (hb2.mono hb1.size)
    go_wp2_with fail
    go_ret2
    exact ⟨by rw [HV.out]; rfl, hbb⟩
  have t11 : (X.toList == [117, 116, 102, 45, 49, 54, 108, 101]) = false := listF HXX.out h11
  by_cases h12 : x = [117, 116, 102, 45, 49, 54]
  · have HV : Hid (knownV (kindOf x) = .tuple #[.string ⟨#[117, 116, 102, 45, 49, 54, 108, 101]⟩, .bool true]) := hide (by rw [h12, show kindOf [117, 116, 102, 45, 49, 54] = 3 from by decide +kernel]; rfl)
    have t12 : (X.toList == [117, 116, 102, 45, 49, 54]) = true := listT HXX.out h12
    clear h0 h1 h2 h3 h4 h5 h6 h7 h8 h9 h10 h11 h12
    go_enter Tryz.func201, Tryz.ntmps201
    go_wp2_with fail
    refine (trim_any s _ (by unfold maxLen; omega)).mono ?_
    rintro e w1 ⟨rfl, hb1⟩
    go_wp2_with fail
    refine (lower_any _ _ HSZ.out).mono ?_
    rintro e w2 ⟨rfl, hb2⟩
    rw [str_toList, show lowL (Lib.trimS s.data.toList whiteSet) = cleanL s.data.toList from rfl, HX.out]
    have hbb := hb1.trans (hb2.mono hb1.size)
    go_wp2_with fail
    go_ret2
    exact ⟨by rw [HV.out]; rfl, hbb⟩
  have t12 : (X.toList == [117, 116, 102, 45, 49, 54]) = false := listF HXX.out h12
  by_cases h13 : x = [117, 110, 105, 99, 111, 100, 101]
  · have HV : Hid (knownV (kindOf x) = .tuple #[.string ⟨#[117, 116, 102, 45, 49, 54, 108, 101]⟩, .bool true]) := hide (by rw [h13, show kindOf [117, 110, 105, 99, 111, 100, 101] = 3 from by decide +kernel]; rfl)
    have t13 : (X.toList == [117, 110, 105, 99, 111, 100, 101]) = true := listT HXX.out h13
    clear h0 h1 h2 h3 h4 h5 h6 h7 h8 h9 h10 h11 h12 h13
    go_enter Tryz.func201, Tryz.ntmps201
    go_wp2_with fail
    refine (trim_any s _ (by unfold maxLen; omega)).mono ?_
    rintro e w1 ⟨rfl, hb1⟩
    go_wp2_with fail
    refine (lower_any _ _ HSZ.out).mono ?_
    rintro e w2 ⟨rfl, hb2⟩
    rw [str_toList, show lowL (Lib.trimS s.data.toList whiteSet) = cleanL s.data.toList from rfl, HX.out]
    have hbb := hb1.trans (hb2.mono hb1.size)
    go_wp2_with fail
    go_ret2
    exact ⟨by rw [HV.out]; rfl, hbb⟩
  have t13 : (X.toList == [117, 110, 105, 99, 111, 100, 101]) = false := listF HXX.out h13
  by_cases h14 : x = [117, 99, 115, 45, 50]
  · have HV : Hid (knownV (kindOf x) = .tuple #[.string ⟨#[117, 116, 102, 45, 49, 54, 108, 101]⟩, .bool true]) := hide (by rw [h14, show kindOf [117, 99, 115, 45, 50] = 3 from by decide +kernel]; rfl)
    have t14 : (X.toList == [117, 99, 115, 45, 50]) = true := listT HXX.out h14
    clear h0 h1 h2 h3 h4 h5 h6 h7 h8 h9 h10 h11 h12 h13 h14
    go_enter Tryz.func201, Tryz.ntmps201
    go_wp2_with fail
    refine (trim_any s _ (by unfold maxLen; omega)).mono ?_
    rintro e w1 ⟨rfl, hb1⟩
    go_wp2_with fail
    refine (lower_any _ _ HSZ.out).mono ?_
    rintro e w2 ⟨rfl, hb2⟩
    rw [str_toList, show lowL (Lib.trimS s.data.toList whiteSet) = cleanL s.data.toList from rfl, HX.out]
    have hbb := hb1.trans (hb2.mono hb1.size)
    go_wp2_with fail
    go_ret2
    exact ⟨by rw [HV.out]; rfl, hbb⟩
  have t14 : (X.toList == [117, 99, 115, 45, 50]) = false := listF HXX.out h14
  by_cases h15 : x = [117, 116, 102, 45, 49, 54, 98, 101]
  · have HV : Hid (knownV (kindOf x) = .tuple #[.string ⟨#[117, 116, 102, 45, 49, 54, 98, 101]⟩, .bool true]) := hide (by rw [h15, show kindOf [117, 116, 102, 45, 49, 54, 98, 101] = 4 from by decide +kernel]; rfl)
    have t15 : (X.toList == [117, 116, 102, 45, 49, 54, 98, 101]) = true := listT HXX.out h15
    clear h0 h1 h2 h3 h4 h5 h6 h7 h8 h9 h10 h11 h12 h13 h14 h15
    go_enter Tryz.func201, Tryz.ntmps201
    go_wp2_with fail
    refine (trim_any s _ (by unfold maxLen; omega)).mono ?_
    rintro e w1 ⟨rfl, hb1⟩
    go_wp2_with fail
    refine (lower_any _ _ HSZ.out).mono ?_
    rintro e w2 ⟨rfl, hb2⟩
    rw [str_toList, show lowL (Lib.trimS s.data.toList whiteSet) = cleanL s.data.toList from rfl, HX.out]
    have hbb := hb1.trans (hb2.mono hb1.size)
    go_wp2_with fail
    go_ret2
    exact ⟨by rw [HV.out]; rfl, hbb⟩
  have t15 : (X.toList == [117, 116, 102, 45, 49, 54, 98, 101]) = false := listF HXX.out h15
  by_cases h16 : x = [117, 110, 105, 99, 111, 100, 101, 102, 102, 102, 101]
  · have HV : Hid (knownV (kindOf x) = .tuple #[.string ⟨#[117, 116, 102, 45, 49, 54, 98, 101]⟩, .bool true]) := hide (by rw [h16, show kindOf [117, 110, 105, 99, 111, 100, 101, 102, 102, 102, 101] = 4 from by decide +kernel]; rfl)
    have t16 : (X.toList == [117, 110, 105, 99, 111, 100, 101, 102, 102, 102, 101]) = true := listT HXX.out h16
    clear h0 h1 h2 h3 h4 h5 h6 h7 h8 h9 h10 h11 h12 h13 h14 h15 h16
    go_enter Tryz.func201, Tryz.ntmps201
    go_wp2_with fail
    refine (trim_any s _ (by unfold maxLen; omega)).mono ?_
    rintro e w1 ⟨rfl, hb1⟩
    go_wp2_with fail
    refine (lower_any _ _ HSZ.out).mono ?_
    rintro e w2 ⟨rfl, hb2⟩
    rw [str_toList, show lowL (Lib.trimS s.data.toList whiteSet) = cleanL s.data.toList from rfl, HX.out]
    have hbb := hb1.trans (hb2.mono hb1.size)
    go_wp2_with fail
    go_ret2
    exact ⟨by rw [HV.out]; rfl, hbb⟩
  have t16 : (X.toList == [117, 110, 105, 99, 111, 100, 101, 102, 102, 102, 101]) = false := listF HXX.out h16
  have HV : Hid (knownV (kindOf x) = .tuple #[.string ⟨#[]⟩, .bool false]) := hide (by
    rw [kind_none (x := x) (by
      intro y hy
      simp only [labels, List.mem_cons, List.mem_nil_iff, or_false] at hy
      rcases hy with rfl | rfl | rfl | rfl | rfl | rfl | rfl | rfl | rfl | rfl | rfl | rfl | rfl | rfl | rfl | rfl | rfl
      all_goals assumption)]
    rfl)
  clear h0 h1 h2 h3 h4 h5 h6 h7 h8 h9 h10 h11 h12 h13 h14 h15 h16
  go_enter Tryz.func201, Tryz.ntmps201
  go_wp2_with fail
  refine (trim_any s _ (by unfold maxLen; omega)).mono ?_
  rintro e w1 ⟨rfl, hb1⟩
  go_wp2_with fail
  refine (lower_any _ _ HSZ.out).mono ?_
  rintro e w2 ⟨rfl, hb2⟩
  rw [str_toList, show lowL (Lib.trimS s.data.toList whiteSet) = cleanL s.data.toList from rfl, HX.out]
  have hbb := hb1.trans (hb2.mono hb1.size)
  go_wp2_with fail
  go_ret2
  exact ⟨by rw [HV.out]; rfl, hbb⟩
end Go.Proofs.YtgokefodmjhhiaaGreatDoor

/- WALKS of chars.Valid, fromWindows, number, firstSign, fromPairs. No statement is proved here. -/
namespace Go.Proofs.YtgokefodmjhhiaaGreatDoor
open Go.RowKit
set_option linter.unusedVariables false
set_option linter.unusedSimpArgs false

set_option maxHeartbeats 1000000 in
theorem valid_any (s : ByteArray) (w : World) (hs : s.size ≤ 1048576) :
    Calls Tryz.prog 204 #[.string s] w fun e w' => e = .returned (.string (str (validL s.data.toList))) ∧ Below w.heap.size w w' := by
  go_enter Tryz.func204, Tryz.ntmps204
  go_wp2_with (refine wpList_buf_make rfl _ _ rfl w.heap.size w (Below.refl _ _) (Nat.le_refl _) s.size s.size rfl rfl rfl (by omega) ?_; intro v0 w0 hb0)
  have hbz := hb0.2.2
  have hit : (w0.iter s 0).heap[w0.heap.size]? = some (Obj.stringIter s 0) := heap_alloc_new w0 _
  go_loopw [3] (fun v wr => ∃ (pos : Nat) (acc : List UInt8), pos ≤ s.size ∧ wr.heap[w0.heap.size]? = some (Obj.stringIter s pos) ∧ Buf w.heap.size v acc w wr ∧ acc.length ≤ 3 * pos ∧ acc ++ validL (s.data.toList.drop pos) = validL s.data.toList) (fun _ wr => s.size - wr.iterPos w0.heap.size)
  case atStart => exact ⟨0, [], Nat.zero_le _, hit, hb0.alloc _, Nat.le_refl _, by simp⟩
  case round =>
    obtain ⟨pos, acc, hpos, hk, hb, hacc, hd⟩ := hrel
    have HB := hide hb
    have HK := hide hk
    clear hb hk
    by_cases hlt : pos < s.size
    · have hnx := fun ty => Lib.run_next_any_at (P := Tryz.prog) wr w0.heap.size s pos ty HK.out hlt
      have hne : s.data.toList.drop pos ≠ [] := by rw [drop_cons s pos hlt]; simp
      have hsp := decL_spec _ hne
      have hst := vStep_pos' _ hne
      have hR := valid_round hd hne
      rw [List.drop_drop] at hR
      rw [decode_decL s pos hlt] at hnx
      rw [List.length_drop, toList_length] at hst
      generalize decL (s.data.toList.drop pos) = dl at hnx hsp
      obtain ⟨r, n⟩ := dl
      simp only at hsp hnx
      rw [← hsp.1, ← hsp.2.1] at hR
      rw [← hsp.1, ← hsp.2.1] at hst
      have hr := hsp.2.2
      clear hsp
      obtain ⟨hn1, hn2, hn3, hn4⟩ := hst
      have HR := hide hR
      have HI := hide (Lib.iterAt_heap wr w0.heap.size s pos (pos + n) HK.out)
      have HB1 := hide (HB.out.iterAt HK.out (by omega) (pos + n))
      clear hR hd hne
      go_wp2_with fail
      refine (appendRune_any w.heap.size u3 acc w _ HB1.out (r : Int) (by omega) (by omega) (by omega)).mono ?_
      rintro e w1 ⟨v1, rfl, hb1, hi1⟩
      have HB2 := hide hb1
      have HI2 := hide (hi1 _ _ _ HI.out)
      clear hb1 hi1
      go_wp2_with fail
      go_roundw
      case rel => exact ⟨pos + n, acc ++ _, by omega, HI2.out, HB2.out, by rw [List.length_append]; omega, HR.out⟩
      case measure =>
        have e1 : World.iterPos w1 w0.heap.size = pos + n := by unfold World.iterPos; rw [HI2.out]
        have e2 : World.iterPos wr w0.heap.size = pos := by unfold World.iterPos; rw [HK.out]
        rw [e1, e2]; omega
    · have hnx := fun ty => Lib.run_next_end_at (P := Tryz.prog) wr w0.heap.size s pos ty HK.out hlt
      have hcv := HB.out.convert
      go_wp2
      go_ret
      refine ⟨?_, HB.out.below⟩
      rw [drop_nil s pos (by omega), validL_nil, List.append_nil] at hd
      exact ret_str (by rw [hd])

/-- the table in memory -/
def Tab (w : World) : Prop := ∀ j : Nat, j < 32 → w.cell? ⟨3, j, none⟩ = some (.int .i32 (winTab.getD j 0))
theorem Tab.lt {w : World} (h : Tab w) : 3 < w.heap.size := by
  have := h 0 (by omega)
  rcases Nat.lt_or_ge 3 w.heap.size with h1 | h1
  · exact h1
  · unfold World.cell? at this
    rw [Array.getElem?_eq_none h1] at this; cases this
theorem Tab.below {B : Nat} {w w' : World} (h : Tab w) (hb : Below B w w') (hB : 3 < B) : Tab w' := fun j hj => by
  rw [← h j hj]
  exact hb.cell (by exact hB)

set_option maxHeartbeats 1000000 in
theorem fromWindows_any (s : ByteArray) (w : World) (hs : s.size ≤ 1048576) (hT : Tab w) :
    Calls Tryz.prog 202 #[.string s] w fun e w' => e = .returned (.string (str (winL s.data.toList))) ∧ Below w.heap.size w w' := by
  have HT := hide hT
  have h0 := hT.lt
  clear hT
  go_enter Tryz.func202, Tryz.ntmps202
  go_wp2_with (refine wpList_buf_make rfl _ _ rfl w.heap.size w (Below.refl _ _) (Nat.le_refl _) s.size s.size rfl rfl rfl (by omega) ?_; intro v0 w0 hb0)
  go_loopw [3, 12] (fun v i wr => ∃ (k : Nat) (acc : List UInt8), k ≤ s.size ∧ i = .int .i64 k ∧ Buf w.heap.size v acc w wr ∧ acc.length ≤ 3 * k ∧ acc ++ winL (s.data.toList.drop k) = winL s.data.toList) (fun _ i _ => s.size - (intOf i).toNat)
  case atStart => exact ⟨0, [], Nat.zero_le _, rfl, hb0, Nat.le_refl _, by simp⟩
  case round =>
    obtain ⟨k, acc, hk, rfl, hb, hacc, hd⟩ := hrel
    have HB := hide hb
    clear hb
    by_cases hlt : k < s.size
    · rw [drop_cons s k hlt, winL_cons, ← List.append_assoc] at hd
      have HR := hide hd
      have hcase := winR_case s[k]
      have hl3 := winR_length s[k]
      have hrg := winR_range s[k]
      have hbl := byte_lt s[k]
      generalize hc : s[k] = c at hd hcase hl3 hrg hbl
      rw [hc] at HR
      clear hd
      rcases hcase with ⟨c1, e⟩ | ⟨c1, c2, e⟩ | ⟨c1, e⟩
      · rw [e] at HR hl3
        clear e
        go_wp2_with fail
        refine (appendRune_any w.heap.size u3 acc w wr HB.out c.toNat (by omega) (by omega) (by omega)).mono ?_
        rintro e w1 ⟨v1, rfl, hb1, _⟩
        have HB1 := hide hb1
        clear hb1
        go_wp2_with fail
        go_roundw
        case rel => exact ⟨k + 1, acc ++ _, by omega, by go_num, HB1.out, by rw [List.length_append]; omega, HR.out⟩
        case measure => simp [intOf]; omega
      · have hcell := (HT.out.below HB.out.below h0) (c.toNat - 128) (by omega)
        rw [← e] at hcell
        have q1 : ((c.toNat : Int) - 128).toNat = c.toNat - 128 := by omega
        generalize winR c = rr at HR hl3 hrg hcell e
        clear e
        go_wp2_with fail
        refine (appendRune_any w.heap.size u3 acc w wr HB.out rr (by omega) (by omega) (by omega)).mono ?_
        rintro e w1 ⟨v1, rfl, hb1, _⟩
        have HB1 := hide hb1
        clear hb1
        go_wp2_with fail
        go_roundw
        case rel => exact ⟨k + 1, acc ++ _, by omega, by go_num, HB1.out, by rw [List.length_append]; omega, HR.out⟩
        case measure => simp [intOf]; omega
      · rw [e] at HR hl3
        clear e
        go_wp2_with fail
        refine (appendRune_any w.heap.size u3 acc w wr HB.out c.toNat (by omega) (by omega) (by omega)).mono ?_
        rintro e w1 ⟨v1, rfl, hb1, _⟩
        have HB1 := hide hb1
        clear hb1
        go_wp2_with fail
        go_roundw
        case rel => exact ⟨k + 1, acc ++ _, by omega, by go_num, HB1.out, by rw [List.length_append]; omega, HR.out⟩
        case measure => simp [intOf]; omega
    · have hcv := HB.out.convert
      go_wp2
      go_ret
      refine ⟨?_, HB.out.below⟩
      rw [drop_nil s k (by omega)] at hd
      rw [show winL [] = [] from rfl, List.append_nil] at hd
      exact ret_str (by rw [hd])
end Go.Proofs.YtgokefodmjhhiaaGreatDoor

