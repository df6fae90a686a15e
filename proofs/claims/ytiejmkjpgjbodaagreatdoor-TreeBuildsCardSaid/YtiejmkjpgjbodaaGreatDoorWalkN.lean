import Derived.Test.YtiejmkjpgjbodaaGreatDoorWalkM
import Derived.Test.YtiejmkjpgjbodaaGreatDoorBaseN
import Derived.Deep.LoopGhost
import Derived.IntWalk
import Derived.BigRegion
namespace Go.Proofs.YtiejmkjpgjbodaaGreatDoor
open Go.RowKit
set_option linter.unusedVariables false
set_option linter.unusedSimpArgs false
set_option maxRecDepth 100000
def ndV (h : NdH) (av kv : Value) : Value := .agg #[.string (str h.name), av, .string (str h.text), kv]
def BegOK {σ : Type} (B Kb : Nat) (cb : Array Value) (Inv : σ → World → Prop) (bg : σ → NdH → Tr → σ) (dv : NdH → Bool) (μ : σ → Nat) (M : Nat) (G : NdH → Tr → Prop) : Prop :=
  ∀ (s : σ) (w : World) (h : NdH) (K : Tr) (av : Value) (A : Option Addr) (m c : Nat), Inv s w → B ≤ w.heap.size → G h K → AttrsC (fun b => b < B) w av h.attrs → NodesC (fun b => b < B) w (.slice A m c) K → μ (bg s h K) ≤ M →
    Calls Tryz.prog Kb (#[ndV h av (.slice A m c)] ++ cb) w fun e w' => e = .returned (if dv h = true then .slice A m c else .slice none 0 0) ∧ Inv (bg s h K) w' ∧ FrL B w w'
def EndOK {σ : Type} (B Ke : Nat) (ce : Array Value) (Inv : σ → World → Prop) (en : σ → NdH → σ) (μ : σ → Nat) (M : Nat) : Prop :=
  ∀ (s : σ) (w : World) (h : NdH) (K : Tr) (av kv : Value), Inv s w → B ≤ w.heap.size → AttrsC (fun b => b < B) w av h.attrs → NodesC (fun b => b < B) w kv K → μ (en s h) ≤ M →
    Calls Tryz.prog Ke (#[ndV h av kv] ++ ce) w fun e w' => e = .returned (.tuple #[]) ∧ Inv (en s h) w' ∧ FrL B w w'
def InvOK {σ : Type} (B : Nat) (Inv : σ → World → Prop) : Prop :=
  ∀ (s : σ) (w w' : World) (row : Option Nat), Inv s w → w.grownBy w' row → (∀ k, row = some k → B ≤ k ∧ ∃ cur, w.heap[k]? = some (Obj.cells cur 115 (0, 0))) → Inv s w'
def GoneS {σ : Type} (B : Nat) (Inv : σ → World → Prop) (bg : σ → NdH → Tr → σ) (en : σ → NdH → σ) (dv : NdH → Bool) (G : NdH → Tr → Prop) (F : σ) (gk : Nat) (r : Value) (W0 w : World) : Prop :=
  ∃ (st : List LevV) (s : σ), st ≠ [] ∧ LS B r st W0 w ∧ Inv s w ∧ unw bg en dv (st.map LevV.toP) s = F ∧ stepsW (st.map LevV.toP) ≤ gk ∧ gk ≤ 4000000 ∧ ∀ p ∈ st, p.R.ev G
theorem pushedL {σ : Type} {B : Nat} {Inv : σ → World → Prop} (hinv : InvOK B Inv) {g m cap : Nat} {st : List LevV} {w wr w3 w5 : World} {v' : Value} {s : σ} {q : LevV} {ob : Obj} {K : Tr} (hl : LS B (.slice (some ⟨g, 0, none⟩) m cap) st w w3) (hi : Inv s w3) (hbb : Below B wr w3)
    (h1 : NodesC (fun b => b < B) wr q.lv q.R) (h2 : AttrsC (fun b => b < B) wr q.av q.h.attrs) (h3 : NodesC (fun b => b < B) wr q.kv K) (ho : w5.ownsRow B 115 5 v' (st.length + 1) (levVals st.reverse ++ levVals [q])) (hg : (w3.alloc ob).grownBy w5 (Value.slice (some ⟨g, 0, none⟩) m cap).ownBlock) :
    LS B v' (q :: st) w w5 ∧ Inv s w5 := by
  have hbo := below_one w3 ob
  have hl4 := hl.kept hbo
  have hb4 : Below B wr (w3.alloc ob) := hbb.trans (hbo.mono hl.size)
  refine ⟨hl4.push (h1.mono (same_below hb4) (fun _ x => x)) ⟨h2.mono (same_below hb4) (fun _ x => x), K, h3.mono (same_below hb4) (fun _ x => x)⟩ ho hg, ?_⟩
  refine hinv s _ w5 _ (hinv s w3 _ none hi (World.grownBy_alloc w3 _ none) (fun k e => by cases e)) hg (fun k e => ?_)
  obtain rfl : g = k := by simpa [Value.ownBlock] using e
  exact hl4.lev
set_option maxHeartbeats 32000000 in
theorem walk_gen {σ : Type} (B Kb Ke : Nat) (cb ce : Array Value) (hKb : ∀ args w, (callFunc Kb args).run Tryz.prog w = .ok (.enter Kb args) w) (hKe : ∀ args w, (callFunc Ke args).run Tryz.prog w = .ok (.enter Ke args) w)
    (Inv : σ → World → Prop) (bg : σ → NdH → Tr → σ) (en : σ → NdH → σ) (dv : NdH → Bool) (μ : σ → Nat) (M : Nat) (G : NdH → Tr → Prop) (hmb : ∀ s h K, μ s ≤ μ (bg s h K)) (hme : ∀ s h, μ s ≤ μ (en s h))
    (hinv : InvOK B Inv) (hbeg : BegOK B Kb cb Inv bg dv μ M G) (hend : EndOK B Ke ce Inv en μ M)
    (v : Value) (T : Tr) (s0 : σ) (w : World) (hT : NodesC (fun b => b < B) w v T) (hG : T.ev G) (hc : T.count ≤ 1000000) (hM : μ (vis bg en dv T s0) ≤ M) (h0 : Inv s0 w) (hB : B ≤ w.heap.size) :
    Calls Tryz.prog 49 #[v, .func (.func Kb) #[] cb, .func (.func Ke) #[] ce] w fun e w' => e = .returned (.tuple #[]) ∧ Inv (vis bg en dv T s0) w' ∧ Below B w w' := by
  obtain ⟨F, hF⟩ : ∃ F, F = vis bg en dv T s0 := ⟨_, rfl⟩
  rw [← hF] at hM ⊢
  obtain ⟨VA, VC, hv⟩ := hT.form
  have hls : LS B (.slice (some ⟨w.heap.size, 0, none⟩) 1 1) [⟨⟨[], [], []⟩, .slice none 0 0, .slice none 0 0, v, T⟩] w (w.alloc (.cells #[.string ⟨#[]⟩, .slice none 0 0, .string ⟨#[]⟩, .slice none 0 0, v] 115)) := by
    have hb := (below_one w (Obj.cells #[.string ⟨#[]⟩, .slice none 0 0, .string ⟨#[]⟩, .slice none 0 0, v] 115)).mono hB
    refine ⟨World.ownsRow_lit (base := B) (e := 115) (size := 5) w #[.string ⟨#[]⟩, .slice none 0 0, .string ⟨#[]⟩, .slice none 0 0, v] 1 hB (by decide) rfl, fun p hp => ?_, fun p hp => ?_, hb, Nat.le_trans hB hb.size⟩
    · obtain rfl := List.mem_singleton.1 hp
      exact hT.mono (same_below hb) (fun _ x => x)
    · obtain rfl := List.mem_singleton.1 hp
      exact ⟨⟨.inl ⟨rfl, rfl⟩, fun a n c e => (by cases e)⟩, .nil, .inl ⟨rfl, rfl⟩⟩
  have hinv0 : Inv s0 (w.alloc (.cells #[.string ⟨#[]⟩, .slice none 0 0, .string ⟨#[]⟩, .slice none 0 0, v] 115)) := hinv s0 w _ none h0 (World.grownBy_alloc w _ none) (fun k e => by cases e)
  have HS : Hid (GoneS B Inv bg en dv G F (2 * T.count + 1) (.slice (some ⟨w.heap.size, 0, none⟩) 1 1) w (w.alloc (.cells #[.string ⟨#[]⟩, .slice none 0 0, .string ⟨#[]⟩, .slice none 0 0, v] 115))) :=
    hide ⟨_, s0, by simp, hls, hinv0, hF.symm, by simp [stepsW, LevV.toP], by omega, fun p hp => by obtain rfl := List.mem_singleton.1 hp; exact hG⟩
  have HINV := hide hinv
  have HBEG := hide hbeg
  have HEND := hide hend
  have HM := hide hM
  have HKB := hide hKb
  have HKE := hide hKe
  have HMB := hide (And.intro hmb hme)
  subst hv
  clear hinv hbeg hend hM hT hG hc h0 hF hls hinv0 hmb hme
  go_enter Tryz.func49, Tryz.ntmps49
  go_wp2_with fail
  go_loopg [6, 7, 8] (2 * T.count + 1) (fun gk r u7 u8 wr => Hid (GoneS B Inv bg en dv G F gk r w wr))
  case atStart => exact HS.out
  case round =>
    obtain ⟨st, s, hne, hl, hi, hu, hstep, hbig, hev⟩ := hrel.out
    match st, hne with
    | p :: rest, _ =>
    obtain ⟨g, cap, rfl, i1, i2, i3, i4⟩ := hl.form (by simp)
    have hl2 : LS B (.slice (some ⟨g, 0, none⟩) (rest.length + 1) cap) (p :: rest) w wr := hl
    have hlen : rest.length ≤ 4000000 := by
      have h1 := steps_len ((p :: rest).map LevV.toP)
      simp only [List.length_map, List.length_cons] at h1
      omega
    obtain ⟨e0, e1, e2, e3, e4, ef⟩ := hl2.cells
    have tn1 : wrap64 ((rest.length : Int) + 1 - 1) = (rest.length : Int) := by unfold wrap64; omega
    have tn5 : (rest.length : Int) < (rest.length : Int) + 1 := by omega
    have HI := hide hi
    have HCP := hide (And.intro i1 i2)
    have HEV := hide hev
    have hleft := hl2.left p (List.mem_cons_self ..)
    have HL := hide hl2
    have HHB := hide hbig
    have HST := hide hstep
    have HLN := hide hlen
    obtain ⟨AA, AC, hav⟩ := (hl2.node p (List.mem_cons_self ..)).1.1.form
    obtain ⟨KK, hKK⟩ := (hl2.node p (List.mem_cons_self ..)).2
    obtain ⟨KA, KC, hkv⟩ := hKK.form
    have HKK := hide hKK
    have HAV := hide hav
    have HKV := hide hkv
    rw [hav] at e1
    rw [hkv] at e3
    obtain ⟨LA, LC, hlv⟩ := hleft.form
    have HLV := hide hlv
    rw [hlv] at e4
    have hlv' := hlv
    clear hl hl2 hi i1 i2 i3 i4 hev hbig hstep hne hrel hKK hav hkv hlv hlen
    cases hR : p.R with
    | nil =>
      rw [hR] at e4
      have e4' : wr.cell? ⟨g, rest.length * 5 + 4, none⟩ = some (.slice LA 0 LC) := e4
      clear e4
      match rest, hu, HL, HI, HEV, HST, HLN, e0, e1, e2, e3, e4', tn1, tn5, HCP with
      | [], hu, HL, HI, HEV, HST, HLN, e0, e1, e2, e3, e4', tn1, tn5, HCP =>
        have hFs : s = F := by
          rw [← hu]
          show s = vis bg en dv p.R s
          rw [hR]; rfl
        have HE : Hid (Inv F wr ∧ Below B w wr) := hide ⟨by rw [← hFs]; exact HI.out, HL.out.below⟩
        clear hu hFs hR hleft
        simp only [List.length_nil, Nat.zero_mul, Nat.zero_add] at e0 e1 e2 e3 e4'
        clear tn1 tn5
        go_wp2_with fail
        try simp only [Exit.inBlock, Exit.then]
        refine bodyPost_ret (results_none rfl _ _ _) rfl ?_
        exact ⟨rfl, HE.out⟩
      | q :: rest, hu, HL, HI, HEV, HST, HLN, e0, e1, e2, e3, e4', tn1, tn5, HCP =>
        have hu2 : unw bg en dv ((q :: rest).map LevV.toP) (en s p.h) = F := by
          rw [← hu]
          show _ = unw bg en dv ((p.h, p.R) :: q.toP :: rest.map LevV.toP) s
          rw [hR]; rfl
        have hM2 : μ (en s p.h) ≤ M := Nat.le_trans (unw_mono bg en dv μ HMB.out.1 HMB.out.2 ((q :: rest).map LevV.toP) (en s p.h)) (by rw [hu2]; exact HM.out)
        have hen := HEND.out s wr p.h KK (.slice AA p.h.attrs.length AC) (.slice KA KK.len KC) HI.out HL.out.size (by rw [← HAV.out]; exact (HL.out.node p (List.mem_cons_self ..)).1) (by rw [← HKV.out]; exact HKK.out) hM2
        unfold ndV at hen
        have HEN := hide hen
        have HU2 := hide hu2
        obtain ⟨X0, hX0⟩ : ∃ X, X = str p.h.name := ⟨_, rfl⟩
        obtain ⟨X1, hX1⟩ : ∃ X, X = str p.h.text := ⟨_, rfl⟩
        simp only [List.length_cons] at e0 e1 e2 e3 e4' tn1 tn5
        rw [← hX0] at e0 HEN
        rw [← hX1] at e2 HEN
        have t8 : decide ((1 : Int) < (rest.length : Int) + 1 + 1) = true := decide_eq_true (by omega)
        have hln : rest.length + 1 ≤ 4000000 := by have := HLN.out; simp only [List.length_cons] at this; exact this
        clear hu hu2 hM2 hen hleft hR hX0 hX1 tn1 tn5
        have hsl1 : (0 : Int) ≤ (rest.length : Int) + 1 := by omega
        have hsl2 : (rest.length : Int) + 1 ≤ (cap : Int) := by have := HCP.out.1; simp only [List.length_cons] at this; omega
        have hsl3 : ((rest.length : Int) + 1).toNat = rest.length + 1 := by omega
        go_wp2_with fail
        refine HEN.out.mono ?_
        rintro e w1 ⟨rfl, hi1, hf1⟩
        have HI1 := hide hi1
        have HF1 := hide hf1
        clear hi1 hf1 e0 e1 e2 e3 e4'
        go_wp2_with fail
        cases gk with
        | zero => exact absurd HST.out (by simp only [List.map_cons, stepsW]; omega)
        | succ gk =>
        go_roundg gk
        case rel =>
          refine hide ⟨q :: rest, en s p.h, by simp, (LS.frame HL.out HF1.out).pop, HI1.out, HU2.out, ?_, by have := HHB.out; omega, fun x hx => HEV.out x (List.mem_cons_of_mem _ hx)⟩
          have h1 := HST.out
          simp only [List.map_cons, stepsW] at h1 ⊢
          omega
        case measure => omega
    | cons h K R =>
      rw [hR] at e4 hleft
      rw [hlv'] at hleft
      have hcapL := hleft.cap
      have HLVC := hide hcapL.2.2
      obtain ⟨a, rfl, hat, hcl⟩ : ∃ a, LA = some a ∧ NodesAt (fun b => b < B) wr (.cons h K R) a ∧ R.len + 1 ≤ LC := by
        rcases hleft with ⟨h1, h2⟩ | ⟨a, cp, h1, h2, h3, h4⟩
        · cases h2
        · injection h1 with e5 e6 e7
          subst e7
          exact ⟨a, e5, h4, h2⟩
      obtain ⟨n0, n1, n2, ⟨uA, n3, n4⟩, ⟨uK, n5, n6⟩, n7⟩ := hat
      obtain ⟨NA, NC, rfl⟩ := n4.1.form
      have n6' : NodesC (fun b => b < B) wr uK K := n6
      obtain ⟨MA, MC, rfl⟩ := n6'.form
      have hnl : ∀ ad : Addr, ({ block := a.block, off := a.off + 1 } : Addr) = a.add 1 ∧ ({ block := a.block, off := a.off + 2 } : Addr) = a.add 2 ∧ ({ block := a.block, off := a.off + 3 } : Addr) = a.add 3 := fun _ => ⟨rfl, rfl, rfl⟩
      have m1 : wr.cell? { block := a.block, off := a.off + 1 } = some (.slice NA h.attrs.length NC) := n3
      have m2 : wr.cell? { block := a.block, off := a.off + 2 } = some (.string (str h.text)) := n2
      have m3 : wr.cell? { block := a.block, off := a.off + 3 } = some (.slice MA K.len MC) := n5
      obtain ⟨X0, hX0⟩ : ∃ X, X = str h.name := ⟨_, rfl⟩
      obtain ⟨X1, hX1⟩ : ∃ X, X = str h.text := ⟨_, rfl⟩
      rw [← hX0] at n1
      rw [← hX1] at m2
      have HX := hide (And.intro hX0 hX1)
      have HNA := hide n4
      have HNK := hide n6'
      have hLg : g ≠ wr.heap.size := by
        have := World.block_lt_of_cell? _ _ e4
        exact Nat.ne_of_lt this
      have t4 : decide ((0 : Int) < (R.len : Int) + 1) = true := decide_eq_true (by omega)
      have e4' : wr.cell? ⟨g, rest.length * 5 + 4, none⟩ = some (.slice (some a) (R.len + 1) LC) := e4
      have hln : rest.length ≤ 4000000 := HLN.out
      have hrln : R.len ≤ 4000000 := by
        have h1 := HST.out
        have h2 := HHB.out
        simp only [List.map_cons, stepsW] at h1
        rw [show p.toP.2 = p.R from rfl, hR] at h1
        simp only [Tr.count] at h1
        have h3 := Tr.len_count R
        omega
      have hst2 : stepsW ((h, inner dv h K) :: (p.h, R) :: rest.map LevV.toP) + 1 ≤ gk := by
        have h1 := HST.out
        simp only [List.map_cons, stepsW] at h1
        rw [show p.toP.2 = p.R from rfl, hR] at h1
        simp only [Tr.count] at h1
        simp only [stepsW]
        have := inner_count dv h K
        omega
      have hu2 : unw bg en dv ((h, inner dv h K) :: (p.h, R) :: rest.map LevV.toP) (bg s h K) = F := by
        rw [← unw_visit, ← hu]
        show _ = unw bg en dv ((p.h, p.R) :: rest.map LevV.toP) s
        rw [hR]
      have hM2 : μ (bg s h K) ≤ M := Nat.le_trans (unw_mono bg en dv μ HMB.out.1 HMB.out.2 _ (bg s h K)) (by rw [hu2]; exact HM.out)
      obtain ⟨hGk, hGK, hGR⟩ : G h K ∧ K.ev G ∧ R.ev G := by
        have := HEV.out p (List.mem_cons_self ..)
        rw [hR] at this
        exact this
      have HU2 := hide hu2
      have HS2 := hide hst2
      have HM2 := hide hM2
      have HGG := hide (And.intro hGk (And.intro hGK hGR))
      clear hu hu2 hst2 hM2 hGk hGK hGR hR
      have e4a : ∀ ob, (wr.alloc ob).cell? ⟨g, rest.length * 5 + 4, none⟩ = some (.slice (some a) (R.len + 1) LC) := fun ob => ((below_one wr ob).cell (World.block_lt_of_cell? _ _ e4')).trans e4'
      have efa : ∀ ob i, (wr.alloc ob).frozen? ⟨g, i, none⟩ = false := fun ob i => ((below_one wr ob).frozen (p := ⟨g, i, none⟩) (show g < wr.heap.size from World.block_lt_of_cell? _ _ e4')).trans (ef i)
      clear e4 e0 e1 e2 e3 tn1 n0 n2 n3 n4 n5 n6 n6' hX0 hX1 hnl
      -- the node's box, and what is left
      have hbk := below_one wr (Obj.cells #[.string X0, .slice NA h.attrs.length NC, .string X1, .slice MA K.len MC] 33)
      have HL2 : Hid (∀ u, NodesC (fun b => b < B) wr u R → LS B (.slice (some ⟨g, 0, none⟩) (rest.length + 1) cap) ({ p with lv := u, R := R } :: rest) w ((wr.alloc (Obj.cells #[.string X0, .slice NA h.attrs.length NC, .string X1, .slice MA K.len MC] 33)).setCell ⟨g, rest.length * 5 + 4, none⟩ u) ∧ Inv s ((wr.alloc (Obj.cells #[.string X0, .slice NA h.attrs.length NC, .string X1, .slice MA K.len MC] 33)).setCell ⟨g, rest.length * 5 + 4, none⟩ u)) := hide fun u hu => by
        have hl3 := HL.out.kept hbk
        obtain ⟨k1, k2⟩ := hl3.putLeft u R (hu.mono (same_below (hbk.mono HL.out.size)) (fun _ x => x))
        refine ⟨k1, HINV.out s _ _ (some g) (HINV.out s wr _ none HI.out (World.grownBy_alloc wr _ none) (fun k e => by cases e)) k2 (fun k e => ?_)⟩
        injection e with e
        subst e
        exact hl3.lev
      have HBX : Hid (∀ u, ((wr.alloc (Obj.cells #[.string X0, .slice NA h.attrs.length NC, .string X1, .slice MA K.len MC] 33)).setCell ⟨g, rest.length * 5 + 4, none⟩ u).heap[wr.heap.size]? = some (Obj.cells #[.string X0, .slice NA h.attrs.length NC, .string X1, .slice MA K.len MC] 33 (0, 0))) := hide fun u =>
        (Below.heap_setCell _ ⟨g, rest.length * 5 + 4, none⟩ u wr.heap.size (fun e => hLg e.symm)).trans (heap_alloc_new wr _)
      have HBW : Hid (∀ u, Below B wr ((wr.alloc (Obj.cells #[.string X0, .slice NA h.attrs.length NC, .string X1, .slice MA K.len MC] 33)).setCell ⟨g, rest.length * 5 + 4, none⟩ u)) := hide fun u => (hbk.mono HL.out.size).setCell (p := ⟨g, rest.length * 5 + 4, none⟩) HL.out.lev.1 u
      obtain ⟨IA, IM, IC, hI1, hI2⟩ : ∃ A m c, (if dv h = true then Value.slice MA K.len MC else .slice none 0 0) = .slice A m c ∧ NodesC (fun b => b < B) wr (.slice A m c) (inner dv h K) := by
        unfold inner
        split
        · exact ⟨_, _, _, rfl, HNK.out⟩
        · exact ⟨_, _, _, rfl, .inl ⟨rfl, rfl⟩⟩
      have HI1 := hide hI1
      have HI2 := hide hI2
      have HN7 := hide n7
      have HC1 := hide hcl
      clear hbk hI1 hI2 n7 hcl hLg hleft hcapL
      by_cases hc1 : LC = 1
      · have hu : NodesC (fun b => b < B) wr (.slice (some a) 0 0) R := by
          cases R with
          | nil => exact .inr ⟨a, 0, rfl, Nat.le_refl _, Nat.zero_le _, trivial⟩
          | cons h' K' R' => have := HC1.out; simp only [Tr.len] at this; omega
        have hr0 : R.len = 0 := by have := HC1.out; omega
        have HUU := hide hu
        clear hu
        subst hc1
        go_wp2_with fail
        obtain ⟨hls2, hinv2⟩ := HL2.out (.slice (some a) 0 0) HUU.out
        have hbx2 := HBX.out (.slice (some a) 0 0)
        have hbw2 := HBW.out (.slice (some a) 0 0)
        clear e4a efa e4' n1 m1 m2 m3 t4
        generalize ((wr.alloc (Obj.cells #[.string X0, .slice NA h.attrs.length NC, .string X1, .slice MA K.len MC] 33)).setCell ⟨g, rest.length * 5 + 4, none⟩ (.slice (some a) 0 0)) = W2 at hls2 hinv2 hbx2 hbw2 ⊢
        have y0 : W2.cell? ⟨wr.heap.size, 0, none⟩ = some (.string X0) := by rw [Lib.cell_of_heap hbx2]; rfl
        have y1 : W2.cell? ⟨wr.heap.size, 1, none⟩ = some (.slice NA h.attrs.length NC) := by rw [Lib.cell_of_heap hbx2]; rfl
        have y2 : W2.cell? ⟨wr.heap.size, 2, none⟩ = some (.string X1) := by rw [Lib.cell_of_heap hbx2]; rfl
        have y3 : W2.cell? ⟨wr.heap.size, 3, none⟩ = some (.slice MA K.len MC) := by rw [Lib.cell_of_heap hbx2]; rfl
        have hbd : Below B wr W2.drew := hbw2.drew
        have hcall := HBEG.out s W2.drew h K (.slice NA h.attrs.length NC) MA K.len MC (HINV.out s W2 W2.drew none hinv2 ⟨rfl, rfl, rfl, Nat.le_refl _, fun _ _ _ => rfl⟩ (fun k e => by cases e)) hls2.size HGG.out.1 (HNA.out.mono (same_below hbd) (fun _ x => x)) (HNK.out.mono (same_below hbd) (fun _ x => x)) HM2.out
        unfold ndV at hcall
        rw [← HX.out.1, ← HX.out.2, HI1.out] at hcall
        have HCALL := hide hcall
        have HLS2 := hide (hls2.kept (w' := W2.drew) (Below.refl _ _).drew)
        have HBX2 := hide hbx2
        have HBD := hide hbd
        clear hcall hls2 hinv2 hbx2 hbw2 hbd
        go_region_law (first
          | (refine step_level rfl _ _ rfl B (.slice (some ⟨g, 0, none⟩) (rest.length + 1) cap) ({ p with lv := .slice (some a) 0 0, R := R } :: rest) rfl ?_ ?_ ⟨w3.heap.size, 0, none⟩ h NA MA IA h.attrs.length NC K.len MC IM IC (inner dv h K) rfl ((lev_row _ _ _ _ _ _).1.trans (by rw [HX.out.1])) (lev_row _ _ _ _ _ _).2.1 ((lev_row _ _ _ _ _ _).2.2.1.trans (by rw [HX.out.2])) (lev_row _ _ _ _ _ _).2.2.2.1 (lev_row _ _ _ _ _ _).2.2.2.2 (by have := HLN.out; simp only [List.length_cons]; omega) ?_
             · exact (HL3.out.kept (below_one w3 _)).row
             · exact Nat.le_trans HL3.out.size (below_one w3 _).size
             intro v' w5 ho2 hg2
             obtain ⟨hl5, hi5⟩ := pushedL (q := ⟨h, .slice NA h.attrs.length NC, .slice MA K.len MC, .slice IA IM IC, inner dv h K⟩) (K := K) HINV.out HL3.out HI3.out HB3.out HI2.out HNA.out HNK.out ho2 hg2
             obtain ⟨ao, n', c', rfl⟩ : ∃ ao n' c', v' = .slice ao n' c' := by
               rcases ho2.2 with ⟨hv, _⟩ | ⟨g0, c0, cur, hv, _⟩
               · exact ⟨_, _, _, hv⟩
               · exact ⟨_, _, _, hv⟩
             have HL5 := hide hl5
             have HI5 := hide hi5
             clear ho2 hg2 hl5 hi5)
          | (go_simp; (with_reducible refine HCALL.out.mono ?_); rintro e w3 ⟨rfl, hi3, hf3⟩; have hb3 := (hf3.2 wr.heap.size _ _ _ HBX2.out (.inr rfl)).trans HBX2.out; have z0 : w3.cell? ⟨wr.heap.size, 0, none⟩ = some (.string X0) := (Lib.cell_of_heap hb3 0).trans rfl; have z1 : w3.cell? ⟨wr.heap.size, 1, none⟩ = some (.slice NA h.attrs.length NC) := (Lib.cell_of_heap hb3 1).trans rfl; have z2 : w3.cell? ⟨wr.heap.size, 2, none⟩ = some (.string X1) := (Lib.cell_of_heap hb3 2).trans rfl; have z3 : w3.cell? ⟨wr.heap.size, 3, none⟩ = some (.slice MA K.len MC) := (Lib.cell_of_heap hb3 3).trans rfl; have HI3 := hide hi3; have HL3 := hide (HLS2.out.frame hf3); have HB3 := hide (HBD.out.trans hf3.1); clear hi3 hf3 hb3))
        all_goals
          go_wp2_with fail
          cases gk with
          | zero => exact absurd HS2.out (Nat.not_succ_le_zero _)
          | succ gk =>
          go_roundg gk
          case rel =>
            refine hide ⟨_, bg s h K, by simp, HL5.out, HI5.out, HU2.out, Nat.le_of_succ_le_succ HS2.out, by have := HHB.out; omega, fun x hx => ?_⟩
            rcases List.mem_cons.1 hx with rfl | hx
            · exact inner_ev dv HGG.out.2.1
            · rcases List.mem_cons.1 hx with rfl | hx
              · exact HGG.out.2.2
              · exact HEV.out x (List.mem_cons_of_mem _ hx)
          case measure => omega
      · have hu : NodesC (fun b => b < B) wr (.slice (some { block := a.block, off := a.off + 4 }) R.len (LC - 1)) R := .inr ⟨a.add 4, LC - 1, rfl, by have := HC1.out; omega, by have := HCP.out.2; have := HLVC.out; omega, HN7.out⟩
        have HUU := hide hu
        clear hu
        go_wp2_with fail
        obtain ⟨hls2, hinv2⟩ := HL2.out (.slice (some { block := a.block, off := a.off + 4 }) R.len (LC - 1)) HUU.out
        have hbx2 := HBX.out (.slice (some { block := a.block, off := a.off + 4 }) R.len (LC - 1))
        have hbw2 := HBW.out (.slice (some { block := a.block, off := a.off + 4 }) R.len (LC - 1))
        clear e4a efa e4' n1 m1 m2 m3 t4
        generalize ((wr.alloc (Obj.cells #[.string X0, .slice NA h.attrs.length NC, .string X1, .slice MA K.len MC] 33)).setCell ⟨g, rest.length * 5 + 4, none⟩ (.slice (some { block := a.block, off := a.off + 4 }) R.len (LC - 1))) = W2 at hls2 hinv2 hbx2 hbw2 ⊢
        have y0 : W2.cell? ⟨wr.heap.size, 0, none⟩ = some (.string X0) := by rw [Lib.cell_of_heap hbx2]; rfl
        have y1 : W2.cell? ⟨wr.heap.size, 1, none⟩ = some (.slice NA h.attrs.length NC) := by rw [Lib.cell_of_heap hbx2]; rfl
        have y2 : W2.cell? ⟨wr.heap.size, 2, none⟩ = some (.string X1) := by rw [Lib.cell_of_heap hbx2]; rfl
        have y3 : W2.cell? ⟨wr.heap.size, 3, none⟩ = some (.slice MA K.len MC) := by rw [Lib.cell_of_heap hbx2]; rfl
        have hbd : Below B wr W2.drew := hbw2.drew
        have hcall := HBEG.out s W2.drew h K (.slice NA h.attrs.length NC) MA K.len MC (HINV.out s W2 W2.drew none hinv2 ⟨rfl, rfl, rfl, Nat.le_refl _, fun _ _ _ => rfl⟩ (fun k e => by cases e)) hls2.size HGG.out.1 (HNA.out.mono (same_below hbd) (fun _ x => x)) (HNK.out.mono (same_below hbd) (fun _ x => x)) HM2.out
        unfold ndV at hcall
        rw [← HX.out.1, ← HX.out.2, HI1.out] at hcall
        have HCALL := hide hcall
        have HLS2 := hide (hls2.kept (w' := W2.drew) (Below.refl _ _).drew)
        have HBX2 := hide hbx2
        have HBD := hide hbd
        clear hcall hls2 hinv2 hbx2 hbw2 hbd
        go_region_law (first
          | (refine step_level rfl _ _ rfl B (.slice (some ⟨g, 0, none⟩) (rest.length + 1) cap) ({ p with lv := .slice (some { block := a.block, off := a.off + 4 }) R.len (LC - 1), R := R } :: rest) rfl ?_ ?_ ⟨w3.heap.size, 0, none⟩ h NA MA IA h.attrs.length NC K.len MC IM IC (inner dv h K) rfl ((lev_row _ _ _ _ _ _).1.trans (by rw [HX.out.1])) (lev_row _ _ _ _ _ _).2.1 ((lev_row _ _ _ _ _ _).2.2.1.trans (by rw [HX.out.2])) (lev_row _ _ _ _ _ _).2.2.2.1 (lev_row _ _ _ _ _ _).2.2.2.2 (by have := HLN.out; simp only [List.length_cons]; omega) ?_
             · exact (HL3.out.kept (below_one w3 _)).row
             · exact Nat.le_trans HL3.out.size (below_one w3 _).size
             intro v' w5 ho2 hg2
             obtain ⟨hl5, hi5⟩ := pushedL (q := ⟨h, .slice NA h.attrs.length NC, .slice MA K.len MC, .slice IA IM IC, inner dv h K⟩) (K := K) HINV.out HL3.out HI3.out HB3.out HI2.out HNA.out HNK.out ho2 hg2
             obtain ⟨ao, n', c', rfl⟩ : ∃ ao n' c', v' = .slice ao n' c' := by
               rcases ho2.2 with ⟨hv, _⟩ | ⟨g0, c0, cur, hv, _⟩
               · exact ⟨_, _, _, hv⟩
               · exact ⟨_, _, _, hv⟩
             have HL5 := hide hl5
             have HI5 := hide hi5
             clear ho2 hg2 hl5 hi5)
          | (go_simp; (with_reducible refine HCALL.out.mono ?_); rintro e w3 ⟨rfl, hi3, hf3⟩; have hb3 := (hf3.2 wr.heap.size _ _ _ HBX2.out (.inr rfl)).trans HBX2.out; have z0 : w3.cell? ⟨wr.heap.size, 0, none⟩ = some (.string X0) := (Lib.cell_of_heap hb3 0).trans rfl; have z1 : w3.cell? ⟨wr.heap.size, 1, none⟩ = some (.slice NA h.attrs.length NC) := (Lib.cell_of_heap hb3 1).trans rfl; have z2 : w3.cell? ⟨wr.heap.size, 2, none⟩ = some (.string X1) := (Lib.cell_of_heap hb3 2).trans rfl; have z3 : w3.cell? ⟨wr.heap.size, 3, none⟩ = some (.slice MA K.len MC) := (Lib.cell_of_heap hb3 3).trans rfl; have HI3 := hide hi3; have HL3 := hide (HLS2.out.frame hf3); have HB3 := hide (HBD.out.trans hf3.1); clear hi3 hf3 hb3))
        all_goals
          go_wp2_with fail
          cases gk with
          | zero => exact absurd HS2.out (Nat.not_succ_le_zero _)
          | succ gk =>
          go_roundg gk
          case rel =>
            refine hide ⟨_, bg s h K, by simp, HL5.out, HI5.out, HU2.out, Nat.le_of_succ_le_succ HS2.out, by have := HHB.out; omega, fun x hx => ?_⟩
            rcases List.mem_cons.1 hx with rfl | hx
            · exact inner_ev dv HGG.out.2.1
            · rcases List.mem_cons.1 hx with rfl | hx
              · exact HGG.out.2.2
              · exact HEV.out x (List.mem_cons_of_mem _ hx)
          case measure => omega
end Go.Proofs.YtiejmkjpgjbodaaGreatDoor
