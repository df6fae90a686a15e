/- WALK of param.Parse. No statement is proved here. -/
import Derived.Test.YtienjpelmbldpaaGreatDoorParJ
import Derived.Test.YtienjpelmbldpaaGreatDoorPBuf
namespace Go.Proofs.YtienjpelmbldpaaGreatDoor
open Go.RowKit
set_option linter.unusedVariables false
set_option linter.unusedSimpArgs false
set_option maxRecDepth 100000
/-- the first section that is not there -/
def firstNo (f : ValF) (name : List UInt8) : Nat → Nat → Nat
  | 0, n => n
  | k + 1, n => if (secL f name n).isNone = true then n else firstNo f name k (n + 1)
def nSec (f : ValF) (name : List UInt8) : Nat := firstNo f name 1000000 0
def valN (f : ValF) (name : List UInt8) : Option (List UInt8) := valL f name (nSec f name)
def outL (f : ValF) (names : List (List UInt8)) : List ParL := names.filterMap fun nm => (valN f nm).map fun v => (nm, v)
theorem outL_step (f : ValF) (l : List (List UInt8)) (k : Nat) (x : List UInt8) (h : l[k]? = some x) : outL f (l.take (k + 1)) = outL f (l.take k) ++ (match valN f x with | some v => [(x, v)] | none => []) := by
  unfold outL
  rw [List.take_add_one, h, List.filterMap_append]
  cases hv : valN f x <;> simp [hv]
/-- what Parse reads -/
def parsP (s : List UInt8) : List UInt8 × List ParL := (tsL ((pcL [] s).headD []), outL (rawsL (pcL [] s).tail).2.1 (rawsL (pcL [] s).tail).1)
theorem PBuf.lower {B B' : Nat} {v : Value} {l : List ParL} {W0 W1 w : World} (h : PBuf B v l W1 w) (hB : B' ≤ B) (hb : Below B' W0 W1) : PBuf B' v l W0 w := by
  obtain ⟨⟨h1, h2⟩, h3, h4⟩ := h
  refine ⟨⟨h1, ?_⟩, hb.trans (h3.mono hB), Nat.le_trans hB h4⟩
  rcases h2 with h2 | ⟨g, cap, cur, e, hg, rest⟩
  · exact .inl h2
  · exact .inr ⟨g, cap, cur, e, Nat.le_trans hB hg, rest⟩
structure ParOK (f : ValF) (names : List (List UInt8)) : Prop where
  sec : ∀ nm ∈ names, SecOK f nm (nSec f nm)
  val : ∀ k x, f k = some x → x.length ≤ 1048576
  nam : ∀ nm ∈ names, nm.length ≤ 1048576
set_option maxHeartbeats 8000000 in
theorem parse07_any (s : ByteArray) (w : World) (hs : s.size ≤ 200000) (hE : EnvP w) (hOK : ParOK (rawsL (pcL [] s.data.toList).tail).2.1 (rawsL (pcL [] s.data.toList).tail).1) (hpz : ∀ p ∈ pcL [] s.data.toList, p.length ≤ 1048576) :
    Calls Tryz.prog 10 #[.string s] w fun e w' => ∃ v, e = .returned (.tuple #[.string (str (parsP s.data.toList).1), v]) ∧ PBuf w.heap.size v (parsP s.data.toList).2 w w' := by
  have HP := hide (pieces_any s w (by omega))
  have HE := hide hE
  have HOK := hide hOK
  have HPZ := hide hpz
  have HPP : Hid (parsP s.data.toList = (tsL ((pcL [] s.data.toList).headD []), outL (rawsL (pcL [] s.data.toList).tail).2.1 (rawsL (pcL [] s.data.toList).tail).1)) := hide rfl
  clear hE hOK hpz
  go_enter Tryz.func10, Tryz.ntmps10
  go_wp2_with fail
  refine HP.out.mono ?_
  rintro e w1 ⟨v1, ps, rfl, hb1, hps, hl1, hl2⟩
  rcases hb1.form with ⟨_, hnil⟩ | ⟨g, cap, rfl, hc1, hc2, hg1, hg2, hcells⟩
  · rw [hnil] at hl1; exact absurd hl1 (by decide)
  obtain ⟨p0, pt, rfl⟩ : ∃ p0 pt, ps = p0 :: pt := by
    cases ps with
    | nil => exact absurd hl1 (by decide)
    | cons a b => exact ⟨a, b, rfl⟩
  have hpt : (pcL [] s.data.toList).tail = pt.map (fun x => x.data.toList) := by rw [← hps]; rfl
  have hp0 : (pcL [] s.data.toList).headD [] = p0.data.toList := by rw [← hps]; rfl
  have hz0 : p0.size ≤ 1048576 := by rw [← toList_length]; exact HPZ.out _ (by rw [← hps]; simp)
  rw [hpt, hp0] at HPP
  rw [hpt] at HOK
  have cell0 : w1.cell? ⟨g, 0, none⟩ = some (.string p0) := by have := hcells 0 p0 rfl; simpa using this
  have HE1 := HE.out.kept hb1.below
  have hcap1 : 1 ≤ cap := by simp only [List.length_cons] at hc1; omega
  have HRR : Hid (∃ o cp : Nat, (cap = 1 → o = 0 ∧ cp = 0) ∧ (cap ≠ 1 → o = 1 ∧ cp = cap - 1) ∧ Calls Tryz.prog 20 #[.slice (some ⟨g, o, none⟩) pt.length cp] w1 fun e w' => ∃ (v : Value) (bm : Nat) (ns : List ByteArray) (n : Nat), e = .returned (.agg #[v, .map (some bm)]) ∧ Below w1.heap.size w1 w' ∧ SBuf w1.heap.size v ns w1 w' ∧ TMap w' bm n (rawsL (pt.map fun x => x.data.toList)).2.1 ∧ ns.map (fun x => x.data.toList) = (rawsL (pt.map fun x => x.data.toList)).1 ∧ ns.length ≤ 3 * pt.length ∧ n ≤ 3 * pt.length) := hide (by
    have hpl : pt.length ≤ 300000 := by simp at hl2; omega
    have hpsz : ∀ p ∈ pt, p.size ≤ 1048576 := fun p hp => by
      rw [← toList_length]
      exact HPZ.out _ (by rw [← hps]; exact List.mem_map.2 ⟨p, List.mem_cons_of_mem _ hp, rfl⟩)
    by_cases h1 : cap = 1
    · refine ⟨0, 0, fun _ => ⟨rfl, rfl⟩, fun e => absurd h1 e, readRaws_any g 0 0 pt w1 HE1 (fun j hj => ?_) hpl hpsz⟩
      simp only [List.length_cons] at hc1; omega
    · refine ⟨1, cap - 1, fun e => absurd e h1, fun _ => ⟨rfl, rfl⟩, readRaws_any g 1 (cap - 1) pt w1 HE1 (fun j hj => ?_) hpl hpsz⟩
      have := hcells (j + 1) pt[j] (by simp [hj])
      rw [show 1 + j = 0 + (j + 1) by omega]; exact this)
  have HNPT : Hid (3 * pt.length ≤ 1000000) := hide (by simp at hl2; omega)
  have k1 : (1 : Int) ≤ ((p0 :: pt).length : Int) := by simp only [List.length_cons]; omega
  have k2 : ((p0 :: pt).length : Int) ≤ cap := by omega
  obtain ⟨o, cp, hq1, hq2, hRR⟩ := HRR.out
  have HRR2 := hide hRR
  have HB1 := hide hb1
  clear hb1 hps hl1 hc1 hc2 hcells hpt hp0 hRR HRR
  have hcc : (cap = 1 ∧ o = 0 ∧ cp = 0) ∨ (2 ≤ cap ∧ o = 1 ∧ cp = cap - 1) := by
    by_cases h : cap = 1
    · exact .inl ⟨h, hq1 h⟩
    · exact .inr ⟨by omega, hq2 h⟩
  clear hq1 hq2
  have hcc2 : (cap = 1 ∧ o = 0 ∧ cp = 0) ∨ ((2 : Int) ≤ cap ∧ o = 1 ∧ cp = cap - 1) := by
    rcases hcc with h | ⟨h, r⟩
    · exact .inl h
    · exact .inr ⟨by omega, r⟩
  clear hcc
  have HCELL0 := hide cell0
  have HTS := hide (fun (w : World) => trimSmall_any p0 w hz0)
  obtain ⟨T0, hT0⟩ : ∃ T0, T0 = str (tsL p0.data.toList) := ⟨_, rfl⟩
  rw [← hT0] at HTS
  have HT0 := hide hT0
  clear hT0
  obtain ⟨f, hf⟩ : ∃ f, f = (rawsL (pt.map fun x => x.data.toList)).2.1 := ⟨_, rfl⟩
  obtain ⟨nm0, hnm0⟩ : ∃ x, x = (rawsL (pt.map fun x => x.data.toList)).1 := ⟨_, rfl⟩
  rw [← hf, ← hnm0] at HPP HOK HRR2
  have HE1' := hide HE1
  clear hf hnm0 HE1
  rcases hcc2 with ⟨rfl, rfl, rfl⟩ | ⟨h2, rfl, rfl⟩
  all_goals
    go_wp2_with fail
    refine HRR2.out.mono ?_
    rintro e w2 ⟨v2, bm, ns, n, rfl, hb2, hsb2, htm2, hnm2, hnl2, _⟩
    have hform := hsb2.form
    obtain ⟨A2, c2, rfl⟩ := hsb2.slice_len
    obtain ⟨W, hW⟩ : ∃ W, W = w2.alloc (.cells #[.slice A2 ns.length c2, .map (some bm)] 43) := ⟨_, rfl⟩
    have hWz : W.heap.size = w2.heap.size + 1 := by rw [hW]; exact World.size_alloc ..
    have hWb : Below w2.heap.size w2 W := by rw [hW]; exact (Below.refl _ w2).alloc (Nat.le_refl _) _
    have d0 : W.cell? ⟨w2.heap.size, 0, none⟩ = some (.slice A2 ns.length c2) := by rw [hW, World.cell?_alloc_at _ _ _ _ rfl]; rfl
    have d1 : W.cell? ⟨w2.heap.size, 1, none⟩ = some (.map (some bm)) := by rw [hW, World.cell?_alloc_at _ _ _ _ rfl]; rfl
    have hw1 := HB1.out.below
    have HEW := hide ((HE1'.out.kept hb2).kept hWb)
    have HMW := hide (htm2.kept hWb)
    have HWW : Hid (Below w.heap.size w W) := hide ((hw1.trans (hb2.mono hw1.size)).trans (hWb.mono (Nat.le_trans hw1.size hb2.size)))
    have HC0 : Hid (W.cell? ⟨g, 0, none⟩ = some (.string p0)) := hide ((hWb.cell (p := ⟨g, 0, none⟩) (Nat.lt_of_lt_of_le hg2 hb2.size)).trans ((hb2.cell (p := ⟨g, 0, none⟩) hg2).trans HCELL0.out))
    have HGW : Hid (g < W.heap.size) := hide (by rw [hWz]; exact Nat.lt_succ_of_lt (Nat.lt_of_lt_of_le hg2 hb2.size))
    have HNS : Hid (∀ j (h : j < ns.length), ∃ g3, A2 = some ⟨g3, 0, none⟩ ∧ g3 < W.heap.size ∧ W.cell? ⟨g3, j, none⟩ = some (.string ns[j])) := hide (fun j hj => by
      rcases hform with ⟨_, hn⟩ | ⟨g3, cap3, he, _, _, _, hl3, hcl⟩
      · rw [hn] at hj; exact absurd hj (Nat.not_lt_zero _)
      · injection he with he _ _
        refine ⟨g3, he, by rw [hWz]; exact Nat.lt_succ_of_lt hl3, ?_⟩
        have := hcl j ns[j] (List.getElem?_eq_getElem hj)
        rw [Nat.zero_add] at this
        exact (hWb.cell (p := ⟨g3, j, none⟩) hl3).trans this)
    have HD := hide (And.intro d0 d1)
    have HWZ := hide hWz
    have HNM := hide hnm2
    have HPB0 : Hid (PBuf W.heap.size (.slice none 0 0) [] W W) := hide (PBuf.nil (Below.refl _ _) (Nat.le_refl _))
    have HNL : Hid (ns.length ≤ 1000000) := hide (by have := HNPT.out; omega)
    clear hb2 hsb2 htm2 hnm2 hnl2 hform d0 d1 hw1 hWb hWz
    go_wp2_with fail
    rw [← hW]
    clear hW
    go_loopw [6, 19] (fun ov iv wr => ∃ (k : Nat) (L : List ParL), k ≤ ns.length ∧ iv = .int .i64 k ∧ Hid (PBuf W.heap.size ov L W wr) ∧ Hid (L = outL f (nm0.take k)) ∧ Hid (L.length ≤ k)) (fun _ iv _ => ns.length - (intOf iv).toNat)
    case atStart => exact ⟨0, [], Nat.zero_le _, rfl, HPB0, hide rfl, hide (Nat.le_refl _)⟩
    case round =>
      obtain ⟨k, L, hk, rfl, HB, HL, HLL⟩ := hrel
      have hBw := HB.out.below
      have c0 := (hBw.cell (p := ⟨w2.heap.size, 0, none⟩) (show w2.heap.size < W.heap.size by rw [HWZ.out]; omega)).trans HD.out.1
      have c1 := (hBw.cell (p := ⟨w2.heap.size, 1, none⟩) (show w2.heap.size < W.heap.size by rw [HWZ.out]; omega)).trans HD.out.2
      have cg := (hBw.cell (p := ⟨g, 0, none⟩) HGW.out).trans HC0.out
      have HBW := hide (HMW.out.kept hBw)
      have HEQ := hide (HEW.out.kept hBw)
      by_cases hlt : k < ns.length
      · have HLT := hide hlt
        have hk6 : k < 1000000 := by have := HNL.out; omega
        obtain ⟨g3, rfl, hg3, hcell⟩ := HNS.out k hlt
        have ck := (hBw.cell (p := ⟨g3, k, none⟩) hg3).trans hcell
        have hkn : nm0[k]? = some (ns[k]'hlt).data.toList := by rw [← HNM.out]; simp [hlt]
        have hmem : (ns[k]'hlt).data.toList ∈ nm0 := List.mem_of_getElem? hkn
        have hnz : (ns[k]'hlt).size ≤ 1048576 := by rw [← toList_length]; exact HOK.out.nam _ hmem
        have HV := hide (fun (w : World) (h1 : TMap w bm n f) (h2 : EnvP w) => value07_any (.slice (some ⟨g3, 0, none⟩) ns.length c2) bm n f (ns[k]'hlt) w h1 h2 hnz HOK.out.val _ _ _ rfl _ (HOK.out.sec _ hmem))
        have htk := outL_step f nm0 k (ns[k]'hlt).data.toList hkn
        have hvn : valL f (ns[k]'hlt).data.toList (nSec f (ns[k]'hlt).data.toList) = valN f (ns[k]'hlt).data.toList := rfl
        rw [hvn] at HV
        obtain ⟨NK, hNK⟩ : ∃ NK, NK = ns[k]'hlt := ⟨_, rfl⟩
        rw [← hNK] at ck HV htk
        cases hv : valN f NK.data.toList with
        | none =>
          rw [hv] at HV htk
          simp only [optV] at HV
          have HLN : Hid (L = outL f (nm0.take (k + 1))) := hide (by rw [htk, ← HL.out]; simp)
          clear hv htk hvn hkn hmem hcell hnz hNK hg3
          go_wp2_with (go_at_call 21; refine (HV.out _ HBW.out HEQ.out).mono ?_; rintro e w5 ⟨rfl, hb5⟩; have HB5 := hide (HB.out.kept hb5); clear hb5)
          go_roundw
          case rel => exact ⟨k + 1, L, HLT.out, by go_num, HB5, HLN, hide (by have := HLL.out; omega)⟩
          case measure => simp [intOf]; have := HLT.out; omega
        | some v =>
          rw [hv] at HV htk
          simp only [optV] at HV
          obtain ⟨V, hV⟩ : ∃ V, V = str v := ⟨_, rfl⟩
          rw [← hV] at HV
          have HLN : Hid (L ++ [(NK.data.toList, v)] = outL f (nm0.take (k + 1))) := hide (by rw [htk, ← HL.out])
          have HSN : Hid (NK = str NK.data.toList) := hide (str_of NK).symm
          have HSV := hide hV
          clear hv htk hvn hkn hmem hcell hnz hNK hg3 hV
          go_wp2_with (first
            | (go_at_call 21; refine (HV.out _ HBW.out HEQ.out).mono ?_; rintro e w5 ⟨rfl, hb5⟩; have HB5 := hide (HB.out.kept hb5); clear hb5)
            | (at_builtin; go_must (refine wpList_pars rfl _ _ rfl W.heap.size u6 L rfl W (NK.data.toList, v) (HB5.out.alloc _) ⟨w5.heap.size, 0, none⟩ rfl (by rw [Addr.add_lit, World.cell?_alloc_at _ _ _ _ rfl]; show some (Value.string NK) = some (Value.string (str NK.data.toList)); rw [← HSN.out]) (by rw [Addr.add_lit, World.cell?_alloc_at _ _ _ _ rfl]; show some (Value.string V) = some (Value.string (str v)); rw [← HSV.out]) (by have := HLL.out; have := HNL.out; omega) ?_; intro v6 w6 hb6; have HB6 := hide hb6; clear hb6)))
          go_roundw
          case rel => exact ⟨k + 1, _, HLT.out, by go_num, HB6, HLN, hide (by have := HLL.out; simp; omega)⟩
          case measure => simp [intOf]; have := HLT.out; omega
      · have hke : k = ns.length := by omega
        have HFIN : Hid (parsP s.data.toList = (tsL p0.data.toList, L)) := hide (by
          rw [HPP.out, HL.out, hke]
          have : ns.length = nm0.length := by rw [← HNM.out]; simp
          rw [this, List.take_length])
        clear hke
        go_wp2_with (go_at_call 22; refine (HTS.out _).mono ?_; rintro e w5 ⟨rfl, hb5⟩; have HB5 := hide (HB.out.kept hb5); clear hb5)
        go_ret2
        exact ⟨_, by rw [HFIN.out, ← HT0.out] <;> rfl, by rw [HFIN.out]; exact HB5.out.lower HWW.out.size HWW.out⟩
end Go.Proofs.YtienjpelmbldpaaGreatDoor
