/- WALK of rules.Value, by the attribute's name. No statement is proved here. Own work of the verifier. -/
import Derived.Test.YtklbdobofclofaaGreatDoorRulesM
import Derived.Test.YtklbdobofclofaaGreatDoorRulesH
import Derived.Test.YtklbdobofclofaaGreatDoorRulesA
import Derived.Deep.RegionWith
namespace Go.Proofs.YtklbdobofclofaaGreatDoor
open Go.RowKit
set_option linter.unusedVariables false
set_option linter.unusedSimpArgs false
set_option maxRecDepth 100000
set_option maxHeartbeats 4000000 in
theorem value_gen (K : FuncId) (o : Option (List UInt8)) (r s q : Bool) (A : Option Addr) (F : List FileL) (cap : Nat) (e n v : ByteArray) (w : World) (hn : n.size ≤ maxLen) (ha : attrB e.data.toList n.data.toList = true)
    (hj : judF (.agg #[.bool r, .bool s, .bool q, .slice A F.length cap]) n.data.toList = some (.func (.func K) #[.agg #[.bool r, .bool s, .bool q, .slice A F.length cap]] #[])) (hK : ∀ args w, (callFunc K args).run Tryz.prog w = .ok (.enter K args) w)
    (hc : ∀ w2, Below w.heap.size w w2 → Calls Tryz.prog K #[.agg #[.bool r, .bool s, .bool q, .slice A F.length cap], .string v] w2 fun x w' => x = .returned (valV o) ∧ Below w2.heap.size w2 w') :
    Calls Tryz.prog 14 #[.agg #[.bool r, .bool s, .bool q], .slice A F.length cap, .string e, .agg #[.string n, .string v]] w fun x w' => x = .returned (valV o) ∧ Below w.heap.size w w' := by
  have HA := hide ha
  have HCC := hide hc
  have HJ := hide hj
  have HN := hide hn
  clear ha hc hj hn
  obtain ⟨S, hS⟩ : ∃ S, str (o.getD []) = S := ⟨_, rfl⟩
  obtain ⟨b, hb⟩ : ∃ b, o.isSome = b := ⟨_, rfl⟩
  have HV : Hid (valV o = .tuple #[.string S, .bool b]) := hide (by unfold valV; rw [hS, hb])
  rw [HV.out] at HCC
  clear hS hb
  obtain ⟨W, hW⟩ : ∃ W, (((w.alloc (.cells #[.bool r, .bool s, .bool q] 26)).alloc (.cells #[.string n, .string v] 29)).alloc (.cells #[.bool r, .bool s, .bool q, .slice A F.length cap] 42)) = W := ⟨_, rfl⟩
  have HG : Hid (GBox W (w.heap.size + 1 + 1) r s q (.slice A F.length cap)) := hide (by
    rw [← hW]
    have := GBox.new ((w.alloc (.cells #[.bool r, .bool s, .bool q] 26)).alloc (.cells #[.string n, .string v] 29)) r s q (.slice A F.length cap) 42
    rw [World.size_alloc, World.size_alloc] at this
    exact this)
  have HD0 : Hid (W.cell? ⟨w.heap.size + 1, 0, none⟩ = some (.string n)) := hide (by
    rw [← hW]
    exact ((alloc_below _ _).cell (p := ⟨w.heap.size + 1, 0, none⟩) (by rw [World.size_alloc, World.size_alloc]; exact Nat.lt_succ_self _)).trans (by rw [World.cell?_alloc_at _ _ _ _ (by first | exact (World.size_alloc _ _).symm | exact World.size_alloc _ _)]; rfl))
  have HD1 : Hid (W.cell? ⟨w.heap.size + 1, 1, none⟩ = some (.string v)) := hide (by
    rw [← hW]
    exact ((alloc_below _ _).cell (p := ⟨w.heap.size + 1, 1, none⟩) (by rw [World.size_alloc, World.size_alloc]; exact Nat.lt_succ_self _)).trans (by rw [World.cell?_alloc_at _ _ _ _ (by first | exact (World.size_alloc _ _).symm | exact World.size_alloc _ _)]; rfl))
  have HZ : Hid (w.heap.size + 1 < W.heap.size) := hide (by rw [← hW]; simp)
  have HB : Hid (Below w.heap.size w W) := hide (by
    rw [← hW]
    exact (((Below.refl _ _).alloc (Nat.le_refl _) _).alloc (by rw [World.size_alloc]; exact Nat.le_succ _) _).alloc (by rw [World.size_alloc, World.size_alloc]; exact Nat.le_trans (Nat.le_succ _) (Nat.le_succ _)) _)
  go_enter Tryz.func14, Tryz.ntmps14
  go_wp2_with fail
  refine (attr_any e n _).mono ?_
  rintro x w1 ⟨rfl, rfl⟩
  rw [HA.out]
  go_wp2_with fail
  clear hW
  obtain ⟨g0, g1, g2, g3⟩ := HG.out
  have d0 := HD0.out
  have d1 := HD1.out
  go_region_with (first
    | ((with_reducible refine (judgesE_any r s q A F.length cap _).mono ?_); rintro x w2 ⟨bm, rfl, hF2, hb2⟩; have hl2 := hF2.look mapT_ty (zeroFn _) n HN.out _ HJ.out; have HB2 := hide (HB.out.drew.trans (hb2.mono HB.out.drew.size)); have e0 := (hb2.cell (p := ⟨w.heap.size + 1, 0, none⟩) HZ.out).trans HD0.out; have e1 := (hb2.cell (p := ⟨w.heap.size + 1, 1, none⟩) HZ.out).trans HD1.out; clear hF2 hb2)
    | ((with_reducible refine (HCC.out _ HB2.out).mono ?_); rintro x w3 ⟨rfl, hb3⟩; have HB3 := hide (HB2.out.trans (hb3.mono HB2.out.size)); clear hb3))
  all_goals
    try go_wp2_with fail
    go_ret2
    exact ⟨by rw [HV.out]; rfl, HB3.out⟩
theorem value_href (r s q : Bool) (A : Option Addr) (F : List FileL) (cap : Nat) (e v : ByteArray) (w : World) (hF : FilesIn w (.slice A F.length cap) F) (hl : F.length ≤ 40) (hs : v.size ≤ 10000) (hEU : EnvU w) (hEC : EnvC w) (hES : EnvS w) (ha : attrB e.data.toList [104, 114, 101, 102] = true) :
    Calls Tryz.prog 14 #[.agg #[.bool r, .bool s, .bool q], .slice A F.length cap, .string e, .agg #[.string ⟨#[104, 114, 101, 102]⟩, .string v]] w fun x w' => x = .returned (valV (valN r s F [104, 114, 101, 102] v.data.toList)) ∧ Below w.heap.size w w' := by
  have HF := hide hF
  have HL := hide hl
  have HS := hide hs
  have HEU := hide hEU
  have HEC := hide hEC
  have HES := hide hES
  exact value_gen 32 _ r s q A F cap e ⟨#[104, 114, 101, 102]⟩ v w (by decide) ha (judF_href _) (enters_of Tryz.func32 (by kernel_rfl) rfl) (fun w2 hw2 => gHref_any r s q A F cap v w2 HS.out (HEU.out.kept hw2))
theorem value_src (r s q : Bool) (A : Option Addr) (F : List FileL) (cap : Nat) (e v : ByteArray) (w : World) (hF : FilesIn w (.slice A F.length cap) F) (hl : F.length ≤ 40) (hs : v.size ≤ 10000) (hEU : EnvU w) (hEC : EnvC w) (hES : EnvS w) (ha : attrB e.data.toList [115, 114, 99] = true) :
    Calls Tryz.prog 14 #[.agg #[.bool r, .bool s, .bool q], .slice A F.length cap, .string e, .agg #[.string ⟨#[115, 114, 99]⟩, .string v]] w fun x w' => x = .returned (valV (valN r s F [115, 114, 99] v.data.toList)) ∧ Below w.heap.size w w' := by
  have HF := hide hF
  have HL := hide hl
  have HS := hide hs
  have HEU := hide hEU
  have HEC := hide hEC
  have HES := hide hES
  exact value_gen 33 _ r s q A F cap e ⟨#[115, 114, 99]⟩ v w (by decide) ha (judF_src _) (enters_of Tryz.func33 (by kernel_rfl) rfl) (fun w2 hw2 => gSrc_any r s q A F cap v w2 (HF.out.kept hw2) HL.out HS.out (HEU.out.kept hw2) (HES.out.kept hw2))
theorem value_style (r s q : Bool) (A : Option Addr) (F : List FileL) (cap : Nat) (e v : ByteArray) (w : World) (hF : FilesIn w (.slice A F.length cap) F) (hl : F.length ≤ 40) (hs : v.size ≤ 10000) (hEU : EnvU w) (hEC : EnvC w) (hES : EnvS w) (ha : attrB e.data.toList [115, 116, 121, 108, 101] = true) :
    Calls Tryz.prog 14 #[.agg #[.bool r, .bool s, .bool q], .slice A F.length cap, .string e, .agg #[.string ⟨#[115, 116, 121, 108, 101]⟩, .string v]] w fun x w' => x = .returned (valV (valN r s F [115, 116, 121, 108, 101] v.data.toList)) ∧ Below w.heap.size w w' := by
  have HF := hide hF
  have HL := hide hl
  have HS := hide hs
  have HEU := hide hEU
  have HEC := hide hEC
  have HES := hide hES
  exact value_gen 34 _ r s q A F cap e ⟨#[115, 116, 121, 108, 101]⟩ v w (by decide) ha (judF_style _) (enters_of Tryz.func34 (by kernel_rfl) rfl) (fun w2 hw2 => gStyle_any r s q A F cap v w2 HS.out (HEC.out.kept hw2))
theorem value_width (r s q : Bool) (A : Option Addr) (F : List FileL) (cap : Nat) (e v : ByteArray) (w : World) (hF : FilesIn w (.slice A F.length cap) F) (hl : F.length ≤ 40) (hs : v.size ≤ 10000) (hEU : EnvU w) (hEC : EnvC w) (hES : EnvS w) (ha : attrB e.data.toList [119, 105, 100, 116, 104] = true) :
    Calls Tryz.prog 14 #[.agg #[.bool r, .bool s, .bool q], .slice A F.length cap, .string e, .agg #[.string ⟨#[119, 105, 100, 116, 104]⟩, .string v]] w fun x w' => x = .returned (valV (valN r s F [119, 105, 100, 116, 104] v.data.toList)) ∧ Below w.heap.size w w' := by
  have HF := hide hF
  have HL := hide hl
  have HS := hide hs
  have HEU := hide hEU
  have HEC := hide hEC
  have HES := hide hES
  exact value_gen 35 _ r s q A F cap e ⟨#[119, 105, 100, 116, 104]⟩ v w (by decide) ha (judF_width _) (enters_of Tryz.func35 (by kernel_rfl) rfl) (fun w2 hw2 => gNum_any r s q A F cap v w2 (Nat.le_trans HS.out (by decide)))
theorem value_height (r s q : Bool) (A : Option Addr) (F : List FileL) (cap : Nat) (e v : ByteArray) (w : World) (hF : FilesIn w (.slice A F.length cap) F) (hl : F.length ≤ 40) (hs : v.size ≤ 10000) (hEU : EnvU w) (hEC : EnvC w) (hES : EnvS w) (ha : attrB e.data.toList [104, 101, 105, 103, 104, 116] = true) :
    Calls Tryz.prog 14 #[.agg #[.bool r, .bool s, .bool q], .slice A F.length cap, .string e, .agg #[.string ⟨#[104, 101, 105, 103, 104, 116]⟩, .string v]] w fun x w' => x = .returned (valV (valN r s F [104, 101, 105, 103, 104, 116] v.data.toList)) ∧ Below w.heap.size w w' := by
  have HF := hide hF
  have HL := hide hl
  have HS := hide hs
  have HEU := hide hEU
  have HEC := hide hEC
  have HES := hide hES
  exact value_gen 35 _ r s q A F cap e ⟨#[104, 101, 105, 103, 104, 116]⟩ v w (by decide) ha (judF_height _) (enters_of Tryz.func35 (by kernel_rfl) rfl) (fun w2 hw2 => gNum_any r s q A F cap v w2 (Nat.le_trans HS.out (by decide)))
theorem value_start (r s q : Bool) (A : Option Addr) (F : List FileL) (cap : Nat) (e v : ByteArray) (w : World) (hF : FilesIn w (.slice A F.length cap) F) (hl : F.length ≤ 40) (hs : v.size ≤ 10000) (hEU : EnvU w) (hEC : EnvC w) (hES : EnvS w) (ha : attrB e.data.toList [115, 116, 97, 114, 116] = true) :
    Calls Tryz.prog 14 #[.agg #[.bool r, .bool s, .bool q], .slice A F.length cap, .string e, .agg #[.string ⟨#[115, 116, 97, 114, 116]⟩, .string v]] w fun x w' => x = .returned (valV (valN r s F [115, 116, 97, 114, 116] v.data.toList)) ∧ Below w.heap.size w w' := by
  have HF := hide hF
  have HL := hide hl
  have HS := hide hs
  have HEU := hide hEU
  have HEC := hide hEC
  have HES := hide hES
  exact value_gen 35 _ r s q A F cap e ⟨#[115, 116, 97, 114, 116]⟩ v w (by decide) ha (judF_start _) (enters_of Tryz.func35 (by kernel_rfl) rfl) (fun w2 hw2 => gNum_any r s q A F cap v w2 (Nat.le_trans HS.out (by decide)))
theorem value_value (r s q : Bool) (A : Option Addr) (F : List FileL) (cap : Nat) (e v : ByteArray) (w : World) (hF : FilesIn w (.slice A F.length cap) F) (hl : F.length ≤ 40) (hs : v.size ≤ 10000) (hEU : EnvU w) (hEC : EnvC w) (hES : EnvS w) (ha : attrB e.data.toList [118, 97, 108, 117, 101] = true) :
    Calls Tryz.prog 14 #[.agg #[.bool r, .bool s, .bool q], .slice A F.length cap, .string e, .agg #[.string ⟨#[118, 97, 108, 117, 101]⟩, .string v]] w fun x w' => x = .returned (valV (valN r s F [118, 97, 108, 117, 101] v.data.toList)) ∧ Below w.heap.size w w' := by
  have HF := hide hF
  have HL := hide hl
  have HS := hide hs
  have HEU := hide hEU
  have HEC := hide hEC
  have HES := hide hES
  exact value_gen 35 _ r s q A F cap e ⟨#[118, 97, 108, 117, 101]⟩ v w (by decide) ha (judF_value _) (enters_of Tryz.func35 (by kernel_rfl) rfl) (fun w2 hw2 => gNum_any r s q A F cap v w2 (Nat.le_trans HS.out (by decide)))
theorem value_dir (r s q : Bool) (A : Option Addr) (F : List FileL) (cap : Nat) (e v : ByteArray) (w : World) (hF : FilesIn w (.slice A F.length cap) F) (hl : F.length ≤ 40) (hs : v.size ≤ 10000) (hEU : EnvU w) (hEC : EnvC w) (hES : EnvS w) (ha : attrB e.data.toList [100, 105, 114] = true) :
    Calls Tryz.prog 14 #[.agg #[.bool r, .bool s, .bool q], .slice A F.length cap, .string e, .agg #[.string ⟨#[100, 105, 114]⟩, .string v]] w fun x w' => x = .returned (valV (valN r s F [100, 105, 114] v.data.toList)) ∧ Below w.heap.size w w' := by
  have HF := hide hF
  have HL := hide hl
  have HS := hide hs
  have HEU := hide hEU
  have HEC := hide hEC
  have HES := hide hES
  exact value_gen 36 _ r s q A F cap e ⟨#[100, 105, 114]⟩ v w (by decide) ha (judF_dir _) (enters_of Tryz.func36 (by kernel_rfl) rfl) (fun w2 hw2 => gDir_any r s q A F cap v w2)
theorem value_lang (r s q : Bool) (A : Option Addr) (F : List FileL) (cap : Nat) (e v : ByteArray) (w : World) (hF : FilesIn w (.slice A F.length cap) F) (hl : F.length ≤ 40) (hs : v.size ≤ 10000) (hEU : EnvU w) (hEC : EnvC w) (hES : EnvS w) (ha : attrB e.data.toList [108, 97, 110, 103] = true) :
    Calls Tryz.prog 14 #[.agg #[.bool r, .bool s, .bool q], .slice A F.length cap, .string e, .agg #[.string ⟨#[108, 97, 110, 103]⟩, .string v]] w fun x w' => x = .returned (valV (valN r s F [108, 97, 110, 103] v.data.toList)) ∧ Below w.heap.size w w' := by
  have HF := hide hF
  have HL := hide hl
  have HS := hide hs
  have HEU := hide hEU
  have HEC := hide hEC
  have HES := hide hES
  exact value_gen 37 _ r s q A F cap e ⟨#[108, 97, 110, 103]⟩ v w (by decide) ha (judF_lang _) (enters_of Tryz.func37 (by kernel_rfl) rfl) (fun w2 hw2 => gLang_any r s q A F cap v w2 (Nat.le_trans HS.out (by decide)))
theorem value_title (r s q : Bool) (A : Option Addr) (F : List FileL) (cap : Nat) (e v : ByteArray) (w : World) (hF : FilesIn w (.slice A F.length cap) F) (hl : F.length ≤ 40) (hs : v.size ≤ 10000) (hEU : EnvU w) (hEC : EnvC w) (hES : EnvS w) (ha : attrB e.data.toList [116, 105, 116, 108, 101] = true) :
    Calls Tryz.prog 14 #[.agg #[.bool r, .bool s, .bool q], .slice A F.length cap, .string e, .agg #[.string ⟨#[116, 105, 116, 108, 101]⟩, .string v]] w fun x w' => x = .returned (valV (valN r s F [116, 105, 116, 108, 101] v.data.toList)) ∧ Below w.heap.size w w' := by
  have HF := hide hF
  have HL := hide hl
  have HS := hide hs
  have HEU := hide hEU
  have HEC := hide hEC
  have HES := hide hES
  exact value_gen 38 _ r s q A F cap e ⟨#[116, 105, 116, 108, 101]⟩ v w (by decide) ha (judF_title _) (enters_of Tryz.func38 (by kernel_rfl) rfl) (fun w2 hw2 => gWords_any r s q A F cap v w2)
theorem value_alt (r s q : Bool) (A : Option Addr) (F : List FileL) (cap : Nat) (e v : ByteArray) (w : World) (hF : FilesIn w (.slice A F.length cap) F) (hl : F.length ≤ 40) (hs : v.size ≤ 10000) (hEU : EnvU w) (hEC : EnvC w) (hES : EnvS w) (ha : attrB e.data.toList [97, 108, 116] = true) :
    Calls Tryz.prog 14 #[.agg #[.bool r, .bool s, .bool q], .slice A F.length cap, .string e, .agg #[.string ⟨#[97, 108, 116]⟩, .string v]] w fun x w' => x = .returned (valV (valN r s F [97, 108, 116] v.data.toList)) ∧ Below w.heap.size w w' := by
  have HF := hide hF
  have HL := hide hl
  have HS := hide hs
  have HEU := hide hEU
  have HEC := hide hEC
  have HES := hide hES
  exact value_gen 38 _ r s q A F cap e ⟨#[97, 108, 116]⟩ v w (by decide) ha (judF_alt _) (enters_of Tryz.func38 (by kernel_rfl) rfl) (fun w2 hw2 => gWords_any r s q A F cap v w2)
set_option maxHeartbeats 4000000 in
theorem value_off (r s q : Bool) (A : Option Addr) (F : List FileL) (cap : Nat) (e n v : ByteArray) (w : World) (ha : attrB e.data.toList n.data.toList = false) :
    Calls Tryz.prog 14 #[.agg #[.bool r, .bool s, .bool q], .slice A F.length cap, .string e, .agg #[.string n, .string v]] w fun x w' => x = .returned (valV none) ∧ Below w.heap.size w w' := by
  have HA := hide ha
  clear ha
  go_enter Tryz.func14, Tryz.ntmps14
  go_wp2_with fail
  refine (attr_any e n _).mono ?_
  rintro x w1 ⟨rfl, rfl⟩
  rw [HA.out]
  go_wp2_with fail
  go_ret2
  exact ⟨rfl, ((Below.refl _ _).alloc (Nat.le_refl _) _).alloc (by simp) _⟩
/-- rules.Value, whatever the attribute is -/
theorem value_any (r s q : Bool) (A : Option Addr) (F : List FileL) (cap : Nat) (e n v : ByteArray) (w : World) (hF : FilesIn w (.slice A F.length cap) F) (hl : F.length ≤ 40) (hs : v.size ≤ 10000) (hEU : EnvU w) (hEC : EnvC w) (hES : EnvS w) :
    Calls Tryz.prog 14 #[.agg #[.bool r, .bool s, .bool q], .slice A F.length cap, .string e, .agg #[.string n, .string v]] w fun x w' => x = .returned (valV (valL r s F e.data.toList n.data.toList v.data.toList)) ∧ Below w.heap.size w w' := by
  unfold valL
  cases ha : attrB e.data.toList n.data.toList with
  | false =>
    rw [if_neg (by decide)]
    exact value_off r s q A F cap e n v w ha
  | true =>
    rw [if_pos rfl]
    cases hk : attrsL.contains n.data.toList with
    | false => rw [attrB_none _ _ hk] at ha; cases ha
    | true =>
      rcases attrsL_cases _ hk with h | h | h | h | h | h | h | h | h | h | h
      · obtain rfl : n = ⟨#[116, 105, 116, 108, 101]⟩ := ext_list h
        exact value_title r s q A F cap e v w hF hl hs hEU hEC hES ha
      · obtain rfl : n = ⟨#[100, 105, 114]⟩ := ext_list h
        exact value_dir r s q A F cap e v w hF hl hs hEU hEC hES ha
      · obtain rfl : n = ⟨#[108, 97, 110, 103]⟩ := ext_list h
        exact value_lang r s q A F cap e v w hF hl hs hEU hEC hES ha
      · obtain rfl : n = ⟨#[115, 116, 121, 108, 101]⟩ := ext_list h
        exact value_style r s q A F cap e v w hF hl hs hEU hEC hES ha
      · obtain rfl : n = ⟨#[104, 114, 101, 102]⟩ := ext_list h
        exact value_href r s q A F cap e v w hF hl hs hEU hEC hES ha
      · obtain rfl : n = ⟨#[115, 114, 99]⟩ := ext_list h
        exact value_src r s q A F cap e v w hF hl hs hEU hEC hES ha
      · obtain rfl : n = ⟨#[97, 108, 116]⟩ := ext_list h
        exact value_alt r s q A F cap e v w hF hl hs hEU hEC hES ha
      · obtain rfl : n = ⟨#[119, 105, 100, 116, 104]⟩ := ext_list h
        exact value_width r s q A F cap e v w hF hl hs hEU hEC hES ha
      · obtain rfl : n = ⟨#[104, 101, 105, 103, 104, 116]⟩ := ext_list h
        exact value_height r s q A F cap e v w hF hl hs hEU hEC hES ha
      · obtain rfl : n = ⟨#[115, 116, 97, 114, 116]⟩ := ext_list h
        exact value_start r s q A F cap e v w hF hl hs hEU hEC hES ha
      · obtain rfl : n = ⟨#[118, 97, 108, 117, 101]⟩ := ext_list h
        exact value_value r s q A F cap e v w hF hl hs hEU hEC hES ha
end Go.Proofs.YtklbdobofclofaaGreatDoor
