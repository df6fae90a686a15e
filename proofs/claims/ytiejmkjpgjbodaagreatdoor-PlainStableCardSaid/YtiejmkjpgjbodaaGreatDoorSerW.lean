import Derived.Test.YtiejmkjpgjbodaaGreatDoorBaseR
import Derived.Test.YtiejmkjpgjbodaaGreatDoorBaseS
import Derived.Test.YtiejmkjpgjbodaaGreatDoorHtokY
import Derived.Test.YtiejmkjpgjbodaaGreatDoorRawW
import Derived.Test.YtiejmkjpgjbodaaGreatDoorTreeO
namespace Go.Proofs.YtiejmkjpgjbodaaGreatDoor
open Go.RowKit
set_option linter.unusedVariables false
set_option linter.unusedSimpArgs false
set_option maxRecDepth 100000
def startW (h : NdH) : List UInt8 := 60 :: (h.name ++ (attrsW (escQ true) h.attrs ++ [62]))
def endW (h : NdH) : List UInt8 := 60 :: 47 :: (h.name ++ [62])
def rawK : Tr → List UInt8
  | .nil => []
  | .cons h _ R => (if h.name = [] then h.text else []) ++ rawK R
def rawB (n : List UInt8) : Bool := rawL.contains n
def serBg (s : List UInt8) (h : NdH) (K : Tr) : List UInt8 :=
  if h.name = [] then s ++ escQ false h.text else if voidB h.name = true then s ++ startW h else if rawB h.name = true then s ++ startW h ++ rawK K else s ++ startW h
def serEn (s : List UInt8) (h : NdH) : List UInt8 := if h.name = [] then s else if voidB h.name = true then s else s ++ endW h
def serDv (h : NdH) : Bool := elemB h && (!voidB h.name && !rawB h.name)
def writeT : Tr → List UInt8
  | .nil => []
  | .cons h K R => (if h.name = [] then escQ false h.text else if voidB h.name = true then startW h else startW h ++ ((if rawB h.name = true then rawK K else writeT K) ++ endW h)) ++ writeT R
theorem vis_write (T : Tr) (s : List UInt8) : vis serBg serEn serDv T s = s ++ writeT T := by
  induction T generalizing s with
  | nil => simp [vis, writeT]
  | cons h K R ihk ihr =>
    simp only [vis, writeT]
    by_cases hn : h.name = []
    · have e : serDv h = false := by simp [serDv, elemB, hn]
      simp [serBg, serEn, hn, e, ihr]
    · have e0 : elemB h = true := by simp [elemB, hn]
      by_cases hv : voidB h.name = true
      · have e : serDv h = false := by simp [serDv, hv]
        simp [serBg, serEn, hn, hv, e, ihr]
      · by_cases hr : rawB h.name = true
        · have e : serDv h = false := by simp [serDv, hr]
          simp [serBg, serEn, hn, hv, hr, e, ihr]
        · have e : serDv h = true := by simp [serDv, e0, hv, hr]
          simp [serBg, serEn, hn, hv, hr, e, ihk, ihr]
theorem serBg_le (s : List UInt8) (h : NdH) (K : Tr) : s.length ≤ (serBg s h K).length := by
  unfold serBg; repeat' split
  all_goals simp only [List.length_append]; omega
theorem serEn_le (s : List UInt8) (h : NdH) : s.length ≤ (serEn s h).length := by
  unfold serEn; repeat' split
  all_goals first | exact Nat.le_refl _ | (simp only [List.length_append]; omega)
def wideH (h : NdH) : Bool := wfitT ⟨0, h.name, h.attrs, h.text⟩
theorem wide_tok {h : NdH} (hs : wideH h = true) : wfitT ⟨0, h.name, h.attrs, []⟩ = true := by
  unfold wideH wfitT at *
  simp only [Bool.and_eq_true, decide_eq_true_eq] at *
  exact ⟨hs.1, Nat.zero_le _, hs.2.2⟩
theorem tok_one (w : World) (k : Int) (h : NdH) (u : Value) (hA : AttrsIn w u h.attrs) (n : Nat) (hn : w.heap.size = n) :
    ToksIn (w.alloc (.cells #[.int .i64 k, .string (str h.name), u, .string ⟨#[]⟩] 51)) (.slice (some ⟨n, 0, none⟩) 1 1) [(k, ⟨0, h.name, h.attrs, []⟩)] := by
  subst hn
  obtain ⟨c0, c1, c2, c3⟩ := tok_row w (.int .i64 k) (.string (str h.name)) u (.string ⟨#[]⟩)
  refine .inr ⟨⟨w.heap.size, 0, none⟩, 1, rfl, Nat.le_refl _, by decide, fun j f hj => ?_⟩
  match j, hj with
  | 0, hj =>
    simp only [List.getElem?_cons_zero, Option.some.injEq] at hj
    subst hj
    exact ⟨c0, c1, c3, u, c2, hA.kept (below_one w _)⟩
  | j + 1, hj => simp at hj
set_option maxHeartbeats 8000000 in
theorem tag_any (k : Int) (h : NdH) (w : World) (hk : k = 2 ∨ k = 3) (A1 A2 : Option Addr) (n2 c1 c2 : Nat) (hA : AttrsIn w (.slice A1 h.attrs.length c1) h.attrs) (hs : wideH h = true) (hE : EnvX w) :
    Calls Tryz.prog 98 #[.int .i64 k, .agg #[.string (str h.name), .slice A1 h.attrs.length c1, .string (str h.text), .slice A2 n2 c2]] w fun e w' => e = .returned (.string (str (if k = 2 then startW h else endW h))) ∧ Below w.heap.size w w' := by
  have hbk := below_one w (Obj.cells #[.string (str h.name), .slice A1 h.attrs.length c1, .string (str h.text), .slice A2 n2 c2] 33)
  have hti := tok_one (w.alloc (Obj.cells #[.string (str h.name), .slice A1 h.attrs.length c1, .string (str h.text), .slice A2 n2 c2] 33)) k h _ (hA.kept hbk) (w.heap.size + 1) (World.size_alloc _ _)
  have hb2 := bl_one hbk (below_one _ (Obj.cells #[.int .i64 k, .string (str h.name), .slice A1 h.attrs.length c1, .string ⟨#[]⟩] 51))
  have HW := write_wide13 _ _ _ hti (by simp) (fun p hp => by rw [List.mem_singleton.1 hp]; exact wide_tok hs) (hE.kept hb2)
  have he : writeG [(k, (⟨0, h.name, h.attrs, []⟩ : TokL))] = if k = 2 then startW h else endW h := by
    have e1 : writeG [(k, (⟨0, h.name, h.attrs, []⟩ : TokL))] = tokG (k, ⟨0, h.name, h.attrs, []⟩) := by simp [writeG]
    rw [e1]
    rcases hk with rfl | rfl
    · rw [if_pos rfl]; exact tokG_start rfl
    · rw [if_neg (by decide)]; exact tokG_end rfl
  rw [he] at HW
  obtain ⟨R, hR⟩ : ∃ R, R = str (if k = 2 then startW h else endW h) := ⟨_, rfl⟩
  rw [← hR] at HW ⊢
  replace HW := hide HW
  have HB2 := hide hb2
  clear hbk hti hb2 he hA hE hR hk
  go_enter Tryz.func98, Tryz.ntmps98
  go_wp2_with fail
  refine HW.out.mono ?_
  rintro e w1 ⟨rfl, hb⟩
  have HB := hide (bl_one HB2.out hb)
  clear hb
  go_wp2_with fail
  go_ret
  exact ⟨rfl, HB.out⟩
set_option maxHeartbeats 8000000 in
theorem serEnd_any (B b : Nat) (s : List UInt8) (h : NdH) (W0 w : World) (A1 A2 : Option Addr) (n2 c1 c2 : Nat) (hi : Bld B b s W0 w) (hA : AttrsIn w (.slice A1 h.attrs.length c1) h.attrs) (hs : wideH h = true) (hE : EnvX w) (hm : (serEn s h).length ≤ 1000000000) :
    Calls Tryz.prog 56 #[.pointer (some ⟨b, 0, none⟩), .agg #[.string (str h.name), .slice A1 h.attrs.length c1, .string (str h.text), .slice A2 n2 c2]] w fun e w' => e = .returned (.tuple #[]) ∧ Bld B b (serEn s h) W0 w' ∧ KT w w' := by
  have hbk := below_one w (Obj.cells #[.string (str h.name), .slice A1 h.attrs.length c1, .string (str h.text), .slice A2 n2 c2] 33)
  have HIT := hide (isText_any h A1 A2 h.attrs.length c1 n2 c2 (w.alloc (Obj.cells #[.string (str h.name), .slice A1 h.attrs.length c1, .string (str h.text), .slice A2 n2 c2] 33)))
  have HTG : Hid (∀ w', Below w.heap.size w w' → Calls Tryz.prog 98 #[.int .i64 3, .agg #[.string (str h.name), .slice A1 h.attrs.length c1, .string (str h.text), .slice A2 n2 c2]] w' fun e w'' => e = .returned (.string (str (endW h))) ∧ Below w'.heap.size w' w'') := hide (fun w' hb => by
    have := tag_any 3 h w' (.inr rfl) A1 A2 n2 c1 c2 (hA.kept hb) hs (hE.kept hb)
    rwa [if_neg (by decide)] at this)
  have HVD : Hid (∀ w', Calls Tryz.prog 31 #[.string (str h.name)] w' fun e w'' => e = .returned (.bool (voidB h.name)) ∧ w' = w'') := hide (fun w' => by
    have := void14_any (str h.name) w'
    rw [str_toList] at this
    exact this)
  have HWS : Hid (∀ w', Below w.heap.size w w' → s.length + (endW h).length ≤ 1000000000 → Calls Tryz.prog 64 #[.pointer (some ⟨b, 0, none⟩), .string (str (endW h))] w' fun e w'' => e = .returned (.tuple #[.int .i64 (str (endW h)).size, .nilIface]) ∧ Bld B b (s ++ endW h) W0 w'' ∧ KT w w'') := hide (fun w' hb hl => by
    refine (writeStringT_any B b s (str (endW h)) W0 w' (hi.kept hb) (by rw [str_size]; omega)).mono ?_
    rintro e w2 ⟨rfl, h2, h3⟩
    rw [str_toList] at h2
    exact ⟨rfl, h2, (KT.below hb).trans h3⟩)
  have HI := hide hi
  have HM := hide hm
  have HBK := hide hbk
  obtain ⟨X, hX⟩ : ∃ X, X = str h.name := ⟨_, rfl⟩
  obtain ⟨Y, hY⟩ : ∃ Y, Y = str h.text := ⟨_, rfl⟩
  obtain ⟨E, hEE⟩ : ∃ E, E = str (endW h) := ⟨_, rfl⟩
  obtain ⟨W, hW⟩ : ∃ W, W = w.alloc (Obj.cells #[.string X, .slice A1 h.attrs.length c1, .string Y, .slice A2 n2 c2] 33) := ⟨_, rfl⟩
  have hcell : W.heap[w.heap.size]? = some (Obj.cells #[.string X, .slice A1 h.attrs.length c1, .string Y, .slice A2 n2 c2] 33 (0, 0)) := by rw [hW]; exact heap_alloc_new w _
  have hlt : w.heap.size < W.heap.size := by rw [hW, World.size_alloc]; omega
  rw [← hX, ← hY] at HIT HTG HBK ⊢
  rw [← hX] at HVD
  rw [← hEE] at HTG HWS
  rw [← hW] at HIT HBK
  have HCC := hide hcell
  have HLT := hide hlt
  have HWW := hide hW
  clear hi hm hA hs hE hbk hX hY hEE hcell hlt hW
  go_enter Tryz.func56, Tryz.ntmps56
  go_wp2_with fail
  rw [← HWW.out]
  refine HIT.out.mono ?_
  rintro e w1 ⟨rfl, hb1⟩
  have hcell := (hb1.block w.heap.size HLT.out).trans HCC.out
  have d0 : w1.cell? ⟨w.heap.size, 0, none⟩ = some (.string X) := (Lib.cell_of_heap hcell 0).trans rfl
  have d1 : w1.cell? ⟨w.heap.size, 1, none⟩ = some (.slice A1 h.attrs.length c1) := (Lib.cell_of_heap hcell 1).trans rfl
  have d2 : w1.cell? ⟨w.heap.size, 2, none⟩ = some (.string Y) := (Lib.cell_of_heap hcell 2).trans rfl
  have d3 : w1.cell? ⟨w.heap.size, 3, none⟩ = some (.slice A2 n2 c2) := (Lib.cell_of_heap hcell 3).trans rfl
  have HB1 := hide (bl_one HBK.out hb1)
  clear hcell hb1
  by_cases e : elemB h = false
  · rw [e]
    have hn : h.name = [] := by simpa [elemB] using e
    have HS : Hid (serEn s h = s) := hide (by simp [serEn, hn])
    clear hn e
    go_wp2_with fail
    go_end0
    exact ⟨rfl, by rw [HS.out]; exact HI.out.kept HB1.out, KT.below HB1.out⟩
  · replace e : elemB h = true := by simpa using e
    rw [e]
    have hn : h.name ≠ [] := by simpa [elemB] using e
    by_cases v : voidB h.name = true
    · have HS : Hid (serEn s h = s) := hide (by simp [serEn, hn, v])
      rw [v] at HVD
      clear hn e v
      go_wp2_with (go_at_call 31; refine (HVD.out _).mono ?_; rintro e w5 ⟨rfl, hw5⟩; subst hw5)
      go_end0
      exact ⟨rfl, by rw [HS.out]; exact HI.out.kept HB1.out, KT.below HB1.out⟩
    · have v0 : voidB h.name = false := by simpa using v
      have HS : Hid (serEn s h = s ++ endW h) := hide (by simp [serEn, hn, v0])
      rw [v0] at HVD
      clear hn e v v0
      go_wp2_with (go_at_call 31; refine (HVD.out _).mono ?_; rintro e w5 ⟨rfl, hw5⟩; subst hw5)
      refine (HTG.out _ HB1.out).mono ?_
      rintro e w3 ⟨rfl, hb3⟩
      have HB3 := hide (bl_one HB1.out hb3)
      clear hb3
      go_wp2_with fail
      refine (HWS.out _ HB3.out (by have := HM.out; rw [HS.out, List.length_append] at this; exact this)).mono ?_
      rintro e w4 ⟨rfl, h4⟩
      have H4 := hide h4
      clear h4
      go_wp2_with fail
      go_end0
      exact ⟨rfl, by rw [HS.out]; exact H4.out.1, H4.out.2⟩
def rawKl : List (NdH × Tr) → List UInt8
  | [] => []
  | p :: r => (if p.1.name = [] then p.1.text else []) ++ rawKl r
theorem rawK_list (T : Tr) : rawK T = rawKl T.list := by induction T with
  | nil => rfl
  | cons h K R _ ih => simp only [rawK, Tr.list, rawKl, ih]
theorem rawKl_snoc (l : List (NdH × Tr)) (p : NdH × Tr) : rawKl (l ++ [p]) = rawKl l ++ (if p.1.name = [] then p.1.text else []) := by induction l with
  | nil => simp [rawKl]
  | cons q r ih => simp only [List.cons_append, rawKl, ih, List.append_assoc]
theorem rawKl_le (l : List (NdH × Tr)) (k : Nat) : (rawKl (l.take k)).length ≤ (rawKl l).length := by induction l generalizing k with
  | nil => simp
  | cons p r ih => cases k with
    | zero => simp [rawKl]
    | succ k => simp only [List.take_succ_cons, rawKl, List.length_append]; have := ih k; omega
set_option maxHeartbeats 8000000 in
theorem writeRaw_any (B b : Nat) (s : List UInt8) (W0 w : World) (v : Value) (T : Tr) (hi : Bld B b s W0 w) (hT : NodesC (fun b => b < B) w v T) (hn : T.len ≤ 1000000) (hm : (s ++ rawK T).length ≤ 1000000000) :
    Calls Tryz.prog 100 #[.pointer (some ⟨b, 0, none⟩), v] w fun e w' => e = .returned (.tuple #[]) ∧ Bld B b (s ++ rawK T) W0 w' ∧ KT w w' := by
  obtain ⟨A, c, rfl⟩ := hT.form
  rw [rawK_list] at hm ⊢
  have HT := hide hT
  have HM := hide hm
  have HI := hide hi
  clear hT hm hi
  go_enter Tryz.func100, Tryz.ntmps100
  go_wp2_with fail
  go_loopw [8] (fun i wr => ∃ k : Nat, k ≤ T.len ∧ i = .int .i64 k ∧ Hid (Bld B b (s ++ rawKl (T.list.take k)) w wr) ∧ Hid (KT w wr)) (fun i _ => T.len - (intOf i).toNat)
  case atStart => exact ⟨0, Nat.zero_le _, rfl, hide (by rw [List.take_zero, rawKl, List.append_nil]; exact ⟨HI.out.1, Below.refl _ _, HI.out.2.2⟩), hide (KT.refl _)⟩
  case round =>
    obtain ⟨k, hk, rfl, HB, HK⟩ := hrel
    by_cases hlt : k < T.len
    · obtain ⟨⟨f, K⟩, hf⟩ : ∃ f, T.list[k]? = some f := ⟨_, List.getElem?_eq_getElem (by rw [Tr.len_list]; exact hlt)⟩
      have hI1 := NodesC.mono HT.out (same_below HB.out.2.1) (fun _ x => x)
      obtain ⟨a, d, x, y, z, m, ha, -, p1, p2, hA, p3, p4, hm, hK⟩ := NodesC.at hI1 k f K hf
      subst ha hm
      have hsn : rawKl (T.list.take (k + 1)) = rawKl (T.list.take k) ++ (if f.name = [] then f.text else []) := by rw [List.take_add_one, hf]; exact rawKl_snoc _ _
      have hle := rawKl_le T.list (k + 1)
      have HSN := hide hsn
      have HLE := hide hle
      clear hsn hle hA hK hI1 hf
      go_wp2_with fail
      refine (isText_any f d x _ _ _ _ _).mono ?_
      rintro e w1 ⟨rfl, hb1⟩
      have hb := bl_one (below_one wr _) hb1
      have hcell := (hb1.block wr.heap.size (by rw [World.size_alloc]; omega)).trans (heap_alloc_new wr _)
      have d2 : w1.cell? ⟨wr.heap.size, 2, none⟩ = some (.string (str f.text)) := (Lib.cell_of_heap hcell 2).trans rfl
      obtain ⟨Y, hY⟩ : ∃ Y, Y = str f.text := ⟨_, rfl⟩
      have hYl : Y.data.toList = f.text := by rw [hY, str_toList]
      rw [← hY] at d2
      obtain ⟨X, hX⟩ : ∃ X, X = str f.name := ⟨_, rfl⟩
      rw [← hY, ← hX]
      have HB1 := hide (HB.out.kept hb)
      have HK1 := hide (HK.out.trans (KT.below hb))
      clear hcell hb1 hb hX hY
      by_cases e : elemB f = false
      · rw [e]
        have hn : f.name = [] := by simpa [elemB] using e
        have hsn := HSN.out
        rw [if_pos hn] at hsn
        have hl : (s ++ rawKl (T.list.take k)).length + Y.size ≤ 140737488355328 := by
          have h1 := HLE.out
          have h2 := HM.out
          rw [hsn, List.length_append, ← hYl, toList_length] at h1
          rw [List.length_append] at h2
          rw [List.length_append]; omega
        have HWS := hide (writeStringT_any B b (s ++ rawKl (T.list.take k)) Y w w1 HB1.out hl)
        rw [hYl, List.append_assoc, ← hsn] at HWS
        clear hn e hsn hl hYl HSN HLE
        go_wp2_with fail
        refine HWS.out.mono ?_
        rintro e w2 ⟨rfl, hb2, hk2⟩
        have HB2 := hide hb2
        have HK2 := hide (HK1.out.trans hk2)
        clear hb2 hk2
        go_wp2_with fail
        go_roundw
        case rel => exact ⟨k + 1, by omega, by go_num, HB2, HK2⟩
        case measure => simp [intOf]; omega
      · replace e : elemB f = true := by simpa using e
        rw [e]
        have hn : f.name ≠ [] := by simpa [elemB] using e
        have hsn := HSN.out
        rw [if_neg hn, List.append_nil] at hsn
        rw [← hsn] at HB1
        clear hn e hsn hYl HSN HLE
        go_wp2_with fail
        go_roundw
        case rel => exact ⟨k + 1, by omega, by go_num, HB1, HK1⟩
        case measure => simp [intOf]; omega
    · obtain rfl : k = T.len := by omega
      have HB2 := HB.out
      rw [← Tr.len_list, List.take_length] at HB2
      replace HB2 := hide HB2
      go_wp2_with fail
      go_end0
      exact ⟨rfl, ⟨HB2.out.1, HI.out.2.1.trans HB2.out.2.1, HB2.out.2.2⟩, HK.out⟩
set_option maxHeartbeats 8000000 in
theorem serBegin_any (B b : Nat) (s : List UInt8) (h : NdH) (K : Tr) (W0 w : World) (A1 A2 : Option Addr) (n2 c1 c2 : Nat) (hi : Bld B b s W0 w) (hA : AttrsIn w (.slice A1 h.attrs.length c1) h.attrs) (hK : NodesC (fun b => b < B) w (.slice A2 n2 c2) K) (hkl : K.len ≤ 1000000) (hs : wideH h = true) (hE : EnvX w) (hm : (serBg s h K).length ≤ 1000000000) :
    Calls Tryz.prog 54 #[.pointer (some ⟨b, 0, none⟩), .agg #[.string (str h.name), .slice A1 h.attrs.length c1, .string (str h.text), .slice A2 n2 c2]] w fun e w' => e = .returned (if serDv h = true then .slice A2 n2 c2 else .slice none 0 0) ∧ Bld B b (serBg s h K) W0 w' ∧ KT w w' := by
  have hbk := below_one w (Obj.cells #[.string (str h.name), .slice A1 h.attrs.length c1, .string (str h.text), .slice A2 n2 c2] 33)
  have HIT := hide (isText_any h A1 A2 h.attrs.length c1 n2 c2 (w.alloc (Obj.cells #[.string (str h.name), .slice A1 h.attrs.length c1, .string (str h.text), .slice A2 n2 c2] 33)))
  have HTG : Hid (∀ w', Below w.heap.size w w' → Calls Tryz.prog 98 #[.int .i64 2, .agg #[.string (str h.name), .slice A1 h.attrs.length c1, .string (str h.text), .slice A2 n2 c2]] w' fun e w'' => e = .returned (.string (str (startW h))) ∧ Below w'.heap.size w' w'') := hide (fun w' hb => by
    have := tag_any 2 h w' (.inl rfl) A1 A2 n2 c1 c2 (hA.kept hb) hs (hE.kept hb)
    rwa [if_pos rfl] at this)
  have HVD : Hid (∀ w', Calls Tryz.prog 31 #[.string (str h.name)] w' fun e w'' => e = .returned (.bool (voidB h.name)) ∧ w' = w'') := hide (fun w' => by
    have := void14_any (str h.name) w'
    rw [str_toList] at this
    exact this)
  have HRW : Hid (∀ w', Calls Tryz.prog 99 #[.string (str h.name)] w' fun e w'' => e = .returned (.bool (rawB h.name)) ∧ w' = w'') := hide (fun w' => by
    have := rawW_any (str h.name) w'
    rw [str_toList] at this
    exact this)
  have HTX : Hid (∀ w', Below w.heap.size w w' → Calls Tryz.prog 97 #[.string (str h.text)] w' fun e w'' => e = .returned (.string (str (escQ false h.text))) ∧ Below w'.heap.size w' w'') := hide (fun w' hb => by
    have := entText_any (str h.text) w' (by
      have h2 := hs
      unfold wideH wfitT at h2
      simp only [Bool.and_eq_true, decide_eq_true_eq] at h2
      rw [str_size]; omega)
    rw [str_toList] at this
    exact this)
  have HWS : Hid (∀ (x : List UInt8) w', Below w.heap.size w w' → s.length + x.length ≤ 1000000000 → Calls Tryz.prog 64 #[.pointer (some ⟨b, 0, none⟩), .string (str x)] w' fun e w'' => e = .returned (.tuple #[.int .i64 (str x).size, .nilIface]) ∧ Bld B b (s ++ x) w w'' ∧ KT w' w'') := hide (fun x w' hb hl => by
    have hi2 := hi.kept hb
    refine (writeStringT_any B b s (str x) w w' ⟨hi2.1, hb.mono hi.2.2, hi2.2.2⟩ (by rw [str_size]; omega)).mono ?_
    rintro e w2 ⟨rfl, h2, h3⟩
    rw [str_toList] at h2
    exact ⟨rfl, h2, h3⟩)
  have HWR : Hid (∀ (x : List UInt8) w', Bld B b x w w' → (x ++ rawK K).length ≤ 1000000000 → Calls Tryz.prog 100 #[.pointer (some ⟨b, 0, none⟩), .slice A2 n2 c2] w' fun e w'' => e = .returned (.tuple #[]) ∧ Bld B b (x ++ rawK K) w w'' ∧ KT w' w'') := hide (fun x w' hb hl =>
    writeRaw_any B b x w w' _ K hb (NodesC.mono hK (same_below hb.2.1) (fun _ z => z)) hkl hl)
  have HI := hide hi
  have HM := hide hm
  have HBK := hide hbk
  obtain ⟨X, hX⟩ : ∃ X, X = str h.name := ⟨_, rfl⟩
  obtain ⟨Y, hY⟩ : ∃ Y, Y = str h.text := ⟨_, rfl⟩
  obtain ⟨S, hS⟩ : ∃ S, S = str (startW h) := ⟨_, rfl⟩
  obtain ⟨Q, hQ⟩ : ∃ Q, Q = str (escQ false h.text) := ⟨_, rfl⟩
  obtain ⟨R, hR⟩ : ∃ R, R = (if serDv h = true then Value.slice A2 n2 c2 else .slice none 0 0) := ⟨_, rfl⟩
  obtain ⟨W, hW⟩ : ∃ W, W = w.alloc (Obj.cells #[.string X, .slice A1 h.attrs.length c1, .string Y, .slice A2 n2 c2] 33) := ⟨_, rfl⟩
  have hcell : W.heap[w.heap.size]? = some (Obj.cells #[.string X, .slice A1 h.attrs.length c1, .string Y, .slice A2 n2 c2] 33 (0, 0)) := by rw [hW]; exact heap_alloc_new w _
  have hlt : w.heap.size < W.heap.size := by rw [hW, World.size_alloc]; omega
  rw [← hR]
  rw [← hX, ← hY] at HIT HTG HBK
  rw [← hX, ← hY]
  rw [← hX] at HVD HRW
  rw [← hY, ← hQ] at HTX
  rw [← hS] at HTG
  rw [← hW] at HIT HBK
  have HWS1 := hide (HWS.out (startW h))
  have HWS2 := hide (HWS.out (escQ false h.text))
  rw [← hS] at HWS1
  rw [← hQ] at HWS2
  have HCC := hide hcell
  have HLT := hide hlt
  have HWW := hide hW
  have HRR := hide hR
  clear hi hm hA hs hE hbk hX hY hS hQ hcell hlt hW hR HWS hK hkl
  go_enter Tryz.func54, Tryz.ntmps54
  go_wp2_with fail
  rw [← HWW.out]
  refine HIT.out.mono ?_
  rintro e w1 ⟨rfl, hb1⟩
  have hk1 := KT.below hb1
  have hcell := (hk1 _ _ _ _ HCC.out (by decide) (by decide)).trans HCC.out
  have d0 : w1.cell? ⟨w.heap.size, 0, none⟩ = some (.string X) := (Lib.cell_of_heap hcell 0).trans rfl
  have d1 : w1.cell? ⟨w.heap.size, 1, none⟩ = some (.slice A1 h.attrs.length c1) := (Lib.cell_of_heap hcell 1).trans rfl
  have d2 : w1.cell? ⟨w.heap.size, 2, none⟩ = some (.string Y) := (Lib.cell_of_heap hcell 2).trans rfl
  have d3 : w1.cell? ⟨w.heap.size, 3, none⟩ = some (.slice A2 n2 c2) := (Lib.cell_of_heap hcell 3).trans rfl
  have HB1 := hide (bl_one HBK.out hb1)
  have HCC1 := hide hcell
  clear hcell hb1 hk1
  by_cases e : elemB h = false
  · rw [e]
    have hn : h.name = [] := by simpa [elemB] using e
    have HS : Hid (serBg s h K = s ++ escQ false h.text) := hide (by simp [serBg, hn])
    have HD : Hid (serDv h = false) := hide (by simp [serDv, e])
    clear hn e
    go_wp2_with fail
    refine (HTX.out _ HB1.out).mono ?_
    rintro e w2 ⟨rfl, hb2⟩
    have HB2 := hide (bl_one HB1.out hb2)
    clear hb2
    go_wp2_with fail
    refine (HWS2.out _ HB2.out (by have := HM.out; rw [HS.out, List.length_append] at this; exact this)).mono ?_
    rintro e w3 ⟨rfl, h3, h4⟩
    have H3 := hide h3
    have H4 := hide ((KT.below HB2.out).trans h4)
    clear h3 h4
    go_wp2_with fail
    go_ret
    exact ⟨by rw [HRR.out, HD.out]; rfl, by rw [HS.out]; exact ⟨H3.out.1, HI.out.2.1.trans H3.out.2.1, H3.out.2.2⟩, H4.out⟩
  · replace e : elemB h = true := by simpa using e
    rw [e]
    have hn : h.name ≠ [] := by simpa [elemB] using e
    have HSL : Hid (s.length + (startW h).length ≤ 1000000000) := hide (by
      have := HM.out
      unfold serBg at this
      rw [if_neg hn] at this
      repeat' split at this
      all_goals (simp only [List.length_append] at this; omega))
    go_wp2_with fail
    refine (HTG.out _ HB1.out).mono ?_
    rintro e w2 ⟨rfl, hb2⟩
    have HB2 := hide (bl_one HB1.out hb2)
    have HK2 := hide (KT.below hb2)
    clear hb2
    go_wp2_with fail
    refine (HWS1.out _ HB2.out HSL.out).mono ?_
    rintro e w3 ⟨rfl, h3, h4⟩
    have hcell := ((HK2.out.trans h4) _ _ _ _ HCC1.out (by decide) (by decide)).trans HCC1.out
    have e0 : w3.cell? ⟨w.heap.size, 0, none⟩ = some (.string X) := (Lib.cell_of_heap hcell 0).trans rfl
    have e3 : w3.cell? ⟨w.heap.size, 3, none⟩ = some (.slice A2 n2 c2) := (Lib.cell_of_heap hcell 3).trans rfl
    have H3 := hide h3
    have H4 := hide ((KT.below HB2.out).trans h4)
    clear h3 h4 hcell
    by_cases v : voidB h.name = true
    · have HS : Hid (serBg s h K = s ++ startW h) := hide (by simp [serBg, hn, v])
      have HD : Hid (serDv h = false) := hide (by simp [serDv, v])
      rw [v] at HVD
      clear hn e v
      go_wp2_with (go_at_call 31; refine (HVD.out _).mono ?_; rintro e w5 ⟨rfl, hw5⟩; subst hw5)
      go_ret
      exact ⟨by rw [HRR.out, HD.out]; rfl, by rw [HS.out]; exact ⟨H3.out.1, HI.out.2.1.trans H3.out.2.1, H3.out.2.2⟩, H4.out⟩
    · have v0 : voidB h.name = false := by simpa using v
      rw [v0] at HVD
      by_cases r : rawB h.name = true
      · have HS : Hid (serBg s h K = s ++ startW h ++ rawK K) := hide (by simp [serBg, hn, v0, r])
        have HD : Hid (serDv h = false) := hide (by simp [serDv, r])
        rw [r] at HRW
        clear hn e v v0 r
        go_wp2_with (first
          | (go_at_call 31; refine (HVD.out _).mono ?_; rintro e w5 ⟨rfl, hw5⟩; subst hw5)
          | (go_at_call 99; refine (HRW.out _).mono ?_; rintro e w5 ⟨rfl, hw5⟩; subst hw5)
          | (go_at_call 100; refine (HWR.out _ _ H3.out (by have := HM.out; rw [HS.out] at this; exact this)).mono ?_; rintro e w6 ⟨rfl, h5, h6⟩; have H5 := hide h5; have H6 := hide (H4.out.trans h6); clear h5 h6))
        go_ret
        exact ⟨by rw [HRR.out, HD.out]; rfl, by rw [HS.out]; exact ⟨H5.out.1, HI.out.2.1.trans H5.out.2.1, H5.out.2.2⟩, H6.out⟩
      · have r0 : rawB h.name = false := by simpa using r
        have HS : Hid (serBg s h K = s ++ startW h) := hide (by simp [serBg, hn, v0, r0])
        have HD : Hid (serDv h = true) := hide (by simp [serDv, e, v0, r0])
        rw [r0] at HRW
        clear hn e v v0 r r0
        go_wp2_with (first
          | (go_at_call 31; refine (HVD.out _).mono ?_; rintro e w5 ⟨rfl, hw5⟩; subst hw5)
          | (go_at_call 99; refine (HRW.out _).mono ?_; rintro e w5 ⟨rfl, hw5⟩; subst hw5))
        go_ret
        exact ⟨by rw [HRR.out, HD.out]; rfl, by rw [HS.out]; exact ⟨H3.out.1, HI.out.2.1.trans H3.out.2.1, H3.out.2.2⟩, H4.out⟩
set_option maxHeartbeats 4000000 in
theorem wr_beg (W0 : World) (hE : EnvX W0) : BegOK W0.heap.size 53 #[.pointer (some ⟨W0.heap.size, 0, none⟩)] (fun s w => Bld W0.heap.size W0.heap.size s W0 w) serBg serDv List.length 1000000000 (fun h K => wideH h = true ∧ K.len ≤ 1000000) := by
  intro s w h K av A m c hi hB hG ha hk hm
  obtain ⟨A1, c1, rfl⟩ := ha.1.form
  show Calls Tryz.prog _ #[ndV h _ _, .pointer (some ⟨W0.heap.size, 0, none⟩)] w _
  unfold ndV
  obtain ⟨R, hR⟩ : ∃ R, R = (if serDv h = true then Value.slice A m c else Value.slice none 0 0) := ⟨_, rfl⟩
  have hbk := below_one w (Obj.cells #[.string (str h.name), .slice A1 h.attrs.length c1, .string (str h.text), .slice A m c] 33)
  have hi1 := hi.kept hbk
  have hb := serBegin_any W0.heap.size W0.heap.size s h K w _ A1 A m c1 c ⟨hi1.1, hbk.mono hB, hi1.2.2⟩ (ha.1.kept hbk) (NodesC.mono hk (same_below (hbk.mono hB)) (fun _ x => x)) hG.2 hG.1 (hE.kept hi1.2.1) hm
  rw [← hR] at hb ⊢
  have HB := hide hb
  have HI := hide hi
  have HK := hide (KT.below hbk)
  clear hi hB hG ha hk hm hR hE hb hbk hi1
  go_enter Tryz.func53, Tryz.ntmps53
  go_wp2_with fail
  refine HB.out.mono ?_
  rintro e w1 ⟨rfl, h1, h2⟩
  have H1 := hide h1
  have H2 := hide (HK.out.trans h2)
  clear h1 h2
  go_wp2_with fail
  go_ret
  exact ⟨rfl, ⟨H1.out.1, HI.out.2.1.trans H1.out.2.1, H1.out.2.2⟩, frl_kt H1.out.2.1 H2.out⟩
def serEn2 (s : List UInt8) (h : NdH) : List UInt8 := if wideH h = true then serEn s h else s ++ List.replicate 1000000001 0
theorem serEn2_le (s : List UInt8) (h : NdH) : s.length ≤ (serEn2 s h).length := by
  unfold serEn2; split
  · exact serEn_le s h
  · rw [List.length_append]; omega
theorem serEn2_wide {s : List UInt8} {h : NdH} (hm : (serEn2 s h).length ≤ 1000000000) : wideH h = true ∧ serEn2 s h = serEn s h := by
  by_cases hs : wideH h = true
  · exact ⟨hs, by unfold serEn2; rw [if_pos hs]⟩
  · exfalso
    unfold serEn2 at hm
    rw [if_neg hs, List.length_append, List.length_replicate] at hm
    omega
theorem vis_write2 (T : Tr) (s : List UInt8) (ha : T.all wideH = true) : vis serBg serEn2 serDv T s = s ++ writeT T := by
  rw [← vis_write T s]
  induction T generalizing s with
  | nil => rfl
  | cons h K R ihk ihr =>
    simp only [Tr.all, Bool.and_eq_true] at ha
    have e : ∀ x, serEn2 x h = serEn x h := fun x => by unfold serEn2; rw [if_pos ha.1]
    simp only [vis, e, ihr _ ha.2.2, ihk _ ha.2.1]
theorem ev_wide (T : Tr) (ha : T.all wideH = true) (hc : T.count ≤ 1000000) : T.ev (fun h K => wideH h = true ∧ K.len ≤ 1000000) := by
  induction T with
  | nil => trivial
  | cons h K R ihk ihr =>
    simp only [Tr.all, Bool.and_eq_true] at ha
    simp only [Tr.count] at hc
    exact ⟨⟨ha.1, Nat.le_trans (Tr.len_count K) (by omega)⟩, ihk ha.2.1 (by omega), ihr ha.2.2 (by omega)⟩
set_option maxHeartbeats 4000000 in
theorem wr_end (W0 : World) (hE : EnvX W0) : EndOK W0.heap.size 55 #[.pointer (some ⟨W0.heap.size, 0, none⟩)] (fun s w => Bld W0.heap.size W0.heap.size s W0 w) serEn2 List.length 1000000000 := by
  intro s w h K av kv hi hB ha hk hm0
  obtain ⟨hsm, he2⟩ := serEn2_wide hm0
  rw [he2] at hm0
  have hm := hm0
  rw [he2]
  obtain ⟨A1, c1, rfl⟩ := ha.1.form
  obtain ⟨A2, c2, rfl⟩ := hk.form
  show Calls Tryz.prog _ #[ndV h _ _, .pointer (some ⟨W0.heap.size, 0, none⟩)] w _
  unfold ndV
  have hbk := below_one w (Obj.cells #[.string (str h.name), .slice A1 h.attrs.length c1, .string (str h.text), .slice A2 K.len c2] 33)
  have hi1 := hi.kept hbk
  have hb := serEnd_any W0.heap.size W0.heap.size s h w _ A1 A2 K.len c1 c2 ⟨hi1.1, hbk.mono hB, hi1.2.2⟩ (ha.1.kept hbk) hsm (hE.kept hi1.2.1) hm
  have HB := hide hb
  have HI := hide hi
  have HK := hide (KT.below hbk)
  clear hi hB ha hk hm hm0 hsm he2 hE hb hbk hi1
  go_enter Tryz.func55, Tryz.ntmps55
  go_wp2_with fail
  refine HB.out.mono ?_
  rintro e w1 ⟨rfl, h1, h2⟩
  have H1 := hide h1
  have H2 := hide (HK.out.trans h2)
  clear h1 h2
  go_wp2_with fail
  go_end0
  exact ⟨rfl, ⟨H1.out.1, HI.out.2.1.trans H1.out.2.1, H1.out.2.2⟩, frl_kt H1.out.2.1 H2.out⟩
set_option maxHeartbeats 4000000 in
theorem serWriteW_any (v : Value) (T : Tr) (w : World) (hE : EnvX w) (hT : NodesIn w v T) (ha : T.all wideH = true) (hc : T.count ≤ 1000000) (hl : (writeT T).length ≤ 1000000000) :
    Calls Tryz.prog 21 #[v] w fun e w' => e = .returned (.string (str (writeT T))) ∧ Below w.heap.size w w' := by
  have hbk := below_one w (Obj.cells #[.pointer none, .slice none 0 0] 78)
  have hnew : Bld w.heap.size w.heap.size [] w (w.alloc (Obj.cells #[.pointer none, .slice none 0 0] 78)) := Bld.new (Below.refl _ _) (Nat.le_refl _)
  have HB := hide (walk_gen w.heap.size 53 55 #[.pointer (some ⟨w.heap.size, 0, none⟩)] #[.pointer (some ⟨w.heap.size, 0, none⟩)] (enters_of Tryz.func53 (by kernel_rfl) rfl) (enters_of Tryz.func55 (by kernel_rfl) rfl) (fun s w' => Bld w.heap.size w.heap.size s w w') serBg serEn2 serDv List.length 1000000000 (fun h K => wideH h = true ∧ K.len ≤ 1000000) serBg_le serEn2_le (bld_inv _ _ _) (wr_beg w hE) (wr_end w hE) v T [] (w.alloc (Obj.cells #[.pointer none, .slice none 0 0] 78)) (NodesC.mono hT (same_below hbk) (fun _ x => x)) (ev_wide T ha hc) hc (by rw [vis_write2 T [] ha, List.nil_append]; exact hl) hnew hbk.size)
  rw [vis_write2 T [] ha, List.nil_append] at HB
  obtain ⟨A, c, rfl⟩ := NodesC.form hT
  have hmf : ∀ (fn : Fn) (first cap : Array Value) (w : World), (Instr.makeFunc fn first cap).run Tryz.prog w = .ok (.func fn first cap) w := fun _ _ _ _ => rfl
  clear hT hbk hnew ha hE
  go_enter Tryz.func21, Tryz.ntmps21
  go_wp2_with fail
  refine HB.out.mono ?_
  rintro e w1 ⟨rfl, h1, h2⟩
  have HS := hide h1.string
  clear h1 h2
  go_wp2_with fail
  refine HS.out.mono ?_
  rintro e w2 ⟨rfl, h3⟩
  have H3 := hide h3
  clear h3
  go_wp2_with fail
  go_ret
  exact ⟨rfl, H3.out⟩
end Go.Proofs.YtiejmkjpgjbodaaGreatDoor
