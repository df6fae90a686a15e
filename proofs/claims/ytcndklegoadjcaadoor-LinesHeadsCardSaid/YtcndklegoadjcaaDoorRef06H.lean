/- WALK of the reference of layer 6: Head. No statement is proved here. -/
import Derived.Test.YtcndklegoadjcaaDoorRef06C
import Derived.Test.YtcndklegoadjcaaDoorRef06F
import Derived.Test.YtcndklegoadjcaaDoorFBuf

namespace Go.Proofs.YtcndklegoadjcaaDoor
open Go.RowKit
set_option linter.unusedVariables false
set_option linter.unusedSimpArgs false
set_option maxRecDepth 100000

def trimF (f : FieldL) : FieldL := (f.1, trimT f.2)
theorem putLast_snoc (r : List FieldL) (f : FieldL) (x : List UInt8) : putLast (r ++ [f]) x = r ++ [(f.1, f.2 ++ x)] := by
  unfold putLast; rw [List.getLast?_concat]; simp only [List.dropLast_concat]
theorem set_snoc (r : List FieldL) (f g : FieldL) : (r ++ [f]).set r.length g = r ++ [g] := by
  rw [List.set_append_right _ _ (Nat.le_refl _), Nat.sub_self]; rfl
/-- an empty line has an end -/
theorem line_ended {l : List UInt8} (h : l ≠ []) (hl : lineL l = []) : hasC 10 l = true := by
  cases hh : hasC 10 l with
  | true => rfl
  | false => unfold lineL at hl; rw [hh, if_neg (by decide)] at hl; exact absurd hl h
/-- what holds at place a of the header's loop -/
structure HeadSt (s : List UInt8) (a : Nat) (acc : List FieldL) (op : Bool) : Prop where
  rest : headR acc op (s.drop a) = headR [] false s
  opened : op = true → acc ≠ []
  len : acc.length ≤ a
  size : ∀ f ∈ acc, f.1.length ≤ a ∧ f.2.length ≤ a
theorem headSt_start (s : List UInt8) : HeadSt s 0 [] false := ⟨rfl, fun h => (by cases h), Nat.zero_le _, fun f h => (by cases h)⟩
theorem line_le {s : List UInt8} {a : Nat} (h : a < s.length) : (lineL (s.drop a)).length + a ≤ behindA s a := by
  have hne : s.drop a ≠ [] := by intro e; have := congrArg List.length e; rw [List.length_drop, List.length_nil] at this; omega
  have h1 := line_after hne
  rw [List.length_drop] at h1
  unfold behindA; omega
theorem drop_ne {s : List UInt8} {a : Nat} (h : a < s.length) : s.drop a ≠ [] := by intro e; have := congrArg List.length e; rw [List.length_drop, List.length_nil] at this; omega
section
variable {s : List UInt8} {a : Nat} {acc : List FieldL} {op : Bool}
theorem headSt_body (h : HeadSt s a acc op) (ha : a < s.length) (hl : lineL (s.drop a) = []) : headR [] false s = (acc, s.drop (behindA s a)) := by
  rw [← h.rest, headR_body acc op (drop_ne ha) hl, (behind_at ha).2.2]
theorem headSt_end (h : HeadSt s a acc op) (ha : ¬ a < s.length) : headR [] false s = (acc, []) := by
  rw [← h.rest, List.drop_eq_nil_of_le (by omega), headR_nil]
theorem headSt_shut (h : HeadSt s a acc op) (ha : a < s.length) (hl : lineL (s.drop a) ≠ []) (hw : wsT ((lineL (s.drop a)).getD 0 0) = true) (ho : op = false) : HeadSt s (behindA s a) acc false := by
  subst ho
  have hb := behind_at ha
  exact ⟨by rw [← h.rest, headR_white acc false (drop_ne ha) hl hw, hb.2.2]; rfl, fun hh => (by cases hh), by have := h.len; omega, fun f hf => by have := h.size f hf; omega⟩
theorem headSt_open {r : List FieldL} {f : FieldL} (h : HeadSt s a (r ++ [f]) true) (ha : a < s.length) (hl : lineL (s.drop a) ≠ []) (hw : wsT ((lineL (s.drop a)).getD 0 0) = true) : HeadSt s (behindA s a) (r ++ [(f.1, f.2 ++ lineL (s.drop a))]) true := by
  have hb := behind_at ha
  have hll := line_le ha
  refine ⟨by rw [← h.rest, headR_white _ true (drop_ne ha) hl hw, hb.2.2, if_pos rfl, putLast_snoc], fun _ => by simp, by have := h.len; simp at *; omega, fun g hg => ?_⟩
  rcases List.mem_append.1 hg with hg | hg
  · have := h.size g (List.mem_append_left _ hg); omega
  · rw [List.mem_singleton.1 hg]
    have := h.size f (by simp)
    simp; omega
theorem headSt_field (h : HeadSt s a acc op) (ha : a < s.length) (hl : lineL (s.drop a) ≠ []) (hw : wsT ((lineL (s.drop a)).getD 0 0) = false) (hf : (fieldR (lineL (s.drop a))).2 = true) (hn : acc.length < 500) : HeadSt s (behindA s a) (acc ++ [(fieldR (lineL (s.drop a))).1]) true := by
  have hb := behind_at ha
  have hll := line_le ha
  have hfl : fieldL (lineL (s.drop a)) = some (fieldR (lineL (s.drop a))).1 := by rw [fieldR_some, if_pos hf]
  have hsz := field_size hfl
  refine ⟨by rw [← h.rest, headR_field acc op (drop_ne ha) hl hw hfl hn, hb.2.2], fun _ => by simp, by have := h.len; simp; omega, fun g hg => ?_⟩
  rcases List.mem_append.1 hg with hg | hg
  · have := h.size g hg; omega
  · rw [List.mem_singleton.1 hg]; omega
theorem headSt_none (h : HeadSt s a acc op) (ha : a < s.length) (hl : lineL (s.drop a) ≠ []) (hw : wsT ((lineL (s.drop a)).getD 0 0) = false) (hf : (fieldR (lineL (s.drop a))).2 = false ∨ 500 ≤ acc.length) : HeadSt s (behindA s a) acc false := by
  have hb := behind_at ha
  have hfl : fieldL (lineL (s.drop a)) = none ∨ 500 ≤ acc.length := by
    rcases hf with hf | hf
    · exact .inl (by rw [fieldR_some, hf, if_neg (by decide)])
    · exact .inr hf
  exact ⟨by rw [← h.rest, headR_none acc op (drop_ne ha) hl hw hfl, hb.2.2], fun hh => (by cases hh), by have := h.len; omega, fun f hf => by have := h.size f hf; omega⟩
end
set_option maxHeartbeats 4000000 in
theorem head06_any (s : ByteArray) (w : World) (hs : s.size ≤ 1048576) :
    Calls Tryd.prog 12 #[.string s] w fun e w' => ∃ v, e = .returned (.tuple #[v, .string (str (headL s.data.toList).2)]) ∧ FBuf w.heap.size v (headL s.data.toList).1 w w' := by
  have hsm : s.size ≤ 70368744177664 := by omega
  go_enter Tryd.func12, Tryd.ntmps12
  go_wp2_with fail
  go_loopw [4, 5, 6, 7] (fun o bd op i wr => ∃ (a : Nat) (acc : List FieldL) (opb : Bool), a ≤ s.size ∧ i = .int .i64 a ∧ op = .bool opb ∧ bd = .string ⟨#[]⟩ ∧ Hid (FBuf w.heap.size o acc w wr) ∧ Hid (HeadSt s.data.toList a acc opb)) (fun _ _ _ i _ => s.size - (intOf i).toNat)
  case atStart => exact ⟨0, [], false, Nat.zero_le _, rfl, rfl, rfl, hide (FBuf.nil (Below.refl _ _) (Nat.le_refl _)), hide (headSt_start _)⟩
  case round =>
    obtain ⟨a, acc, opb, ha, rfl, rfl, rfl, HB, HG⟩ := hrel
    by_cases hlt : a < s.size
    · have hlt' : a < s.data.toList.length := by rw [toList_length]; exact hlt
      have hat := behind_at hlt'
      rw [toList_length] at hat
      have HAT := hide hat
      obtain ⟨b, hb⟩ : ∃ b, b = behindA s.data.toList a := ⟨_, rfl⟩
      rw [← hb] at HAT
      have HBE := hide hb
      obtain ⟨LN, hLN⟩ : ∃ LN, LN = str (lineL (s.data.toList.drop a)) := ⟨_, rfl⟩
      obtain ⟨ed, hed⟩ : ∃ ed, ed = hasC 10 (s.data.toList.drop a) := ⟨_, rfl⟩
      have HV : Hid (nextV s.size (s.data.toList.drop a) = .tuple #[.int .i64 (b : Int), .string LN, .bool ed]) := hide (by
        unfold nextV; rw [hLN, hed, hb]; unfold behindA; rw [toList_length])
      have HLN := hide hLN
      have HED := hide hed
      have HLT := hide hlt'
      have hbs : (b : Int) ≤ s.size := by have := HAT.out.2.1; omega
      have hb0 : (0 : Int) ≤ b := by omega
      have HM : Hid (b ≤ s.size ∧ s.size - b < s.size - a) := hide (by have := HAT.out.1; have := HAT.out.2.1; omega)
      clear hat hb hLN hed hlt'
      by_cases hl : lineL (s.data.toList.drop a) = []
      · have t0 : LN.toList.isEmpty = true := emptyE (by rw [HLN.out, str_toList]; exact hl)
        have hed : ed = true := by rw [HED.out]; exact line_ended (drop_ne HLT.out) hl
        subst hed
        have HBODY := hide (headSt_body HG.out HLT.out hl)
        have HBX : Hid ((s.extract b s.size).data.toList = s.data.toList.drop (behindA s.data.toList a)) := hide (by rw [extract_end, HBE.out])
        clear hl
        go_wp2_with fail
        refine (next06_any s a _ hsm ha).mono ?_
        rintro e w2 ⟨rfl, hb2⟩
        rw [HV.out]
        replace HB := hide (HB.out.kept hb2)
        clear hb2
        go_wp2_with fail
        obtain ⟨A, c, rfl⟩ := HB.out.slice_len
        have hal : acc.length ≤ 1048576 := by have := HG.out.len; omega
        go_loopw [13] (fun i wq => ∃ k : Nat, k ≤ acc.length ∧ i = .int .i64 k ∧ Hid (FBuf w.heap.size (.slice A acc.length c) ((acc.take k).map trimF ++ acc.drop k) w wq)) (fun i _ => acc.length - (intOf i).toNat)
        case atStart => exact ⟨0, Nat.zero_le _, rfl, HB⟩
        case round =>
          obtain ⟨k, hk, rfl, HK⟩ := hrel
          by_cases hkl : k < acc.length
          · obtain ⟨f, hf⟩ : ∃ f, acc[k]? = some f := ⟨_, List.getElem?_eq_getElem hkl⟩
            have hlen : ((acc.take k).map trimF ++ acc.drop k).length = acc.length := by simp; omega
            have hfk : ((acc.take k).map trimF ++ acc.drop k)[k]? = some f := by
              rw [List.getElem?_append_right (by rw [List.length_map, List.length_take]; omega), List.length_map, List.length_take, Nat.min_eq_left hk, List.getElem?_drop]
              rw [show k + (k - k) = k by omega]; exact hf
            have hne : ((acc.take k).map trimF ++ acc.drop k) ≠ [] := by intro e; rw [e] at hfk; simp at hfk
            obtain ⟨g, c', hv, hgB⟩ := HK.out.form hne
            injection hv with hv1 hv2 hv3
            subst hv1
            have HKR := HK.out
            rw [← hlen] at HKR
            have hset := HKR.setValue hfk (trimT f.2)
            have hnext : ((acc.take k).map trimF ++ acc.drop k).set k (f.1, trimT f.2) = (acc.take (k + 1)).map trimF ++ acc.drop (k + 1) := by
              have e1 : acc.drop k = f :: acc.drop (k + 1) := by
                have h2 := (List.getElem?_eq_some_iff.1 hf).2
                rw [List.drop_eq_getElem_cons hkl, h2]
              have e2 : acc.take (k + 1) = acc.take k ++ [f] := by rw [List.take_add_one, hf]; rfl
              have e3 : ((acc.take k).map trimF).length = k := by rw [List.length_map, List.length_take]; omega
              rw [e1, List.set_append_right _ _ (by omega), e3, Nat.sub_self, e2, List.map_append]
              simp [trimF]
            have hcell := (HKR.1.cells (g := g) rfl _ _ (fieldVals_at hfk).2)
            rw [Addr.add_lit, Nat.zero_add] at hcell
            have hfree := ownsRow_free HKR.1 (k * 2 + 1)
            rw [hnext] at hset
            have hl2 : ((acc.take (k + 1)).map trimF ++ acc.drop (k + 1)).length = acc.length := by rw [← hnext, List.length_set, hlen]
            rw [hl2] at hset
            have HSET := hide hset
            have hfs : f.2.length ≤ s.size := by have := (HG.out.size f (List.mem_of_getElem? hf)).2; omega
            obtain ⟨X, hX⟩ : ∃ X, X = str f.2 := ⟨_, rfl⟩
            have HX := hide hX
            have hXs : X.size ≤ maxLen := by rw [hX, str_size]; unfold maxLen; omega
            have HXS := hide hXs
            have HT : Hid (str (trimT X.data.toList) = str (trimT f.2)) := hide (by rw [hX, str_toList])
            rw [← hX] at hcell
            clear hfk hne hlen hv2 hv3 HKR hset hnext hl2 hfs hX hXs hf
            go_wp2_with fail
            refine (trim06_any X _ HXS.out).mono ?_
            rintro e w2 ⟨rfl, rfl⟩
            rw [HT.out]
            go_wp2_with fail
            go_roundw
            case rel => exact ⟨k + 1, by omega, by go_num, HSET⟩
            case measure => simp [intOf]; omega
          · have HD : Hid (FBuf w.heap.size (.slice A acc.length c) (acc.map trimF) w _) := hide (by
              have := HK.out
              rwa [List.take_of_length_le (by omega), List.drop_eq_nil_of_le (by omega), List.append_nil] at this)
            have HH : Hid (headL s.data.toList = (acc.map trimF, s.data.toList.drop (behindA s.data.toList a))) := hide (by unfold headL; rw [HBODY.out]; rfl)
            go_wp2_with fail
            go_ret2
            exact ⟨.slice A acc.length c, by rw [HH.out]; show _ = Ending.returned (.tuple #[_, .string (str (s.data.toList.drop (behindA s.data.toList a)))]); rw [← HBX.out, str_of]; rfl, by rw [HH.out]; exact HD.out⟩
      · have t0 : LN.toList.isEmpty = false := emptyN (by rw [HLN.out, str_toList]; exact hl)
        have hsz : 0 < LN.size := by
          rw [HLN.out, str_size]; exact List.length_pos_iff.2 hl
        have HW0 : Hid (wsT LN[0] = wsT ((lineL (s.data.toList.drop a)).getD 0 0)) := hide (by
          have e : LN.data.toList = lineL (s.data.toList.drop a) := by rw [HLN.out, str_toList]
          have e2 : LN.data.toList = LN[0] :: LN.data.toList.drop 1 := by have := drop_cons LN 0 hsz; rwa [List.drop_zero] at this
          rw [← e, e2]; rfl)
        have HL := hide hl
        have hls : LN.size ≤ 1048576 := by
          have := line_le HLT.out
          have h2 := HAT.out.2.1
          rw [← HBE.out] at this
          rw [HLN.out, str_size]; omega
        clear hl
        cases hw : wsT ((lineL (s.data.toList.drop a)).getD 0 0) with
        | true =>
          have HW : Hid (wsT LN[0] = true) := hide (by rw [HW0.out]; exact hw)
          have HWT := hide hw
          clear hw
          cases hop : opb with
          | false =>
            subst hop
            have HN : Hid (HeadSt s.data.toList b acc false) := hide (by rw [HBE.out]; exact headSt_shut HG.out HLT.out HL.out HWT.out rfl)
            go_wp2_with fail
            refine (next06_any s a _ hsm ha).mono ?_
            rintro e w2 ⟨rfl, hb2⟩
            rw [HV.out]
            have HB2 := hide (HB.out.kept hb2)
            clear hb2
            go_wp2_with fail
            refine (white06_any _ _).mono ?_
            rintro e w3 ⟨rfl, rfl⟩
            rw [HW.out]
            go_wp2_with fail
            go_roundw
            case rel => exact ⟨b, acc, false, HM.out.1, rfl, rfl, rfl, HB2, HN⟩
            case measure => exact HM.out.2
          | true =>
            subst hop
            have hne := HG.out.opened rfl
            obtain ⟨r, f, rfl⟩ : ∃ r f, acc = r ++ [f] := by
              rcases List.eq_nil_or_concat acc with h | ⟨r, p, h⟩
              · exact absurd h hne
              · exact ⟨r, p, by rw [h, List.concat_eq_append]⟩
            obtain ⟨g, c, rfl, hgB⟩ := HB.out.form hne
            have HN : Hid (HeadSt s.data.toList b (r ++ [(f.1, f.2 ++ lineL (s.data.toList.drop a))]) true) := hide (by rw [HBE.out]; exact headSt_open HG.out HLT.out HL.out HWT.out)
            obtain ⟨m, hm⟩ : ∃ m, m = (r ++ [f]).length := ⟨_, rfl⟩
            have hmr : m = r.length + 1 := by rw [hm]; simp
            have hm20 : m ≤ 1048576 := by have := HG.out.len; omega
            have hfs := (HG.out.size f (by simp)).2
            obtain ⟨X, hX⟩ : ∃ X, X = str f.2 := ⟨_, rfl⟩
            have hXs : X.size ≤ 1048576 := by rw [hX, str_size]; omega
            have HXL : Hid (str (f.2 ++ lineL (s.data.toList.drop a)) = X ++ LN) := hide (by rw [str_append, hX, HLN.out])
            have HX := hide hX
            have HMM := hide hm
            have i0 : wrap64 ((m : Int) - 1) = (r.length : Int) := by rw [hmr]; unfold wrap64; omega
            have i2 : (r.length : Int) < m := by omega
            have i4 : r.length < m := by omega
            have HB' : Hid (FBuf w.heap.size (.slice (some ⟨g, 0, none⟩) m c) (r ++ [f]) w wr) := hide (by rw [hm]; exact HB.out)
            rw [← hm]
            clear hne hm hmr hfs hX hm20 HB
            go_wp2_with fail
            refine (next06_any s a _ hsm ha).mono ?_
            rintro e w2 ⟨rfl, hb2⟩
            rw [HV.out]
            have HB2 : Hid (FBuf w.heap.size (.slice (some ⟨g, 0, none⟩) (r ++ [f]).length c) (r ++ [f]) w w2) := hide (by have := HB'.out.kept hb2; rwa [HMM.out] at this)
            clear hb2
            have hcell := (HB2.out.1.cells (g := g) rfl _ _ (fieldVals_at (l := r ++ [f]) (j := r.length) (f := f) (by simp)).2)
            rw [Addr.add_lit, Nat.zero_add, ← HX.out] at hcell
            have hfree := ownsRow_free HB2.out.1 (r.length * 2 + 1)
            have HSET : Hid (FBuf w.heap.size (.slice (some ⟨g, 0, none⟩) m c) (r ++ [(f.1, f.2 ++ lineL (s.data.toList.drop a))]) w (w2.setCell ⟨g, r.length * 2 + 1, none⟩ (.string (X ++ LN)))) := hide (by
              have := HB2.out.setValue (j := r.length) (f := f) (by simp) (f.2 ++ lineL (s.data.toList.drop a))
              rw [set_snoc, HXL.out] at this
              have e : (r ++ [(f.1, f.2 ++ lineL (s.data.toList.drop a))]).length = m := by rw [HMM.out]; simp
              rw [e] at this; exact this)
            go_wp2_with fail
            refine (white06_any _ _).mono ?_
            rintro e w3 ⟨rfl, rfl⟩
            rw [HW.out]
            go_wp2_with fail
            go_roundw
            case rel => exact ⟨b, _, true, HM.out.1, rfl, rfl, rfl, HSET, HN⟩
            case measure => exact HM.out.2
        | false =>
          have HW : Hid (wsT LN[0] = false) := hide (by rw [HW0.out]; exact hw)
          have HWT := hide hw
          clear hw
          obtain ⟨A, c, rfl⟩ := HB.out.slice_len
          have hal : acc.length ≤ 1048576 := by have := HG.out.len; omega
          obtain ⟨f, hf⟩ : ∃ f, f = (fieldR (lineL (s.data.toList.drop a))).1 := ⟨_, rfl⟩
          obtain ⟨FN, hFN⟩ : ∃ FN, FN = str f.1 := ⟨_, rfl⟩
          obtain ⟨FV, hFV⟩ : ∃ FV, FV = str f.2 := ⟨_, rfl⟩
          have HFN := hide hFN
          have HFV := hide hFV
          have HFF := hide hf
          have hls7 : LN.size ≤ 70368744177664 := by omega
          have HLS := hide hls7
          cases his : (fieldR (lineL (s.data.toList.drop a))).2 with
          | true =>
            have HFD : Hid (fieldRV (fieldR LN.data.toList) = .tuple #[.agg #[.string FN, .string FV], .bool true]) := hide (by
              rw [HLN.out, str_toList]; unfold fieldRV; rw [his, hFN, hFV, hf])
            by_cases hlen : acc.length < 500
            · have t2 : decide ((acc.length : Int) < 500) = true := decide_eq_true (by omega)
              have HN : Hid (HeadSt s.data.toList b (acc ++ [f]) true) := hide (by rw [HBE.out, hf]; exact headSt_field HG.out HLT.out HL.out HWT.out his hlen)
              have HLEN : Hid (acc.length + 1 ≤ 4398046511104) := hide (by omega)
              clear his hlen hf hFN hFV hls7
              go_wp2_with fail
              refine (next06_any s a _ hsm ha).mono ?_
              rintro e w2 ⟨rfl, hb2⟩
              rw [HV.out]
              have HB2 := hide (HB.out.kept hb2)
              clear hb2
              go_wp2_with fail
              refine (white06_any _ _).mono ?_
              rintro e w3 ⟨rfl, rfl⟩
              rw [HW.out]
              go_wp2_with fail
              refine (field06_any LN _ HLS.out).mono ?_
              rintro e w4 ⟨rfl, hb4⟩
              rw [HFD.out]
              have HB4 := hide ((HB2.out.kept hb4).alloc (.cells #[.string FN, .string FV] 40))
              have hc0 : (w4.alloc (.cells #[.string FN, .string FV] 40)).cell? { block := w4.heap.size, off := 0 } = some (.string FN) := by rw [World.cell?_alloc_at _ _ _ _ rfl]; rfl
              have hc1 : (w4.alloc (.cells #[.string FN, .string FV] 40)).cell? { block := w4.heap.size, off := 1 } = some (.string FV) := by rw [World.cell?_alloc_at _ _ _ _ rfl]; rfl
              have hn := two_new (w4.alloc (.cells #[.string FN, .string FV] 40)) (.string FN) (.string FV) 40
              rw [World.size_alloc] at hn
              have HNW := hide hn
              clear hb4 hn
              go_wp2_with (refine wpList_fields rfl _ _ rfl w.heap.size (.slice A acc.length c) acc rfl w f (HB4.out.alloc _) ⟨w4.heap.size + 1, 0, none⟩ rfl (by rw [← HFN.out]; exact HNW.out.1) (by rw [← HFV.out]; exact HNW.out.2) HLEN.out ?_; intro v5 w5 hb5; have HB5 := hide hb5; clear hb5)
              go_roundw
              case rel => exact ⟨b, acc ++ [f], true, HM.out.1, rfl, rfl, rfl, HB5, HN⟩
              case measure => exact HM.out.2
            · have t2 : decide ((acc.length : Int) < 500) = false := decide_eq_false (by omega)
              have t3 : (500 : Int) ≤ acc.length := by omega
              have HN : Hid (HeadSt s.data.toList b acc false) := hide (by rw [HBE.out]; exact headSt_none HG.out HLT.out HL.out HWT.out (.inr (by omega)))
              clear his hlen hf hFN hFV hls7
              go_wp2_with fail
              refine (next06_any s a _ hsm ha).mono ?_
              rintro e w2 ⟨rfl, hb2⟩
              rw [HV.out]
              have HB2 := hide (HB.out.kept hb2)
              clear hb2
              go_wp2_with fail
              refine (white06_any _ _).mono ?_
              rintro e w3 ⟨rfl, rfl⟩
              rw [HW.out]
              go_wp2_with fail
              refine (field06_any LN _ HLS.out).mono ?_
              rintro e w4 ⟨rfl, hb4⟩
              rw [HFD.out]
              have HB4 := hide ((HB2.out.kept hb4).alloc (.cells #[.string FN, .string FV] 40))
              clear hb4
              go_wp2_with fail
              go_roundw
              case rel => exact ⟨b, acc, false, HM.out.1, rfl, rfl, rfl, HB4, HN⟩
              case measure => exact HM.out.2
          | false =>
            have HFD : Hid (fieldRV (fieldR LN.data.toList) = .tuple #[.agg #[.string FN, .string FV], .bool false]) := hide (by
              rw [HLN.out, str_toList]; unfold fieldRV; rw [his, hFN, hFV, hf])
            have HN : Hid (HeadSt s.data.toList b acc false) := hide (by rw [HBE.out]; exact headSt_none HG.out HLT.out HL.out HWT.out (.inl his))
            clear his hf hFN hFV hls7
            go_wp2_with fail
            refine (next06_any s a _ hsm ha).mono ?_
            rintro e w2 ⟨rfl, hb2⟩
            rw [HV.out]
            have HB2 := hide (HB.out.kept hb2)
            clear hb2
            go_wp2_with fail
            refine (white06_any _ _).mono ?_
            rintro e w3 ⟨rfl, rfl⟩
            rw [HW.out]
            go_wp2_with fail
            refine (field06_any LN _ HLS.out).mono ?_
            rintro e w4 ⟨rfl, hb4⟩
            rw [HFD.out]
            have HB4 := hide ((HB2.out.kept hb4).alloc (.cells #[.string FN, .string FV] 40))
            clear hb4
            go_wp2_with fail
            go_roundw
            case rel => exact ⟨b, acc, false, HM.out.1, rfl, rfl, rfl, HB4, HN⟩
            case measure => exact HM.out.2
    · have HBODY := hide (headSt_end HG.out (by rw [toList_length]; exact hlt))
      go_wp2_with fail
      obtain ⟨A, c, rfl⟩ := HB.out.slice_len
      have hal : acc.length ≤ 1048576 := by have := HG.out.len; omega
      go_loopw [13] (fun i wq => ∃ k : Nat, k ≤ acc.length ∧ i = .int .i64 k ∧ Hid (FBuf w.heap.size (.slice A acc.length c) ((acc.take k).map trimF ++ acc.drop k) w wq)) (fun i _ => acc.length - (intOf i).toNat)
      case atStart => exact ⟨0, Nat.zero_le _, rfl, HB⟩
      case round =>
        obtain ⟨k, hk, rfl, HK⟩ := hrel
        by_cases hkl : k < acc.length
        · obtain ⟨f, hf⟩ : ∃ f, acc[k]? = some f := ⟨_, List.getElem?_eq_getElem hkl⟩
          have hlen : ((acc.take k).map trimF ++ acc.drop k).length = acc.length := by simp; omega
          have hfk : ((acc.take k).map trimF ++ acc.drop k)[k]? = some f := by
            rw [List.getElem?_append_right (by rw [List.length_map, List.length_take]; omega), List.length_map, List.length_take, Nat.min_eq_left hk, List.getElem?_drop]
            rw [show k + (k - k) = k by omega]; exact hf
          have hne : ((acc.take k).map trimF ++ acc.drop k) ≠ [] := by intro e; rw [e] at hfk; simp at hfk
          obtain ⟨g, c', hv, hgB⟩ := HK.out.form hne
          injection hv with hv1 hv2 hv3
          subst hv1
          have HKR := HK.out
          rw [← hlen] at HKR
          have hset := HKR.setValue hfk (trimT f.2)
          have hnext : ((acc.take k).map trimF ++ acc.drop k).set k (f.1, trimT f.2) = (acc.take (k + 1)).map trimF ++ acc.drop (k + 1) := by
            have e1 : acc.drop k = f :: acc.drop (k + 1) := by
              have h2 := (List.getElem?_eq_some_iff.1 hf).2
              rw [List.drop_eq_getElem_cons hkl, h2]
            have e2 : acc.take (k + 1) = acc.take k ++ [f] := by rw [List.take_add_one, hf]; rfl
            have e3 : ((acc.take k).map trimF).length = k := by rw [List.length_map, List.length_take]; omega
            rw [e1, List.set_append_right _ _ (by omega), e3, Nat.sub_self, e2, List.map_append]
            simp [trimF]
          have hcell := (HKR.1.cells (g := g) rfl _ _ (fieldVals_at hfk).2)
          rw [Addr.add_lit, Nat.zero_add] at hcell
          have hfree := ownsRow_free HKR.1 (k * 2 + 1)
          rw [hnext] at hset
          have hl2 : ((acc.take (k + 1)).map trimF ++ acc.drop (k + 1)).length = acc.length := by rw [← hnext, List.length_set, hlen]
          rw [hl2] at hset
          have HSET := hide hset
          have hfs : f.2.length ≤ s.size := by have := (HG.out.size f (List.mem_of_getElem? hf)).2; omega
          obtain ⟨X, hX⟩ : ∃ X, X = str f.2 := ⟨_, rfl⟩
          have HX := hide hX
          have hXs : X.size ≤ maxLen := by rw [hX, str_size]; unfold maxLen; omega
          have HXS := hide hXs
          have HT : Hid (str (trimT X.data.toList) = str (trimT f.2)) := hide (by rw [hX, str_toList])
          rw [← hX] at hcell
          clear hfk hne hlen hv2 hv3 HKR hset hnext hl2 hfs hX hXs hf
          go_wp2_with fail
          refine (trim06_any X _ HXS.out).mono ?_
          rintro e w2 ⟨rfl, rfl⟩
          rw [HT.out]
          go_wp2_with fail
          go_roundw
          case rel => exact ⟨k + 1, by omega, by go_num, HSET⟩
          case measure => simp [intOf]; omega
        · have HD : Hid (FBuf w.heap.size (.slice A acc.length c) (acc.map trimF) w _) := hide (by
            have := HK.out
            rwa [List.take_of_length_le (by omega), List.drop_eq_nil_of_le (by omega), List.append_nil] at this)
          have HH : Hid (headL s.data.toList = (acc.map trimF, [])) := hide (by unfold headL; rw [HBODY.out]; rfl)
          go_wp2_with fail
          go_ret2
          exact ⟨.slice A acc.length c, by rw [HH.out]; rfl, by rw [HH.out]; exact HD.out⟩
end Go.Proofs.YtcndklegoadjcaaDoor
