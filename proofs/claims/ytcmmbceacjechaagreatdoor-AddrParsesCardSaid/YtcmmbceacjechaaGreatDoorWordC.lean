/- WALKS of word.fitting, Encode. No statement is proved here. -/
import Derived.Test.YtcmmbceacjechaaGreatDoorBaseO
import Derived.Test.YtcmmbceacjechaaGreatDoorBaseM
import Derived.Test.YtcmmbceacjechaaGreatDoorBaseN
namespace Go.Proofs.YtcmmbceacjechaaGreatDoor
open Go.RowKit
set_option linter.unusedVariables false
set_option linter.unusedSimpArgs false
set_option maxRecDepth 100000

theorem runeStart_cont (c : UInt8) : Lib.runeStart (c.toNat : Int) = !contB c := u8_all (p := fun c => Lib.runeStart (c.toNat : Int) = !contB c) (by decide +kernel) c
theorem getD_at (s : ByteArray) (k : Nat) (h : k < s.size) : s.data.toList.getD k 0 = s[k] := by
  rw [List.getD_eq_getElem?_getD, List.getElem?_eq_getElem (by rw [toList_length]; exact h)]; rfl
set_option maxHeartbeats 1000000 in
theorem fitting_any (s : ByteArray) (w : World) (hs : s.size ≤ maxLen) (hw : allWhole s.data.toList = true) :
    Calls Tryz.prog 155 #[.string s] w fun e w' => e = .returned (.int .i64 (groupN 30 s.data.toList)) ∧ w = w' := by
  have hl := toList_length s
  unfold maxLen at hs
  by_cases h30 : s.size ≤ 30
  · have HG := hide (group_all hw (show s.data.toList.length ≤ 30 by omega))
    rw [hl] at HG
    clear hw hl
    go_enter Tryz.func155, Tryz.ntmps155
    go_wp2
    go_ret
    exact ⟨ret_int (by rw [HG.out]), rfl⟩
  · have hle := group_le 30 s.data.toList
    have HC := hide (group_cont hw (show 30 < s.data.toList.length by omega))
    obtain ⟨g, hg⟩ : ∃ g, g = groupN 30 s.data.toList := ⟨_, rfl⟩
    rw [← hg] at hle HC ⊢
    have hg30 : g ≤ 30 := hle.1
    clear hw hl hg hle
    go_enter Tryz.func155, Tryz.ntmps155
    go_wp2
    go_loop [3] (fun i => ∃ k : Nat, g ≤ k ∧ k ≤ 30 ∧ i = .int .i64 k) (fun i => (intOf i).toNat)
    case atStart => exact ⟨30, hg30, Nat.le_refl _, rfl⟩
    case round =>
      obtain ⟨k, hk1, hk2, rfl⟩ := hrel
      have hlt : k < s.size := by omega
      have HGD := hide (getD_at s k hlt)
      have hrs := runeStart_cont s[k]
      by_cases he : k = g
      · have hc : contB s[k] = false := by rw [← HGD.out, he]; exact HC.out.1
        rw [hc] at hrs
        have HRS := hide hrs
        have HE := hide he
        clear hrs hc he
        go_wp2_with fail
        refine (Tryz.utf8_RuneStart _ _ (by omega) (by have := byte_lt s[k]; omega)).mono ?_
        rintro e w1 ⟨rfl, hw1⟩
        subst hw1
        rw [HRS.out]
        go_wp2_with fail
        go_ret
        exact ⟨ret_int (by rw [HE.out]), rfl⟩
      · have hc : contB s[k] = true := by rw [← HGD.out]; exact HC.out.2 k (by omega) hk2
        rw [hc] at hrs
        have HRS := hide hrs
        clear hrs hc
        have hk0 : 1 ≤ k := by omega
        go_wp2_with fail
        refine (Tryz.utf8_RuneStart _ _ (by omega) (by have := byte_lt s[k]; omega)).mono ?_
        rintro e w1 ⟨rfl, hw1⟩
        subst hw1
        rw [HRS.out]
        go_wp2_with fail
        go_round
        case rel => exact ⟨k - 1, by omega, by omega, by go_num⟩
        case measure => simp [intOf]; omega

/-- may a text stand as it is? -/
def plainL (l : List UInt8) : Bool := withinB 32 126 l && !Lib.contains l [61, 63]
def encodeL (l : List UInt8) : List UInt8 := if plainL l then l else joinW (groups (validL l))
theorem join_words (gs : List (List UInt8)) : Lib.join (gs.map wordL) [32] = joinW gs := by
  induction gs with
  | nil => rfl
  | cons g r ih =>
    match r, ih with
    | [], _ => rw [List.map_cons, List.map_nil, Lib.join_one]; rfl
    | q :: r, ih =>
      rw [List.map_cons, Lib.join_cons] at ih
      rw [List.map_cons, Lib.join_cons, List.map_cons]
      show wordL g ++ ([32] ++ wordL q ++ Lib.joinTail [32] (r.map wordL)) = wordL g ++ 32 :: joinW (q :: r)
      rw [← ih]; simp
def szOfS : Value → Nat
  | .string t => t.size
  | _ => 0

theorem size0 {t : ByteArray} (h : t.size = 0) : t.data.toList = [] ∧ t.toList.isEmpty = true := by
  have e : t.data.toList = [] := List.eq_nil_of_length_eq_zero (by rw [toList_length]; exact h)
  exact ⟨e, by rw [bytes_list, e]; rfl⟩
theorem sizeP {t : ByteArray} (h : ¬ t.size = 0) : t.data.toList ≠ [] ∧ t.toList.isEmpty = false := by
  have hne : t.data.toList ≠ [] := fun e => by have := toList_length t; rw [e] at this; simp at this; omega
  refine ⟨hne, ?_⟩
  rw [bytes_list]
  cases h : t.data.toList with
  | nil => exact absurd h hne
  | cons _ _ => rfl
theorem group_pack (t : ByteArray) (hw : allWhole t.data.toList = true) (hne : t.data.toList ≠ []) :
    ∃ n, n = groupN 30 t.data.toList ∧ 0 < n ∧ n ≤ t.size ∧ allWhole (t.extract n t.size).data.toList = true ∧ groups t.data.toList = t.data.toList.take n :: groups (t.extract n t.size).data.toList ∧
      (t.extract 0 n).data.toList = t.data.toList.take n ∧ (t.extract 0 n).size ≤ 100000 ∧ (t.extract n t.size).size + n = t.size ∧ (0 : Int) ≤ n ∧ (n : Int) ≤ t.size := by
  have hgp := group_pos (room := 30) (by omega) hw hne
  have hgle := group_le 30 t.data.toList
  rw [toList_length] at hgle
  refine ⟨_, rfl, hgp, hgle.2, by rw [extract_end]; exact (group_whole 30 _ hw).1, by rw [extract_end]; exact groups_go (by omega), by rw [extract_list, List.drop_zero], by rw [ByteArray.size_extract]; omega, by rw [ByteArray.size_extract]; omega, by omega, by omega⟩
theorem enc_bounds {gs : List (List UInt8)} {t V : ByteArray} (h : gs.length + t.size ≤ V.size) (hV : V.size ≤ 300000) :
    gs.length ≤ 140737488355328 ∧ t.size ≤ maxLen ∧ (gs.map fun g => str (wordL g)).length + 1 ≤ 8796093022208 := by
  rw [List.length_map]; unfold maxLen; omega
theorem encE_size {x : ByteArray} {l : List UInt8} (hx : x.data.toList = l) (zX : x.size ≤ 100000) : (str (encB l)).size ≤ 300000 := by
  have := encB_length l
  have h2 := toList_length x
  rw [hx] at h2
  rw [str_size]; omega
theorem enc_join {V : ByteArray} (hV : V.size ≤ 300000) : (joinW (groups V.data.toList)).length ≤ 140737488355328 := by
  have := joinW_length V.data.toList
  rw [toList_length] at this; omega
theorem enc_next {gs : List (List UInt8)} {t x V : ByteArray} {n : Nat} {g : List UInt8} (h : gs.length + t.size ≤ V.size) (hx : x.size + n = t.size) (hn : 0 < n) : (gs ++ [g]).length + x.size ≤ V.size ∧ x.size < t.size := by
  rw [List.length_append, List.length_singleton]; omega
set_option maxHeartbeats 4000000 in
theorem wordEncode_any (s : ByteArray) (m : Int) (w : World) (hs : s.size ≤ 100000) (hm : w.cell? ⟨0, 0, none⟩ = some (.int .i64 m)) :
    Calls Tryz.prog 103 #[.string s] w fun e w' => e = .returned (.string (str (encodeL s.data.toList))) ∧ Below w.heap.size w w' := by
  have HM := hide hm
  clear hm
  have main : plainL s.data.toList = false → ∀ b : Bool, withinB 32 126 s.data.toList = b → Calls Tryz.prog 103 #[.string s] w fun e w' => e = .returned (.string (str (encodeL s.data.toList))) ∧ Below w.heap.size w w' := by
    intro hp b hb
    have hcc : b = true → Lib.contains s.data.toList [61, 63] = true := by
      intro h
      unfold plainL at hp
      rw [hb, h, Bool.true_and] at hp
      simpa using hp
    have HE : Hid (encodeL s.data.toList = joinW (groups (validL s.data.toList))) := hide (by unfold encodeL; rw [hp]; rfl)
    have zv := validL_length s.data.toList
    rw [toList_length] at zv
    obtain ⟨V, hV⟩ : ∃ V, V = str (validL s.data.toList) := ⟨_, rfl⟩
    have hVs : V.size ≤ 300000 := by rw [hV, str_size]; omega
    have hVl : V.data.toList = validL s.data.toList := by rw [hV, str_toList]
    have HW := hide (show allWhole V.data.toList = true by rw [hVl]; exact allWhole_valid _)
    have HV := hide hV
    rw [← hVl] at HE
    have HBW := hide hb
    have HJV := hide (enc_join hVs)
    clear hp hb zv hV hVl
    cases b with
    | false =>
      go_enter Tryz.func103, Tryz.ntmps103
      go_wp2_with fail
      refine (within_any s 32 126 _ (by unfold maxLen; omega)).mono ?_
      rintro e w1 ⟨rfl, rfl⟩
      rw [HBW.out]
      go_wp2_with fail
      refine (valid_any s _ (by omega)).mono ?_
      rintro e w1 ⟨rfl, hb1⟩
      rw [← HV.out]
      have hsb : SBuf w.heap.size (.slice none 0 0) [] w w1 := SBuf.nil hb1 hb1.size
      have HSB := hide hsb
      clear hsb hb1
      go_wp2_with fail
      go_loopw [3, 4] (fun v x wr => ∃ (t : ByteArray) (gs : List (List UInt8)) (L : List ByteArray), x = .string t ∧ SBuf w.heap.size v L w wr ∧ Hid (L = gs.map fun g => str (wordL g)) ∧ Hid (allWhole t.data.toList = true) ∧ Hid (gs ++ groups t.data.toList = groups V.data.toList) ∧ gs.length + t.size ≤ V.size) (fun _ x _ => szOfS x)
      case atStart => exact ⟨V, [], [], rfl, HSB.out, hide rfl, HW, hide rfl, by simp⟩
      case round =>
        obtain ⟨t, gs, L, rfl, hsb, HL, HWT, HG, hgl⟩ := hrel
        have HB := hide hsb
        clear hsb
        obtain ⟨z1, z2, z3⟩ := enc_bounds hgl hVs
        have HGL := hide z1
        have ZMX := hide z2
        have HLM : Hid (L.length + 1 ≤ 8796093022208) := hide (by rw [HL.out]; exact z3)
        clear z1 z2 z3
        by_cases hz : t.size = 0
        · obtain ⟨hnil, t1⟩ := size0 hz
          have HGS : Hid (joinW gs = encodeL s.data.toList) := hide (by rw [HE.out, ← HG.out, hnil, groups_nil, List.append_nil])
          have HJ : Hid ((joinW gs).length ≤ 140737488355328) := hide (Nat.le_trans (Nat.le_of_eq (congrArg List.length (HGS.out.trans HE.out))) HJV.out)
          clear hnil hz hgl hVs
          rcases HB.out.form with ⟨rfl, hn⟩ | ⟨g, cap, rfl, hc1, hc2, hg1, hg2, hcells⟩
          · have hgn : gs = [] := by have := HL.out; rw [hn] at this; simpa using this.symm
            have HR : Hid (encodeL s.data.toList = []) := hide (by rw [← HGS.out, hgn]; rfl)
            clear hn hgn
            go_wp2_with fail
            refine (Tryz.strings_Join_none _ _ _ _).mono ?_
            rintro e w2 ⟨rfl, hw2⟩
            subst hw2
            go_wp2_with fail
            go_ret
            exact ⟨by rw [HR.out]; rfl, HB.out.below⟩
          · have HCL := hide hcells
            have hlm : L.length = gs.length := by rw [HL.out]; exact List.length_map _
            have HJJ : Hid (Lib.join (L.map (·.data.toList)) [32] = encodeL s.data.toList) := hide (by
              rw [← HGS.out, ← join_words, HL.out, List.map_map]; rfl)
            have HLN : Hid (L.length ≤ 140737488355328) := hide (by rw [hlm]; exact HGL.out)
            have HC1 := hide hc1
            have HG2 := hide hg2
            clear hcells hlm hc1 hc2 hg1 hg2
            go_wp2_with fail
            refine (Tryz.strings_Join g 0 cap L _ _ HCL.out HG2.out HLN.out HC1.out (by
              rw [show (⟨#[32]⟩ : ByteArray).data.toList = [32] from rfl, HJJ.out, ← HGS.out]; exact HJ.out)).mono ?_
            rintro e w2 ⟨rfl, hb2⟩
            go_wp2_with fail
            go_ret
            refine ⟨?_, HB.out.below.trans (hb2.mono HB.out.2.2)⟩
            show Ending.returned (.string (str _)) = _
            rw [HJJ.out]
        · obtain ⟨hne, t1⟩ := sizeP hz
          obtain ⟨n, hn, hn0, hn1, hgw, hgo, hX, zX, hxn, k0, k1⟩ := group_pack t HWT.out hne
          have HF := hide (fun (w : World) => fitting_any t w ZMX.out HWT.out)
          rw [← hn] at HF
          have HX := hide hX
          have ZX := hide zX
          obtain ⟨E, hE⟩ : ∃ E, E = str (encB (t.data.toList.take n)) := ⟨_, rfl⟩
          have hEs : E.size ≤ 300000 := by rw [hE]; exact encE_size HX.out ZX.out
          have HEE := hide hE
          have HC : Hid ((⟨#[61, 63, 117, 116, 102, 45, 56, 63, 66, 63]⟩ : ByteArray) ++ E ++ ⟨#[63, 61]⟩ = str (wordL (t.data.toList.take n))) := hide (by
            rw [hE, wordL_eq, str_append, str_append]; rfl)
          have HWN := hide hgw
          have HGN := hide (show (gs ++ [t.data.toList.take n]) ++ groups (t.extract n t.size).data.toList = groups V.data.toList by rw [← HG.out, hgo, List.append_assoc]; rfl)
          obtain ⟨zl, zm⟩ := enc_next (g := t.data.toList.take n) hgl hxn hn0
          have ZL := hide zl
          have ZM := hide zm
          clear hE hX hn hgw hgo hne hz hgl HG zl zm hxn hn0 zX hVs
          go_wp2_with fail
          refine (HF.out _).mono ?_
          rintro e w2 ⟨rfl, rfl⟩
          go_wp2_with fail
          refine (encode64_any _ _ ZX.out).mono ?_
          rintro e w3 ⟨rfl, hb3⟩
          rw [HX.out, ← HEE.out]
          have HB3 := hide (HB.out.kept hb3)
          clear hb3
          go_wp2_with (refine wpList_strs rfl _ _ rfl w.heap.size u3 L rfl w w3 _ HB3.out rfl HLM.out ?_; intro v4 w4 hb4; have HB4 := hide hb4; clear hb4)
          go_roundw
          case rel => exact ⟨t.extract n t.size, gs ++ [t.data.toList.take n], _, rfl, HB4.out, hide (by rw [List.map_append, List.map_cons, List.map_nil, ← HC.out, HL.out]), HWN, HGN, ZL.out⟩
          case measure => exact ZM.out
    | true =>
      have HCC := hide (hcc rfl)
      clear hcc
      go_enter Tryz.func103, Tryz.ntmps103
      go_wp2_with fail
      refine (within_any s 32 126 _ (by unfold maxLen; omega)).mono ?_
      rintro e w1 ⟨rfl, rfl⟩
      rw [HBW.out]
      go_wp2_with fail
      refine (Tryz.strings_Contains s _ m _ (by omega) HM.out).mono ?_
      rintro e w1 ⟨rfl, hw1⟩
      obtain rfl : w = w1 := hw1.symm
      rw [show Lib.contains s.data.toList (⟨#[61, 63]⟩ : ByteArray).data.toList = true from HCC.out]
      go_wp2_with fail
      refine (valid_any s _ (by omega)).mono ?_
      rintro e w1 ⟨rfl, hb1⟩
      rw [← HV.out]
      have hsb : SBuf w.heap.size (.slice none 0 0) [] w w1 := SBuf.nil hb1 hb1.size
      have HSB := hide hsb
      clear hsb hb1
      go_wp2_with fail
      go_loopw [3, 4] (fun v x wr => ∃ (t : ByteArray) (gs : List (List UInt8)) (L : List ByteArray), x = .string t ∧ SBuf w.heap.size v L w wr ∧ Hid (L = gs.map fun g => str (wordL g)) ∧ Hid (allWhole t.data.toList = true) ∧ Hid (gs ++ groups t.data.toList = groups V.data.toList) ∧ gs.length + t.size ≤ V.size) (fun _ x _ => szOfS x)
      case atStart => exact ⟨V, [], [], rfl, HSB.out, hide rfl, HW, hide rfl, by simp⟩
      case round =>
        obtain ⟨t, gs, L, rfl, hsb, HL, HWT, HG, hgl⟩ := hrel
        have HB := hide hsb
        clear hsb
        obtain ⟨z1, z2, z3⟩ := enc_bounds hgl hVs
        have HGL := hide z1
        have ZMX := hide z2
        have HLM : Hid (L.length + 1 ≤ 8796093022208) := hide (by rw [HL.out]; exact z3)
        clear z1 z2 z3
        by_cases hz : t.size = 0
        · obtain ⟨hnil, t1⟩ := size0 hz
          have HGS : Hid (joinW gs = encodeL s.data.toList) := hide (by rw [HE.out, ← HG.out, hnil, groups_nil, List.append_nil])
          have HJ : Hid ((joinW gs).length ≤ 140737488355328) := hide (Nat.le_trans (Nat.le_of_eq (congrArg List.length (HGS.out.trans HE.out))) HJV.out)
          clear hnil hz hgl hVs
          rcases HB.out.form with ⟨rfl, hn⟩ | ⟨g, cap, rfl, hc1, hc2, hg1, hg2, hcells⟩
          · have hgn : gs = [] := by have := HL.out; rw [hn] at this; simpa using this.symm
            have HR : Hid (encodeL s.data.toList = []) := hide (by rw [← HGS.out, hgn]; rfl)
            clear hn hgn
            go_wp2_with fail
            refine (Tryz.strings_Join_none _ _ _ _).mono ?_
            rintro e w2 ⟨rfl, hw2⟩
            subst hw2
            go_wp2_with fail
            go_ret
            exact ⟨by rw [HR.out]; rfl, HB.out.below⟩
          · have HCL := hide hcells
            have hlm : L.length = gs.length := by rw [HL.out]; exact List.length_map _
            have HJJ : Hid (Lib.join (L.map (·.data.toList)) [32] = encodeL s.data.toList) := hide (by
              rw [← HGS.out, ← join_words, HL.out, List.map_map]; rfl)
            have HLN : Hid (L.length ≤ 140737488355328) := hide (by rw [hlm]; exact HGL.out)
            have HC1 := hide hc1
            have HG2 := hide hg2
            clear hcells hlm hc1 hc2 hg1 hg2
            go_wp2_with fail
            refine (Tryz.strings_Join g 0 cap L _ _ HCL.out HG2.out HLN.out HC1.out (by
              rw [show (⟨#[32]⟩ : ByteArray).data.toList = [32] from rfl, HJJ.out, ← HGS.out]; exact HJ.out)).mono ?_
            rintro e w2 ⟨rfl, hb2⟩
            go_wp2_with fail
            go_ret
            refine ⟨?_, HB.out.below.trans (hb2.mono HB.out.2.2)⟩
            show Ending.returned (.string (str _)) = _
            rw [HJJ.out]
        · obtain ⟨hne, t1⟩ := sizeP hz
          obtain ⟨n, hn, hn0, hn1, hgw, hgo, hX, zX, hxn, k0, k1⟩ := group_pack t HWT.out hne
          have HF := hide (fun (w : World) => fitting_any t w ZMX.out HWT.out)
          rw [← hn] at HF
          have HX := hide hX
          have ZX := hide zX
          obtain ⟨E, hE⟩ : ∃ E, E = str (encB (t.data.toList.take n)) := ⟨_, rfl⟩
          have hEs : E.size ≤ 300000 := by rw [hE]; exact encE_size HX.out ZX.out
          have HEE := hide hE
          have HC : Hid ((⟨#[61, 63, 117, 116, 102, 45, 56, 63, 66, 63]⟩ : ByteArray) ++ E ++ ⟨#[63, 61]⟩ = str (wordL (t.data.toList.take n))) := hide (by
            rw [hE, wordL_eq, str_append, str_append]; rfl)
          have HWN := hide hgw
          have HGN := hide (show (gs ++ [t.data.toList.take n]) ++ groups (t.extract n t.size).data.toList = groups V.data.toList by rw [← HG.out, hgo, List.append_assoc]; rfl)
          obtain ⟨zl, zm⟩ := enc_next (g := t.data.toList.take n) hgl hxn hn0
          have ZL := hide zl
          have ZM := hide zm
          clear hE hX hn hgw hgo hne hz hgl HG zl zm hxn hn0 zX hVs
          go_wp2_with fail
          refine (HF.out _).mono ?_
          rintro e w2 ⟨rfl, rfl⟩
          go_wp2_with fail
          refine (encode64_any _ _ ZX.out).mono ?_
          rintro e w3 ⟨rfl, hb3⟩
          rw [HX.out, ← HEE.out]
          have HB3 := hide (HB.out.kept hb3)
          clear hb3
          go_wp2_with (refine wpList_strs rfl _ _ rfl w.heap.size u3 L rfl w w3 _ HB3.out rfl HLM.out ?_; intro v4 w4 hb4; have HB4 := hide hb4; clear hb4)
          go_roundw
          case rel => exact ⟨t.extract n t.size, gs ++ [t.data.toList.take n], _, rfl, HB4.out, hide (by rw [List.map_append, List.map_cons, List.map_nil, ← HC.out, HL.out]), HWN, HGN, ZL.out⟩
          case measure => exact ZM.out
  cases hp : plainL s.data.toList with
  | false => exact main hp _ rfl
  | true =>
    clear main
    have h2 : withinB 32 126 s.data.toList = true ∧ Lib.contains s.data.toList [61, 63] = false := by
      unfold plainL at hp
      rw [Bool.and_eq_true] at hp
      exact ⟨hp.1, by simpa using hp.2⟩
    have H1 := hide h2.1
    have H2 := hide h2.2
    have HE : Hid (encodeL s.data.toList = s.data.toList) := hide (by unfold encodeL; rw [hp]; rfl)
    clear h2 hp
    go_enter Tryz.func103, Tryz.ntmps103
    go_wp2_with fail
    refine (within_any s 32 126 _ (by unfold maxLen; omega)).mono ?_
    rintro e w1 ⟨rfl, rfl⟩
    rw [H1.out]
    go_wp2_with fail
    refine (Tryz.strings_Contains s _ m _ (by omega) HM.out).mono ?_
    rintro e w1 ⟨rfl, hw1⟩
    subst hw1
    rw [show Lib.contains s.data.toList (⟨#[61, 63]⟩ : ByteArray).data.toList = false from H2.out]
    go_wp2_with fail
    go_ret
    exact ⟨ret_str (by rw [HE.out, str_of]), Below.refl _ _⟩
end Go.Proofs.YtcmmbceacjechaaGreatDoor
