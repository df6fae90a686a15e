/- WALK of the reference's tokens (stamp). No statement is proved here. -/
import Derived.Test.YtiojfknphpnlhaaDoorStampK
import Derived.Test.YtiojfknphpnlhaaDoorStampQ
import Derived.Test.YtiojfknphpnlhaaDoorLow
import Derived.Deep.DeepMust
namespace Go.Proofs.YtiojfknphpnlhaaDoor
set_option maxRecDepth 100000
open Go.RowKit
set_option linter.unusedVariables false
set_option linter.unusedSimpArgs false

def tokW : List UInt8 → List UInt8 → List (List UInt8)
  | cur, [] => if cur.isEmpty then [] else [cur]
  | cur, c :: r => if isSep c then (if cur.isEmpty then tokW [] r else cur :: tokW [] r) else (if cur.isEmpty && c == 40 then [] else tokW (cur ++ [c]) r)
theorem tokB_rem (r : List UInt8) : ∀ x : List UInt8, (tokB (40 :: x) r).takeWhile notRem = [] := by
  induction r with
  | nil => intro x; rfl
  | cons c r ih =>
    intro x
    rw [tokB]
    cases isSep c
    · rw [if_neg (by simp)]; exact ih (x ++ [c])
    · rw [if_pos rfl, if_neg (by simp)]; rfl
theorem tokW_eq : ∀ (l cur : List UInt8), notRem cur = true → (tokB cur l).takeWhile notRem = tokW cur l := by
  intro l
  induction l with
  | nil =>
    intro cur h
    rw [tokB, tokW]
    cases cur with
    | nil => rfl
    | cons a x => show List.takeWhile notRem [a :: x] = [a :: x]; rw [List.takeWhile_cons, h]; rfl
  | cons c r ih =>
    intro cur h
    rw [tokB, tokW]
    cases hs : isSep c
    · rw [if_neg (by simp), if_neg (by simp)]
      cases cur with
      | nil =>
        by_cases hc : c = 40
        · subst hc; exact tokB_rem r []
        · have h1 : (c == 40) = false := beq_eq_false_iff_ne.2 hc
          rw [if_neg (by simp [hc])]
          exact ih [c] (by show (!(c == 40)) = true; rw [h1]; rfl)
      | cons a x =>
        rw [if_neg (by simp)]
        exact ih (a :: x ++ [c]) h
    · rw [if_pos rfl, if_pos rfl]
      cases cur with
      | nil => exact ih [] rfl
      | cons a x =>
        show List.takeWhile notRem ((a :: x) :: tokB [] r) = (a :: x) :: tokW [] r
        rw [List.takeWhile_cons, h, if_pos rfl, ih [] rfl]
theorem toksL_W (l : List UInt8) : toksL l = (tokW [] l).map lowL := by rw [toksL_low, tokW_eq l [] rfl]
/-- a row of texts of the call's own, nil let in -/
def RTok (w0 w : World) (v : Value) (T : List (List UInt8)) : Prop := (v = .slice none 0 0 ∧ T = []) ∨ TRow w0 w v T
theorem RTok.of_buf {w0 w : World} {v : Value} {T : List (List UInt8)} (h : SBuf w0.heap.size v (T.map str) w0 w) : RTok w0 w v T := by
  rcases h.form with ⟨e, h0⟩ | ⟨g, cap, e, _⟩
  · exact .inl ⟨e, by cases T with | nil => rfl | cons a r => cases h0⟩
  · rw [List.length_map] at e
    subst e
    have := TRow.of_buf h T.length (Nat.le_refl _)
    rw [List.take_length] at this
    exact .inr this
theorem str_empty (cur : List UInt8) : (str cur).toList.isEmpty = cur.isEmpty := by rw [str_list]
def RTokP (s : ByteArray) (w : World) (e : Ending) (w' : World) : Prop := ∃ v, e = .returned v ∧ RTok w w' v (toksL s.data.toList) ∧ Below w.heap.size w w'
set_option maxHeartbeats 2000000 in
theorem refTokens_any (s : ByteArray) (w : World) (hs : s.size ≤ 1000) :
    Calls Tryd.prog 22 #[.string s] w (RTokP s w) := by
  have hb0 : SBuf w.heap.size (.slice none 0 0) [] w w := SBuf.nil (Below.refl _ _) (Nat.le_refl _)
  have HB0 := hide hb0
  have hT := toksL_W s.data.toList
  obtain ⟨T, hTT⟩ : ∃ T, T = toksL s.data.toList := ⟨_, rfl⟩
  rw [← hTT] at hT
  have HT := hide hT
  have HTT := hide hTT
  clear hb0 hT hTT
  go_enter Tryd.func22, Tryd.ntmps22
  go_wp2_with fail
  go_loopw [3, 4, 5] (fun v t i wr => ∃ (k : Nat) (S : ByteArray) (cur : List UInt8) (L : List (List UInt8)), k ≤ s.size + 1 ∧ i = .int .i64 k ∧ t = .string S ∧ Hid (S = str cur) ∧ Hid (SBuf w.heap.size v (L.map str) w wr) ∧ S.size ≤ k ∧ L.length ≤ k ∧
      Hid (k ≤ s.size → L ++ (tokW cur (s.data.toList.drop k)).map lowL = T) ∧ Hid (k = s.size + 1 → L = T)) (fun _ _ i _ => s.size + 1 - (intOf i).toNat)
  case atStart => exact ⟨0, ⟨#[]⟩, [], [], Nat.zero_le _, rfl, rfl, hide rfl, HB0, Nat.zero_le _, Nat.zero_le _, hide (fun _ => by rw [List.drop_zero, List.nil_append]; exact HT.out.symm), hide (fun h => by omega)⟩
  case round =>
    obtain ⟨k, S, cur, L, hk, rfl, rfl, HS, HB, hSk, hLk, HR, HE⟩ := hrel
    rcases Nat.lt_or_ge k s.size with hlt | hge
    · have hdrop := drop_cons s k hlt
      have hR := HR.out (by omega)
      rw [hdrop] at hR
      obtain ⟨c, hc⟩ : ∃ c, c = s[k]'hlt := ⟨_, rfl⟩
      have hc2 : s[k]'hlt = c := hc.symm
      rw [← hc] at hR
      have HRR := hide hR
      clear hR hdrop hc HR HE
      by_cases c32 : c = 32
      · have t1 : ((c.toNat : Int) != 32) = false := by rw [bne_eq_false_iff_eq, c32]; rfl
        have hsp : isSep c = true := by rw [c32]; rfl
        clear c32
        cases hcur : cur.isEmpty
        · have hemp : S.toList.isEmpty = false := by rw [HS.out, str_empty, hcur]
          have HN : Hid (L ++ [lowL cur] ++ (tokW [] (s.data.toList.drop (k + 1))).map lowL = T) := hide (by
            have := HRR.out
            rw [tokW, hsp, if_pos rfl, hcur, if_neg (by simp), List.map_cons] at this
            rw [List.append_assoc]; exact this)
          obtain ⟨Q, hQ⟩ : ∃ Q, Q = str (lowL cur) := ⟨_, rfl⟩
          have hsm := small_any S wr (by omega)
          rw [show str (lowL S.data.toList) = Q by rw [HS.out, str_toList, hQ]] at hsm
          have HSM := hide hsm
          have HMAP : Hid (L.map str ++ [Q] = (L ++ [lowL cur]).map str) := hide (by rw [hQ]; simp)
          have HLM : Hid ((L.map str).length + 1 ≤ 8796093022208) := hide (by rw [List.length_map]; omega)
          clear hsp hcur hQ hsm
          go_wp2_with fail
          refine HSM.out.mono ?_
          rintro e w2 ⟨rfl, hb2⟩
          have HB2 := hide (HB.out.kept hb2)
          clear hb2
          go_wp2_with (at_builtin; go_must (refine wpList_strs rfl _ _ rfl w.heap.size u3 (L.map str) rfl w w2 _ HB2.out rfl HLM.out ?_; intro v4 w4 hb4; have HB4 := hide hb4; clear hb4))
          go_roundw
          case rel => exact ⟨k + 1, ⟨#[]⟩, [], L ++ [lowL cur], by omega, by go_num, rfl, hide rfl, hide (by rw [← HMAP.out]; exact HB4.out), Nat.zero_le _, by rw [List.length_append]; simp; omega, hide (fun _ => HN.out), hide (fun h => by omega)⟩
          case measure => simp [intOf]; omega
        · have hemp : S.toList.isEmpty = true := by rw [HS.out, str_empty, hcur]
          have HN : Hid (L ++ (tokW [] (s.data.toList.drop (k + 1))).map lowL = T) := hide (by
            have := HRR.out
            rw [tokW, hsp, if_pos rfl, hcur, if_pos rfl] at this
            exact this)
          clear hsp hcur
          go_wp2_with fail
          go_roundw
          case rel => exact ⟨k + 1, ⟨#[]⟩, [], L, by omega, by go_num, rfl, hide rfl, HB, Nat.zero_le _, by omega, hide (fun _ => HN.out), hide (fun h => by omega)⟩
          case measure => simp [intOf]; omega
      have t1 : ((c.toNat : Int) != 32) = true := by rw [bne_iff_ne]; intro e; exact c32 (u8_eq (n := 32) (by omega) e)
      by_cases c9 : c = 9
      · have t2 : ((c.toNat : Int) != 9) = false := by rw [bne_eq_false_iff_eq, c9]; rfl
        have hsp : isSep c = true := by rw [c9]; rfl
        clear c9
        cases hcur : cur.isEmpty
        · have hemp : S.toList.isEmpty = false := by rw [HS.out, str_empty, hcur]
          have HN : Hid (L ++ [lowL cur] ++ (tokW [] (s.data.toList.drop (k + 1))).map lowL = T) := hide (by
            have := HRR.out
            rw [tokW, hsp, if_pos rfl, hcur, if_neg (by simp), List.map_cons] at this
            rw [List.append_assoc]; exact this)
          obtain ⟨Q, hQ⟩ : ∃ Q, Q = str (lowL cur) := ⟨_, rfl⟩
          have hsm := small_any S wr (by omega)
          rw [show str (lowL S.data.toList) = Q by rw [HS.out, str_toList, hQ]] at hsm
          have HSM := hide hsm
          have HMAP : Hid (L.map str ++ [Q] = (L ++ [lowL cur]).map str) := hide (by rw [hQ]; simp)
          have HLM : Hid ((L.map str).length + 1 ≤ 8796093022208) := hide (by rw [List.length_map]; omega)
          clear hsp hcur hQ hsm
          go_wp2_with fail
          refine HSM.out.mono ?_
          rintro e w2 ⟨rfl, hb2⟩
          have HB2 := hide (HB.out.kept hb2)
          clear hb2
          go_wp2_with (at_builtin; go_must (refine wpList_strs rfl _ _ rfl w.heap.size u3 (L.map str) rfl w w2 _ HB2.out rfl HLM.out ?_; intro v4 w4 hb4; have HB4 := hide hb4; clear hb4))
          go_roundw
          case rel => exact ⟨k + 1, ⟨#[]⟩, [], L ++ [lowL cur], by omega, by go_num, rfl, hide rfl, hide (by rw [← HMAP.out]; exact HB4.out), Nat.zero_le _, by rw [List.length_append]; simp; omega, hide (fun _ => HN.out), hide (fun h => by omega)⟩
          case measure => simp [intOf]; omega
        · have hemp : S.toList.isEmpty = true := by rw [HS.out, str_empty, hcur]
          have HN : Hid (L ++ (tokW [] (s.data.toList.drop (k + 1))).map lowL = T) := hide (by
            have := HRR.out
            rw [tokW, hsp, if_pos rfl, hcur, if_pos rfl] at this
            exact this)
          clear hsp hcur
          go_wp2_with fail
          go_roundw
          case rel => exact ⟨k + 1, ⟨#[]⟩, [], L, by omega, by go_num, rfl, hide rfl, HB, Nat.zero_le _, by omega, hide (fun _ => HN.out), hide (fun h => by omega)⟩
          case measure => simp [intOf]; omega
      have t2 : ((c.toNat : Int) != 9) = true := by rw [bne_iff_ne]; intro e; exact c9 (u8_eq (n := 9) (by omega) e)
      by_cases c44 : c = 44
      · have t3 : ((c.toNat : Int) != 44) = false := by rw [bne_eq_false_iff_eq, c44]; rfl
        have hsp : isSep c = true := by rw [c44]; rfl
        clear c44
        cases hcur : cur.isEmpty
        · have hemp : S.toList.isEmpty = false := by rw [HS.out, str_empty, hcur]
          have HN : Hid (L ++ [lowL cur] ++ (tokW [] (s.data.toList.drop (k + 1))).map lowL = T) := hide (by
            have := HRR.out
            rw [tokW, hsp, if_pos rfl, hcur, if_neg (by simp), List.map_cons] at this
            rw [List.append_assoc]; exact this)
          obtain ⟨Q, hQ⟩ : ∃ Q, Q = str (lowL cur) := ⟨_, rfl⟩
          have hsm := small_any S wr (by omega)
          rw [show str (lowL S.data.toList) = Q by rw [HS.out, str_toList, hQ]] at hsm
          have HSM := hide hsm
          have HMAP : Hid (L.map str ++ [Q] = (L ++ [lowL cur]).map str) := hide (by rw [hQ]; simp)
          have HLM : Hid ((L.map str).length + 1 ≤ 8796093022208) := hide (by rw [List.length_map]; omega)
          clear hsp hcur hQ hsm
          go_wp2_with fail
          refine HSM.out.mono ?_
          rintro e w2 ⟨rfl, hb2⟩
          have HB2 := hide (HB.out.kept hb2)
          clear hb2
          go_wp2_with (at_builtin; go_must (refine wpList_strs rfl _ _ rfl w.heap.size u3 (L.map str) rfl w w2 _ HB2.out rfl HLM.out ?_; intro v4 w4 hb4; have HB4 := hide hb4; clear hb4))
          go_roundw
          case rel => exact ⟨k + 1, ⟨#[]⟩, [], L ++ [lowL cur], by omega, by go_num, rfl, hide rfl, hide (by rw [← HMAP.out]; exact HB4.out), Nat.zero_le _, by rw [List.length_append]; simp; omega, hide (fun _ => HN.out), hide (fun h => by omega)⟩
          case measure => simp [intOf]; omega
        · have hemp : S.toList.isEmpty = true := by rw [HS.out, str_empty, hcur]
          have HN : Hid (L ++ (tokW [] (s.data.toList.drop (k + 1))).map lowL = T) := hide (by
            have := HRR.out
            rw [tokW, hsp, if_pos rfl, hcur, if_pos rfl] at this
            exact this)
          clear hsp hcur
          go_wp2_with fail
          go_roundw
          case rel => exact ⟨k + 1, ⟨#[]⟩, [], L, by omega, by go_num, rfl, hide rfl, HB, Nat.zero_le _, by omega, hide (fun _ => HN.out), hide (fun h => by omega)⟩
          case measure => simp [intOf]; omega
      have t3 : ((c.toNat : Int) != 44) = true := by rw [bne_iff_ne]; intro e; exact c44 (u8_eq (n := 44) (by omega) e)
      have hns : isSep c = false := by unfold isSep; simp [c32, c9, c44]
      have HX : Hid (s.extract k (k + 1) = str [c]) := hide (ext_list (by rw [extract_mid, drop_cons s k hlt, hc2]; rfl))
      have sX : (s.extract k (k + 1)).size = 1 := by rw [HX.out]; rfl
      clear c32 c9 c44
      cases hcur : cur.isEmpty
      · have hemp : S.toList.isEmpty = false := by rw [HS.out, str_empty, hcur]
        have HN : Hid (L ++ (tokW (cur ++ [c]) (s.data.toList.drop (k + 1))).map lowL = T) := hide (by
          have := HRR.out
          rw [tokW, hns, if_neg (by simp), hcur] at this
          exact this)
        have HS2 : Hid (S ++ s.extract k (k + 1) = str (cur ++ [c])) := hide (by rw [HX.out, HS.out, ← str_append])
        clear hns hcur
        go_wp2_with fail
        go_roundw
        case rel => exact ⟨k + 1, S ++ s.extract k (k + 1), cur ++ [c], L, by omega, by go_num, rfl, HS2, HB, by rw [ByteArray.size_append, sX]; omega, by omega, hide (fun _ => HN.out), hide (fun h => by omega)⟩
        case measure => simp [intOf]; omega
      · have hemp : S.toList.isEmpty = true := by rw [HS.out, str_empty, hcur]
        by_cases c40 : c = 40
        · have t4 : ((c.toNat : Int) == 40) = true := tT 40 c40 (by omega)
          have HN : Hid (L = T) := hide (by
            have := HRR.out
            rw [tokW, hns, if_neg (by simp), hcur, if_pos (by simp [c40]), List.map_nil, List.append_nil] at this
            exact this)
          have HQ := hide (RTok.of_buf HB.out)
          clear hns hcur c40
          go_wp2_with fail
          go_ret
          exact ⟨_, rfl, by rw [← HTT.out, ← HN.out]; exact HQ.out, HB.out.below⟩
        · have t4 : ((c.toNat : Int) == 40) = false := tF 40 c40 (by omega)
          have HN : Hid (L ++ (tokW (cur ++ [c]) (s.data.toList.drop (k + 1))).map lowL = T) := hide (by
            have := HRR.out
            rw [tokW, hns, if_neg (by simp), hcur, if_neg (by simp [c40])] at this
            exact this)
          have HS2 : Hid (S ++ s.extract k (k + 1) = str (cur ++ [c])) := hide (by rw [HX.out, HS.out, ← str_append])
          clear hns hcur c40
          go_wp2_with fail
          go_roundw
          case rel => exact ⟨k + 1, S ++ s.extract k (k + 1), cur ++ [c], L, by omega, by go_num, rfl, HS2, HB, by rw [ByteArray.size_append, sX]; omega, by omega, hide (fun _ => HN.out), hide (fun h => by omega)⟩
          case measure => simp [intOf]; omega
    · rcases Nat.lt_or_ge s.size k with hgt | hle
      · have HN : Hid (L = T) := hide (HE.out (by omega))
        have HQ := hide (RTok.of_buf HB.out)
        have t0 : decide (k ≤ s.size) = false := decide_eq_false (by omega)
        clear HR HE
        go_wp2_with fail
        go_ret
        exact ⟨_, rfl, by rw [← HTT.out, ← HN.out]; exact HQ.out, HB.out.below⟩
      · have HRE : Hid (L ++ (tokW cur []).map lowL = T) := hide (by
          have := HR.out hle
          rw [drop_nil s k hge] at this; exact this)
        have t0 : decide (k ≤ s.size) = true := decide_eq_true hle
        have t1 : decide (k < s.size) = false := decide_eq_false (by omega)
        clear HR HE
        cases hcur : cur.isEmpty
        · have hemp : S.toList.isEmpty = false := by rw [HS.out, str_empty, hcur]
          have HN : Hid (L ++ [lowL cur] = T) := hide (by
            have := HRE.out
            rw [tokW, hcur, if_neg (by simp)] at this
            exact this)
          obtain ⟨Q, hQ⟩ : ∃ Q, Q = str (lowL cur) := ⟨_, rfl⟩
          have hsm := small_any S wr (by omega)
          rw [show str (lowL S.data.toList) = Q by rw [HS.out, str_toList, hQ]] at hsm
          have HSM := hide hsm
          have HMAP : Hid (L.map str ++ [Q] = (L ++ [lowL cur]).map str) := hide (by rw [hQ]; simp)
          have HLM : Hid ((L.map str).length + 1 ≤ 8796093022208) := hide (by rw [List.length_map]; omega)
          clear HRE hcur hQ hsm
          go_wp2_with fail
          refine HSM.out.mono ?_
          rintro e w2 ⟨rfl, hb2⟩
          have HB2 := hide (HB.out.kept hb2)
          clear hb2
          go_wp2_with (at_builtin; go_must (refine wpList_strs rfl _ _ rfl w.heap.size u3 (L.map str) rfl w w2 _ HB2.out rfl HLM.out ?_; intro v4 w4 hb4; have HB4 := hide hb4; clear hb4))
          go_roundw
          case rel => exact ⟨k + 1, ⟨#[]⟩, [], L ++ [lowL cur], by omega, by go_num, rfl, hide rfl, hide (by rw [← HMAP.out]; exact HB4.out), Nat.zero_le _, by rw [List.length_append]; simp; omega, hide (fun h => by omega), hide (fun _ => HN.out)⟩
          case measure => simp [intOf]; omega
        · have hemp : S.toList.isEmpty = true := by rw [HS.out, str_empty, hcur]
          have HN : Hid (L = T) := hide (by
            have := HRE.out
            rw [tokW, hcur, if_pos rfl, List.map_nil, List.append_nil] at this
            exact this)
          clear HRE hcur
          go_wp2_with fail
          go_roundw
          case rel => exact ⟨k + 1, ⟨#[]⟩, [], L, by omega, by go_num, rfl, hide rfl, HB, Nat.zero_le _, by omega, hide (fun h => by omega), hide (fun _ => HN.out)⟩
          case measure => simp [intOf]; omega
end Go.Proofs.YtiojfknphpnlhaaDoor
