/- WALKS of the reference of layer 8: bare, closed, name, within, inner, name2. No statement is proved here. -/
import Derived.Test.YtcmmbceacjechaaGreatDoorAddrF
import Derived.Test.YtcmmbceacjechaaGreatDoorRef07T
import Derived.Test.YtcmmbceacjechaaGreatDoorRef05D
namespace Go.Proofs.YtcmmbceacjechaaGreatDoor
open Go.RowKit
set_option linter.unusedVariables false
set_option linter.unusedSimpArgs false
set_option maxRecDepth 100000
theorem unpair_step (s : ByteArray) (k : Nat) (h : k < s.size) (hc : s[k] ≠ 92 ∨ s.size ≤ k + 1) : unpairL (s.data.toList.drop k) = s[k] :: unpairL (s.data.toList.drop (k + 1)) := by
  rw [drop_cons s k h]
  by_cases h92 : s[k] = 92
  · rcases hc with hc | hc
    · exact absurd h92 hc
    · rw [drop_nil s (k + 1) hc, unpairL_one]; rfl
  · rw [unpairL_other _ _ h92]
theorem unpair_two (s : ByteArray) (k : Nat) (h : k + 1 < s.size) (hc : s[k] = 92) : unpairL (s.data.toList.drop k) = s[k + 1] :: unpairL (s.data.toList.drop (k + 2)) := by
  rw [drop_cons s k (by omega), drop_cons s (k + 1) h, hc, unpairL_pair]
set_option maxHeartbeats 4000000 in
theorem bare_any (s : ByteArray) (w : World) (hs : s.size ≤ 1048576) :
    Calls Tryz.prog 170 #[.string s] w fun e w' => e = .returned (.string (str (unpairL s.data.toList))) ∧ Below w.heap.size w w' := by
  have HB0 := hide (Buf.nil (Below.refl w.heap.size w) (Nat.le_refl _))
  go_enter Tryz.func170, Tryz.ntmps170
  go_wp2_with fail
  go_loopw [3, 4] (fun ov jv wr => ∃ (j : Nat) (acc : List UInt8), j ≤ s.size ∧ jv = .int .i64 j ∧ Hid (Buf w.heap.size ov acc w wr) ∧ Hid (acc.length ≤ j) ∧ Hid (acc ++ unpairL (s.data.toList.drop j) = unpairL s.data.toList)) (fun _ jv _ => s.size - (intOf jv).toNat)
  case atStart => exact ⟨0, [], Nat.zero_le _, rfl, HB0, hide (Nat.le_refl _), hide rfl⟩
  case round =>
    obtain ⟨j, acc, hj, rfl, HB, HL, HG⟩ := hrel
    have HLN : Hid (acc.length + 1 ≤ 140737488355328) := hide (by have := HL.out; omega)
    have j6 : j ≤ 1048576 := by omega
    by_cases hlt : j < s.size
    · by_cases h92 : s[j] = 92
      · have t92 : ((s[j].toNat : Int) == 92) = true := tT 92 h92 (by decide)
        by_cases hx : j + 1 < s.size
        · have tx : decide ((j : Int) + 1 < s.size) = true := decide_eq_true (by omega)
          have HN : Hid ((acc ++ [s[j + 1]'hx]) ++ unpairL (s.data.toList.drop (j + 2)) = unpairL s.data.toList) := hide (by
            rw [← HG.out, unpair_two s j hx h92, List.append_assoc]; rfl)
          have n1 : ((j : Int) + 1).toNat = j + 1 := by omega
          have n2 : (j : Int) + 1 < s.size := by omega
          have n3 : (0 : Int) ≤ (j : Int) + 1 := by omega
          clear h92
          go_wp2_with (at_builtin; go_must (refine wpList_buf_byte rfl _ _ rfl w.heap.size u3 acc rfl w wr (s[j + 1]'hx) HB.out rfl HLN.out ?_; intro v2 w2 hb2; have HB2 := hide hb2; clear hb2))
          go_roundw
          case rel => exact ⟨j + 2, _, by omega, by go_num, HB2, hide (by have := HL.out; simp; omega), HN⟩
          case measure => simp [intOf]; omega
        · have tx : decide ((j : Int) + 1 < s.size) = false := decide_eq_false (by omega)
          have HN : Hid ((acc ++ [s[j]'hlt]) ++ unpairL (s.data.toList.drop (j + 1)) = unpairL s.data.toList) := hide (by
            rw [← HG.out, unpair_step s j hlt (.inr (by omega)), List.append_assoc]; rfl)
          obtain ⟨c, hc⟩ : ∃ c, c = s[j]'hlt := ⟨_, rfl⟩
          rw [← hc] at t92 HN
          have hc2 : s[j]'hlt = c := hc.symm
          clear h92 hc
          go_wp2_with (at_builtin; go_must (refine wpList_buf_byte rfl _ _ rfl w.heap.size u3 acc rfl w wr c HB.out rfl HLN.out ?_; intro v2 w2 hb2; have HB2 := hide hb2; clear hb2))
          go_roundw
          case rel => exact ⟨j + 1, _, by omega, by go_num, HB2, hide (by have := HL.out; simp; omega), HN⟩
          case measure => simp [intOf]; omega
      · have t92 : ((s[j].toNat : Int) == 92) = false := tF 92 h92 (by decide)
        have HN : Hid ((acc ++ [s[j]'hlt]) ++ unpairL (s.data.toList.drop (j + 1)) = unpairL s.data.toList) := hide (by
          rw [← HG.out, unpair_step s j hlt (.inl h92), List.append_assoc]; rfl)
        clear h92
        go_wp2_with (at_builtin; go_must (refine wpList_buf_byte rfl _ _ rfl w.heap.size u3 acc rfl w wr (s[j]'hlt) HB.out rfl HLN.out ?_; intro v2 w2 hb2; have HB2 := hide hb2; clear hb2))
        go_roundw
        case rel => exact ⟨j + 1, _, by omega, by go_num, HB2, hide (by have := HL.out; simp; omega), HN⟩
        case measure => simp [intOf]; omega
    · have HE : Hid (acc = unpairL s.data.toList) := hide (by
        have := HG.out
        rw [drop_nil s j (by omega)] at this
        rw [← this, show unpairL [] = [] by rw [unpairL], List.append_nil])
      have hcv := HB.out.convert
      go_wp2_with fail
      go_ret
      exact ⟨by rw [← HE.out] <;> rfl, HB.out.below⟩
/-! ### where a quoted stretch ends -/
def clo : List UInt8 → Option Nat
  | [] => none
  | [c] => if c = 34 then some 0 else none
  | c :: d :: r => if c = 92 then (clo r).map (· + 2) else if c = 34 then some 0 else (clo (d :: r)).map (· + 1)
theorem clo_q (r : List UInt8) {c : UInt8} (h : c = 34) : clo (c :: r) = some 0 := by
  subst h
  cases r with
  | nil => rfl
  | cons d r => rw [clo, if_neg (by decide), if_pos rfl]
theorem clo_o (r : List UInt8) {c : UInt8} (h : c ≠ 34) (h2 : c ≠ 92) : clo (c :: r) = (clo r).map (· + 1) := by
  cases r with
  | nil => show (if c = 34 then some 0 else none) = _; rw [if_neg h]; rfl
  | cons d r => rw [clo, if_neg h2, if_neg h]
def cloI (s : ByteArray) (k : Nat) : Int := match clo (s.data.toList.drop k) with | some e => ((k + e : Nat) : Int) | none => -1
theorem cloI_q (s : ByteArray) (k : Nat) (h : k < s.size) (hc : s[k] = 34) : cloI s k = k := by unfold cloI; rw [drop_cons s k h, clo_q _ hc]; rfl
theorem cloI_o (s : ByteArray) (k : Nat) (h : k < s.size) (hc : s[k] ≠ 34) (h2 : s[k] ≠ 92) : cloI s k = cloI s (k + 1) := by
  unfold cloI
  rw [drop_cons s k h, clo_o _ hc h2]
  cases clo (s.data.toList.drop (k + 1)) with
  | none => rfl
  | some e => simp only [Option.map]; omega
theorem cloI_e (s : ByteArray) (k : Nat) (h : k < s.size) (hc : s[k] = 92) : cloI s k = cloI s (k + 2) := by
  unfold cloI
  rw [drop_cons s k h, hc]
  by_cases h2 : k + 1 < s.size
  · rw [drop_cons s (k + 1) h2, clo, if_pos rfl]
    cases clo (s.data.toList.drop (k + 1 + 1)) with
    | none => rfl
    | some e => simp only [Option.map]; omega
  · rw [drop_nil s (k + 1) (by omega), drop_nil s (k + 2) (by omega)]; rfl
theorem cloI_n (s : ByteArray) (k : Nat) (h : s.size ≤ k) : cloI s k = -1 := by unfold cloI; rw [drop_nil s k h]; rfl
set_option maxHeartbeats 4000000 in
theorem closed08_any (s : ByteArray) (w : World) (hs : s.size ≤ 1048576) :
    Calls Tryz.prog 169 #[.string s] w fun e w' => e = .returned (.int .i64 (cloI s 1)) ∧ w = w' := by
  go_enter Tryz.func169, Tryz.ntmps169
  go_wp2_with fail
  go_loop [3] (fun jv => ∃ j : Nat, j ≤ s.size + 1 ∧ jv = .int .i64 j ∧ Hid (cloI s j = cloI s 1)) (fun jv => s.size + 1 - (intOf jv).toNat)
  case atStart => exact ⟨1, by omega, rfl, hide rfl⟩
  case round =>
    obtain ⟨j, hj, rfl, HG⟩ := hrel
    have j6 : j ≤ 1048577 := by omega
    by_cases hlt : j < s.size
    · by_cases h92 : s[j] = 92
      · have t92 : ((s[j].toNat : Int) == 92) = true := tT 92 h92 (by decide)
        have HN := hide ((cloI_e s j hlt h92).symm.trans HG.out)
        clear h92
        go_wp2_with fail
        go_round
        case rel => exact ⟨j + 2, by omega, by go_num, HN⟩
        case measure => simp [intOf]; omega
      · have t92 : ((s[j].toNat : Int) == 92) = false := tF 92 h92 (by decide)
        by_cases h34 : s[j] = 34
        · have t34 : ((s[j].toNat : Int) == 34) = true := tT 34 h34 (by decide)
          have HN := hide ((cloI_q s j hlt h34).symm.trans HG.out)
          clear h92 h34
          go_wp2_with fail
          go_ret
          exact ⟨by rw [← HN.out] <;> rfl, rfl⟩
        · have t34 : ((s[j].toNat : Int) == 34) = false := tF 34 h34 (by decide)
          have HN := hide ((cloI_o s j hlt h34 h92).symm.trans HG.out)
          clear h92 h34
          go_wp2_with fail
          go_round
          case rel => exact ⟨j + 1, by omega, by go_num, HN⟩
          case measure => simp [intOf]; omega
    · have HN := hide ((cloI_n s j (by omega)).symm.trans HG.out)
      go_wp2_with fail
      go_ret
      exact ⟨by rw [← HN.out] <;> rfl, rfl⟩
/-- a trimmed name, without its quotes -/
def quoR : List UInt8 → List UInt8
  | [] => []
  | c :: r => if c = 34 then unpairL (match clo r with | some e => r.take e | none => r) else c :: r
def nameR (l : List UInt8) : List UInt8 := decW false [] (quoR (trP l))
theorem clo_lt (n : Nat) : ∀ (l : List UInt8) e, l.length ≤ n → clo l = some e → e < l.length := by
  induction n with
  | zero => intro l e hl h; have : l = [] := List.eq_nil_of_length_eq_zero (by omega); subst this; cases h
  | succ n ih =>
    intro l e hl h
    match l, hl, h with
    | [], _, h => cases h
    | [c], _, h =>
      rw [clo] at h
      split at h
      · injection h with h; subst h; simp
      · cases h
    | c :: d :: r, hl, h =>
      simp only [List.length_cons] at hl ⊢
      rw [clo] at h
      split at h
      · cases hr : clo r with
        | none => rw [hr] at h; cases h
        | some x => rw [hr] at h; simp only [Option.map, Option.some.injEq] at h; have := ih r x (by omega) hr; omega
      · split at h
        · injection h with h; omega
        · cases hr : clo (d :: r) with
          | none => rw [hr] at h; cases h
          | some x => rw [hr] at h; simp only [Option.map, Option.some.injEq] at h; have := ih (d :: r) x (by simp only [List.length_cons]; omega) hr; simp only [List.length_cons] at this; omega
set_option maxHeartbeats 4000000 in
theorem name08_any (s : ByteArray) (w : World) (hs : s.size ≤ 1048576) :
    Calls Tryz.prog 118 #[.string s] w fun e w' => e = .returned (.string (str (nameR s.data.toList))) ∧ Below w.heap.size w w' := by
  obtain ⟨T, hT⟩ : ∃ T, T = str (trP s.data.toList) := ⟨_, rfl⟩
  have hTl : T.data.toList = trP s.data.toList := by rw [hT, str_toList]
  have hTz : T.size ≤ 1048576 := by rw [hT, str_size]; have := trP_length s.data.toList; rw [toList_length] at this; omega
  have CT := hide (fun (w : World) => trim07_any s w (by unfold maxLen; omega))
  rw [← hT] at CT
  have HR : Hid (nameR s.data.toList = decW false [] (quoR T.data.toList)) := hide (by unfold nameR; rw [hTl])
  clear hT hTl
  by_cases hp : ∃ h : 0 < T.size, T[0] = 34
  · obtain ⟨h0, h34⟩ := hp
    have t0 : T.toList.isEmpty = false := by
      rw [bytes_list]
      cases hl : T.data.toList with
      | nil => exact absurd (show T.size = 0 by rw [← toList_length, hl]; rfl) (by omega)
      | cons _ _ => rfl
    have t34 : ((T[0].toNat : Int) == 34) = true := tT 34 h34 (by decide)
    have hdr := drop_cons T 0 h0
    rw [List.drop_zero] at hdr
    have CC := hide (fun (w : World) => closed08_any T w hTz)
    have hq : quoR T.data.toList = unpairL (match clo (T.data.toList.drop 1) with | some e => (T.data.toList.drop 1).take e | none => T.data.toList.drop 1) := by
      conv => lhs; rw [hdr, quoR, if_pos h34]
    unfold cloI at CC
    cases hc : clo (T.data.toList.drop 1) with
    | none =>
      rw [hc] at CC hq
      simp only at CC hq
      obtain ⟨Y, hY⟩ : ∃ Y, Y = T.extract 1 T.size := ⟨_, rfl⟩
      have hYz : Y.size ≤ 1048576 := by rw [hY, ByteArray.size_extract]; omega
      have hYl : Y.data.toList = T.data.toList.drop 1 := by rw [hY, extract_end]
      obtain ⟨Z, hZ⟩ : ∃ Z, Z = str (unpairL Y.data.toList) := ⟨_, rfl⟩
      have hZz : Z.size ≤ 1048576 := by rw [hZ, str_size]; have := unpairL_length Y.data.toList; rw [toList_length] at this; omega
      have CB := hide (fun (w : World) => bare_any Y w hYz)
      rw [← hZ] at CB
      have CW := hide (fun (w : World) => refWDecode_any Z w hZz)
      have HV : Hid (nameR s.data.toList = decW false [] Z.data.toList) := hide (by rw [HR.out, hq, hZ, str_toList, hYl])
      have HY := hide hY
      have k1 : (1 : Int) ≤ T.size := by omega
      clear hdr hq hc hY hYl hZ h34
      go_enter Tryz.func118, Tryz.ntmps118
      go_wp2_with (first
        | (go_at_call 57; refine (CT.out _).mono ?_; rintro e w1 ⟨rfl, rfl⟩)
        | (go_at_call 169; refine (CC.out _).mono ?_; rintro e w2 ⟨rfl, rfl⟩)
        | (go_at_call 170; rw [← HY.out]; refine (CB.out _).mono ?_; rintro e w3 ⟨rfl, hb3⟩; have HB3 := hide hb3; clear hb3)
        | (go_at_call 100; refine (CW.out _).mono ?_; rintro e w4 ⟨rfl, hb4⟩; have HB4 := hide (HB3.out.trans (hb4.mono HB3.out.size)); clear hb4))
      go_ret
      exact ⟨by rw [HV.out] <;> rfl, HB4.out⟩
    | some x =>
      have hx := clo_lt _ _ x (Nat.le_refl _) hc
      rw [List.length_drop, toList_length] at hx
      rw [hc] at CC hq
      simp only at CC hq
      have eI : ((1 + x : Nat) : Int) = (x : Int) + 1 := by omega
      rw [eI] at CC
      obtain ⟨Y, hY⟩ : ∃ Y, Y = T.extract 1 (x + 1) := ⟨_, rfl⟩
      have hYz : Y.size ≤ 1048576 := by rw [hY, ByteArray.size_extract]; omega
      have hYl : Y.data.toList = (T.data.toList.drop 1).take x := by
        rw [hY, extract_list, List.drop_take]; rfl
      obtain ⟨Z, hZ⟩ : ∃ Z, Z = str (unpairL Y.data.toList) := ⟨_, rfl⟩
      have hZz : Z.size ≤ 1048576 := by rw [hZ, str_size]; have := unpairL_length Y.data.toList; rw [toList_length] at this; omega
      have CB := hide (fun (w : World) => bare_any Y w hYz)
      rw [← hZ] at CB
      have CW := hide (fun (w : World) => refWDecode_any Z w hZz)
      have HV : Hid (nameR s.data.toList = decW false [] Z.data.toList) := hide (by rw [HR.out, hq, hZ, str_toList, hYl])
      have HY := hide hY
      have k1 : (1 : Int) ≤ (x : Int) + 1 := by omega
      have k2 : (x : Int) + 1 ≤ T.size := by omega
      have k3 : decide ((x : Int) + 1 < 0) = false := decide_eq_false (by omega)
      have k4 : ((x : Int) + 1).toNat = x + 1 := by omega
      clear hdr hq hc hY hYl hZ h34 eI
      go_enter Tryz.func118, Tryz.ntmps118
      go_wp2_with (first
        | (go_at_call 57; refine (CT.out _).mono ?_; rintro e w1 ⟨rfl, rfl⟩)
        | (go_at_call 169; refine (CC.out _).mono ?_; rintro e w2 ⟨rfl, rfl⟩)
        | (go_at_call 170; rw [← HY.out]; refine (CB.out _).mono ?_; rintro e w3 ⟨rfl, hb3⟩; have HB3 := hide hb3; clear hb3)
        | (go_at_call 100; refine (CW.out _).mono ?_; rintro e w4 ⟨rfl, hb4⟩; have HB4 := hide (HB3.out.trans (hb4.mono HB3.out.size)); clear hb4))
      go_ret
      exact ⟨by rw [HV.out] <;> rfl, HB4.out⟩
  · have CW := hide (fun (w : World) => refWDecode_any T w hTz)
    have HV : Hid (nameR s.data.toList = decW false [] T.data.toList) := hide (by
      rw [HR.out]
      congr 1
      by_cases h0 : 0 < T.size
      · have hdr := drop_cons T 0 h0
        rw [List.drop_zero] at hdr
        rw [hdr, quoR, if_neg (fun e => hp ⟨h0, e⟩)]
      · have : T.data.toList = [] := List.eq_nil_of_length_eq_zero (by rw [toList_length]; omega)
        rw [this, quoR])
    by_cases h0 : 0 < T.size
    · have t0 : T.toList.isEmpty = false := by
        rw [bytes_list]
        cases hl : T.data.toList with
        | nil => exact absurd (show T.size = 0 by rw [← toList_length, hl]; rfl) (by omega)
        | cons _ _ => rfl
      have t34 : ((T[0].toNat : Int) == 34) = false := tF 34 (fun e => hp ⟨h0, e⟩) (by decide)
      clear hp
      go_enter Tryz.func118, Tryz.ntmps118
      go_wp2_with (first
        | (go_at_call 57; refine (CT.out _).mono ?_; rintro e w1 ⟨rfl, rfl⟩)
        | (go_at_call 100; refine (CW.out _).mono ?_; rintro e w4 ⟨rfl, hb4⟩; have HB4 := hide hb4; clear hb4))
      go_ret
      exact ⟨by rw [HV.out] <;> rfl, HB4.out⟩
    · have t0 : T.toList.isEmpty = true := by
        have : T.data.toList = [] := List.eq_nil_of_length_eq_zero (by rw [toList_length]; omega)
        rw [bytes_list, this]; rfl
      clear hp
      go_enter Tryz.func118, Tryz.ntmps118
      go_wp2_with (first
        | (go_at_call 57; refine (CT.out _).mono ?_; rintro e w1 ⟨rfl, rfl⟩)
        | (go_at_call 100; refine (CW.out _).mono ?_; rintro e w4 ⟨rfl, hb4⟩; have HB4 := hide hb4; clear hb4))
      go_ret
      exact ⟨by rw [HV.out] <;> rfl, HB4.out⟩
theorem name2_any (s : ByteArray) (w : World) (hs : s.size ≤ 1048576) :
    Calls Tryz.prog 121 #[.string s] w fun e w' => e = .returned (.string (str (decW false [] (trP (unpairL s.data.toList))))) ∧ Below w.heap.size w w' := by
  obtain ⟨U, hU⟩ : ∃ U, U = str (unpairL s.data.toList) := ⟨_, rfl⟩
  have hUl : U.data.toList = unpairL s.data.toList := by rw [hU, str_toList]
  have hUz : U.size ≤ 1048576 := by rw [hU, str_size]; have := unpairL_length s.data.toList; rw [toList_length] at this; omega
  obtain ⟨T, hT⟩ : ∃ T, T = str (trP U.data.toList) := ⟨_, rfl⟩
  have hTl : T.data.toList = trP U.data.toList := by rw [hT, str_toList]
  have hTz : T.size ≤ 1048576 := by rw [hT, str_size]; have := trP_length U.data.toList; rw [toList_length] at this; omega
  have CB := hide (fun (w : World) => bare_any s w hs)
  have CT := hide (fun (w : World) => trim07_any U w (by unfold maxLen; omega))
  have CW := hide (fun (w : World) => refWDecode_any T w hTz)
  rw [← hU] at CB
  rw [← hT] at CT
  rw [← hUl, ← hTl]
  obtain ⟨R, hR⟩ : ∃ R, R = str (decW false [] T.data.toList) := ⟨_, rfl⟩
  rw [← hR] at CW ⊢
  clear hU hUl hT hTl hR
  go_enter Tryz.func121, Tryz.ntmps121
  go_wp2_with (first
    | (go_at_call 170; refine (CB.out _).mono ?_; rintro e w1 ⟨rfl, hb1⟩; have HB1 := hide hb1; clear hb1)
    | (go_at_call 57; refine (CT.out _).mono ?_; rintro e w2 ⟨rfl, rfl⟩)
    | (go_at_call 100; refine (CW.out _).mono ?_; rintro e w4 ⟨rfl, hb4⟩; have HB4 := hide (HB1.out.trans (hb4.mono HB1.out.size)); clear hb4))
  go_ret
  exact ⟨rfl, HB4.out⟩
end Go.Proofs.YtcmmbceacjechaaGreatDoor
