/- WALKS of the reference of layer 8: within, inner, cut. No statement is proved here. -/
import Derived.Test.YtcmmbceacjechaaGreatDoorRef08B
import Derived.Test.YtcmmbceacjechaaGreatDoorRef08P
namespace Go.Proofs.YtcmmbceacjechaaGreatDoor
open Go.RowKit
set_option linter.unusedVariables false
set_option linter.unusedSimpArgs false
set_option maxRecDepth 100000
/-! ### how many bytes a remark has, behind its first sign; d: how many are open -/
def wi : Nat → List UInt8 → Nat
  | _, [] => 0
  | _, [_] => 1
  | d, c :: x :: r => if c = 92 then 2 + wi d r else if c = 40 then 1 + wi (d + 1) (x :: r) else if c = 41 then (if d = 1 then 1 else 1 + wi (d - 1) (x :: r)) else 1 + wi d (x :: r)
theorem wi_e (d : Nat) (r : List UInt8) : wi d (92 :: r) = if r = [] then 1 else 2 + wi d (r.drop 1) := by
  cases r with
  | nil => rfl
  | cons x r => rw [wi, if_pos rfl, if_neg (by simp)]; rfl
theorem wi_i (d : Nat) (r : List UInt8) : wi d (40 :: r) = 1 + wi (d + 1) r := by
  cases r with
  | nil => rfl
  | cons x r => rw [wi, if_neg (by decide), if_pos rfl]
theorem wi_x (r : List UInt8) : wi 1 (41 :: r) = 1 := by
  cases r with
  | nil => rfl
  | cons x r => rw [wi, if_neg (by decide), if_neg (by decide), if_pos rfl, if_pos rfl]
theorem wi_c (d : Nat) (hd : d ≠ 1) (r : List UInt8) : wi d (41 :: r) = 1 + wi (d - 1) r := by
  cases r with
  | nil => rfl
  | cons x r => rw [wi, if_neg (by decide), if_neg (by decide), if_pos rfl, if_neg hd]
theorem wi_o (d : Nat) (r : List UInt8) {c : UInt8} (h : c ≠ 92) (h2 : c ≠ 40) (h3 : c ≠ 41) : wi d (c :: r) = 1 + wi d r := by
  cases r with
  | nil => rfl
  | cons x r => rw [wi, if_neg h, if_neg h2, if_neg h3]
theorem wi_le (n : Nat) : ∀ (d : Nat) (l : List UInt8), l.length ≤ n → wi d l ≤ l.length := by
  induction n with
  | zero => intro d l hl; have : l = [] := List.eq_nil_of_length_eq_zero (by omega); subst this; exact Nat.le_refl _
  | succ n ih =>
    intro d l hl
    match l, hl with
    | [], _ => exact Nat.le_refl _
    | [c], _ => exact Nat.le_refl _
    | c :: x :: r, hl =>
      simp only [List.length_cons] at hl ⊢
      have i1 := ih d r (by omega)
      have i2 := fun d => ih d (x :: r) (by simp only [List.length_cons]; omega)
      simp only [List.length_cons] at i2
      rw [wi]
      split
      · omega
      · split
        · have := i2 (d + 1); omega
        · split
          · split
            · omega
            · have := i2 (d - 1); omega
          · have := i2 d; omega
set_option maxHeartbeats 4000000 in
theorem within08_any (s : ByteArray) (w : World) (hs : s.size ≤ 1048577) (h0 : 0 < s.size) (h40 : s[0] = 40) :
    Calls Tryz.prog 119 #[.string s] w fun e w' => e = .returned (.int .i64 ((1 + wi 1 (s.data.toList.drop 1) : Nat) : Int)) ∧ w = w' := by
  obtain ⟨R, hR⟩ : ∃ R, R = 1 + wi 1 (s.data.toList.drop 1) := ⟨_, rfl⟩
  rw [← hR]
  have hRz : R ≤ s.size := by
    rw [hR]
    have := wi_le _ 1 (s.data.toList.drop 1) (Nat.le_refl _)
    rw [List.length_drop, toList_length] at this; omega
  have HR := hide hR
  have H40 := hide h40
  clear hR h40
  go_enter Tryz.func119, Tryz.ntmps119
  go_wp2_with fail
  go_loop [3, 4] (fun dv jv => ∃ (j d : Nat), j ≤ s.size + 1 ∧ dv = .int .i64 d ∧ jv = .int .i64 j ∧ d ≤ j ∧ ((j = 0 ∧ d = 0) ∨ (1 ≤ j ∧ 1 ≤ d ∧ Hid (j < s.size → j + wi d (s.data.toList.drop j) = R) ∧ Hid (s.size ≤ j → R = s.size)))) (fun _ jv => s.size + 1 - (intOf jv).toNat)
  case atStart => exact ⟨0, 0, by omega, rfl, rfl, by omega, .inl ⟨rfl, rfl⟩⟩
  case round =>
    obtain ⟨j, d, hj, rfl, rfl, hdj, hcase⟩ := hrel
    have j6 : j ≤ 1048578 := by omega
    by_cases hlt : j < s.size
    · rcases hcase with ⟨rfl, rfl⟩ | ⟨hj1, hd1, HG, _⟩
      · have t92 : ((s[0].toNat : Int) == 92) = false := tF 92 (by rw [H40.out]; decide) (by decide)
        have t40 : ((s[0].toNat : Int) == 40) = true := tT 40 H40.out (by decide)
        have HN : Hid (1 < s.size → 1 + wi 1 (s.data.toList.drop 1) = R) := hide (fun _ => HR.out.symm)
        have HE : Hid (s.size ≤ 1 → R = s.size) := hide (fun h => by
          have h1 := HR.out
          rw [drop_nil s 1 h] at h1
          have h2 : R = 1 + 0 := h1
          omega)
        go_wp2_with fail
        go_round
        case rel => exact ⟨1, 1, by omega, rfl, rfl, by omega, .inr ⟨by omega, by omega, HN, HE⟩⟩
        case measure => simp [intOf]
      · have hG := HG.out hlt
        have hdr := drop_cons s j hlt
        by_cases h92 : s[j] = 92
        · have t92 : ((s[j].toNat : Int) == 92) = true := tT 92 h92 (by decide)
          rw [hdr, h92, wi_e] at hG
          have HN : Hid (j + 2 < s.size → j + 2 + wi d (s.data.toList.drop (j + 2)) = R) := hide (fun h => by
            rw [if_neg (by intro e; have := congrArg List.length e; rw [List.length_drop, toList_length, List.length_nil] at this; omega), List.drop_drop, show j + 1 + 1 = j + 2 from rfl] at hG
            rw [← hG]; omega)
          have HE : Hid (s.size ≤ j + 2 → R = s.size) := hide (fun h => by
            rw [← hG]
            by_cases h2 : j + 1 < s.size
            · rw [if_neg (by intro e; have := congrArg List.length e; rw [List.length_drop, toList_length, List.length_nil] at this; omega), List.drop_drop, drop_nil s (j + 1 + 1) (by omega)]
              show j + (2 + 0) = _; omega
            · rw [drop_nil s (j + 1) (by omega), if_pos rfl]; omega)
          clear hG hdr h92
          go_wp2_with fail
          go_round
          case rel => exact ⟨j + 2, d, by omega, rfl, by go_num, by omega, .inr ⟨by omega, hd1, HN, HE⟩⟩
          case measure => simp [intOf]; omega
        · have t92 : ((s[j].toNat : Int) == 92) = false := tF 92 h92 (by decide)
          by_cases h40 : s[j] = 40
          · have t40 : ((s[j].toNat : Int) == 40) = true := tT 40 h40 (by decide)
            rw [hdr, h40, wi_i] at hG
            have HN : Hid (j + 1 < s.size → j + 1 + wi (d + 1) (s.data.toList.drop (j + 1)) = R) := hide (fun _ => by rw [← hG]; omega)
            have HE : Hid (s.size ≤ j + 1 → R = s.size) := hide (fun h => by have h1 := hG; rw [drop_nil s (j + 1) h] at h1; have h2 : j + (1 + 0) = R := h1; omega)
            clear hG hdr h92 h40
            go_wp2_with fail
            go_round
            case rel => exact ⟨j + 1, d + 1, by omega, by go_num, by go_num, by omega, .inr ⟨by omega, by omega, HN, HE⟩⟩
            case measure => simp [intOf]; omega
          · have t40 : ((s[j].toNat : Int) == 40) = false := tF 40 h40 (by decide)
            by_cases h41 : s[j] = 41
            · have t41 : ((s[j].toNat : Int) == 41) = true := tT 41 h41 (by decide)
              by_cases hd2 : d = 1
              · subst hd2
                rw [hdr, h41, wi_x] at hG
                have HF := hide hG
                clear hG hdr h92 h40 h41
                go_wp2_with fail
                go_ret
                exact ⟨by rw [← HF.out] <;> rfl, rfl⟩
              · have tz : ((d : Int) - 1 == 0) = false := by rw [beq_eq_false_iff_ne]; omega
                rw [hdr, h41, wi_c d hd2] at hG
                have HN : Hid (j + 1 < s.size → j + 1 + wi (d - 1) (s.data.toList.drop (j + 1)) = R) := hide (fun _ => by rw [← hG]; omega)
                have HE : Hid (s.size ≤ j + 1 → R = s.size) := hide (fun h => by have h1 := hG; rw [drop_nil s (j + 1) h] at h1; have h2 : j + (1 + 0) = R := h1; omega)
                clear hG hdr h92 h40 h41
                go_wp2_with fail
                go_round
                case rel => exact ⟨j + 1, d - 1, by omega, by congr 1; omega, by go_num, by omega, .inr ⟨by omega, by omega, HN, HE⟩⟩
                case measure => simp [intOf]; omega
            · have t41 : ((s[j].toNat : Int) == 41) = false := tF 41 h41 (by decide)
              rw [hdr, wi_o d _ h92 h40 h41] at hG
              have HN : Hid (j + 1 < s.size → j + 1 + wi d (s.data.toList.drop (j + 1)) = R) := hide (fun _ => by rw [← hG]; omega)
              have HE : Hid (s.size ≤ j + 1 → R = s.size) := hide (fun h => by have h1 := hG; rw [drop_nil s (j + 1) h] at h1; have h2 : j + (1 + 0) = R := h1; omega)
              clear hG hdr h92 h40 h41
              go_wp2_with fail
              go_round
              case rel => exact ⟨j + 1, d, by omega, rfl, by go_num, by omega, .inr ⟨by omega, by omega, HN, HE⟩⟩
              case measure => simp [intOf]; omega
    · have HF : Hid (R = s.size) := hide (by
        rcases hcase with ⟨rfl, _⟩ | ⟨_, _, _, HE⟩
        · omega
        · exact HE.out (by omega))
      go_wp2_with fail
      go_ret
      exact ⟨by rw [HF.out] <;> rfl, rfl⟩
/-- what stands in a remark, behind its first sign -/
def inR (t : List UInt8) : List UInt8 := if wi 1 (t ++ [120]) = t.length then t.dropLast else t
set_option maxHeartbeats 4000000 in
theorem inner_any (s : ByteArray) (w : World) (hs : s.size ≤ 1048576) (h0 : 0 < s.size) (h40 : s[0] = 40) :
    Calls Tryz.prog 120 #[.string s] w fun e w' => e = .returned (.string (str (inR (s.data.toList.drop 1)))) ∧ w = w' := by
  have hx1 : (s ++ (⟨#[120]⟩ : ByteArray)).size = s.size + 1 := ByteArray.size_append
  have hx0 : (s ++ (⟨#[120]⟩ : ByteArray))[0]'(by omega) = 40 := by
    rw [← h40]
    exact ByteArray.getElem_append_left h0
  have hxl : (s ++ (⟨#[120]⟩ : ByteArray)).data.toList.drop 1 = s.data.toList.drop 1 ++ [120] := by
    have := drop_cons s 0 h0
    rw [List.drop_zero] at this
    simp only [ByteArray.data_append, Array.toList_append]
    rw [this]; rfl
  have CW := hide (fun (w : World) => within08_any (s ++ (⟨#[120]⟩ : ByteArray)) w (by omega) (by omega) hx0)
  rw [hxl] at CW
  obtain ⟨t, ht⟩ : ∃ t, t = s.data.toList.drop 1 := ⟨_, rfl⟩
  have htl : t.length + 1 = s.size := by rw [ht, List.length_drop, toList_length]; omega
  rw [← ht] at CW ⊢
  by_cases hc : wi 1 (t ++ [120]) = t.length
  · have t0 : (((1 + wi 1 (t ++ [120]) : Nat) : Int) == s.size) = true := by rw [beq_iff_eq]; omega
    have h1 : 1 ≤ t.length := by
      rcases Nat.eq_zero_or_pos t.length with h | h
      · have : t = [] := List.eq_nil_of_length_eq_zero h
        rw [this] at hc; cases hc
      · exact h
    have HE : Hid (str (inR t) = s.extract 1 (s.size - 1)) := hide (by
      unfold inR
      rw [if_pos hc]
      apply ext_list
      rw [str_toList, extract_list, List.dropLast_eq_take, ht, List.drop_take, List.length_drop, toList_length])
    obtain ⟨W, hW⟩ : ∃ W, W = 1 + wi 1 (t ++ [120]) := ⟨_, rfl⟩
    rw [← hW] at CW t0
    have q1 : IntKind.i64.wrap ((s.size : Int) - 1) = ((s.size - 1 : Nat) : Int) := by rw [IntWalk.i64_in _ (by omega)]; omega
    have k1 : (1 : Int) ≤ ((s.size - 1 : Nat) : Int) := by omega
    have k2 : ((s.size - 1 : Nat) : Int) ≤ s.size := by omega
    clear hx0 hxl ht hc hW
    go_enter Tryz.func120, Tryz.ntmps120
    go_wp2_with (go_at_call 119; refine (CW.out _).mono ?_; rintro e w1 ⟨rfl, rfl⟩)
    go_ret
    exact ⟨by rw [HE.out] <;> rfl, rfl⟩
  · have t0 : (((1 + wi 1 (t ++ [120]) : Nat) : Int) == s.size) = false := by rw [beq_eq_false_iff_ne]; omega
    have HE : Hid (str (inR t) = s.extract 1 s.size) := hide (by
      unfold inR
      rw [if_neg hc]
      apply ext_list
      rw [str_toList, extract_end, ht])
    obtain ⟨W, hW⟩ : ∃ W, W = 1 + wi 1 (t ++ [120]) := ⟨_, rfl⟩
    rw [← hW] at CW t0
    have k1 : (1 : Int) ≤ s.size := by omega
    clear hx0 hxl ht hc hW
    go_enter Tryz.func120, Tryz.ntmps120
    go_wp2_with (go_at_call 119; refine (CW.out _).mono ?_; rintro e w1 ⟨rfl, rfl⟩)
    go_ret
    exact ⟨by rw [HE.out] <;> rfl, rfl⟩
/-! ### the boxes' texts -/
theorem plR_length (l : List UInt8) : (plR l).length = l.length := by unfold plR; rw [List.length_map, placesM_length]
theorem placesM_get (l : List UInt8) : ∀ (m : MSt) (k : Nat) (h : k < l.length) (h' : k < (placesM m l).length), (placesM m l)[k] = (takeB ((l.take k).foldl (fun m c => (takeB m c).2) m) l[k]).1 := by
  induction l with
  | nil => intro m k h; cases h
  | cons c r ih =>
    intro m k h h'
    cases k with
    | zero => rfl
    | succ k =>
      simp only [placesM, List.getElem_cons_succ, List.take_succ_cons, List.foldl_cons]
      exact ih _ k (by simpa using h) _
theorem IArr.at {B g : Nat} {s : ByteArray} {W0 w : World} (h : IArr B g (plR s.data.toList) W0 w) (k : Nat) (hk : k < s.size) : w.cell? ⟨g, k, none⟩ = some (.int .i64 ((gP (takeB (stAt (s.data.toList.take k)) s[k]).1 : Nat) : Int)) := by
  have hl : k < (plR s.data.toList).length := by rw [plR_length, toList_length]; exact hk
  have := (h.1 k hl).1
  rw [this]
  have e2 : (plR s.data.toList)[k]? = some (gP (takeB (stAt (s.data.toList.take k)) s[k]).1) := by
    unfold plR
    rw [List.getElem?_map, List.getElem?_eq_getElem (by rw [placesM_length, toList_length]; exact hk), placesM_get _ _ _ (by rw [toList_length]; exact hk)]
    rfl
  have e : (plR s.data.toList)[k]'hl = gP (takeB (stAt (s.data.toList.take k)) s[k]).1 := by
    have := List.getElem?_eq_getElem hl
    rw [e2] at this
    exact (Option.some.inj this).symm
  rw [e]
theorem SBuf.lower8 {B B' : Nat} {v : Value} {l : List ByteArray} {W0 W1 w : World} (h : SBuf B v l W1 w) (hB : B' ≤ B) (hb : Below B' W0 W1) : SBuf B' v l W0 w := by
  obtain ⟨⟨h1, h2⟩, h3, h4⟩ := h
  refine ⟨⟨h1, ?_⟩, hb.trans (h3.mono hB), Nat.le_trans hB h4⟩
  rcases h2 with h2 | ⟨g, cap, cur, e, hg, rest⟩
  · exact .inl h2
  · exact .inr ⟨g, cap, cur, e, Nat.le_trans hB hg, rest⟩
theorem gP_zero (n : Nat) : gP n = 0 ↔ n = 0 := by unfold gP; split <;> omega
set_option maxHeartbeats 8000000 in
theorem cut08_any (s : ByteArray) (w : World) (hs : s.size ≤ 1048576) :
    Calls Tryz.prog 72 #[.string s] w fun e w' => ∃ (v : Value) (ps : List ByteArray), e = .returned v ∧ SBuf w.heap.size v ps w w' ∧ ps.map (fun x => x.data.toList) = boxF m0 false [] s.data.toList ∧ ps.length ≤ s.size + 1 := by
  have CP := hide (places_any s w hs)
  go_enter Tryz.func72, Tryz.ntmps72
  go_wp2_with fail
  refine CP.out.mono ?_
  rintro e w1 ⟨g, rfl, hi⟩
  have HI := hide hi
  have K1 := hide hi.2.1
  have HB0 := hide (SBuf.nil (Below.refl w1.heap.size w1) (Nat.le_refl _))
  clear hi
  go_wp2_with fail
  go_loopw [4, 5, 6, 7] (fun v bv av iv wr => ∃ (k b : Nat) (op : Bool) (ps : List ByteArray), b ≤ k ∧ k ≤ s.size ∧ bv = .int .i64 b ∧ av = .bool op ∧ iv = .int .i64 k ∧ Hid (SBuf w1.heap.size v ps w1 wr) ∧ Hid (ps.length ≤ k) ∧
    Hid (ps.map (fun x => x.data.toList) ++ boxF (stAt (s.data.toList.take k)) op (s.extract b k).data.toList (s.data.toList.drop k) = boxF m0 false [] s.data.toList)) (fun _ _ _ iv _ => s.size - (intOf iv).toNat)
  case atStart => exact ⟨0, 0, false, [], Nat.le_refl _, Nat.zero_le _, rfl, rfl, rfl, HB0, hide (Nat.le_refl _), hide (by rw [extract_none]; rfl)⟩
  case round =>
    obtain ⟨k, b, op, ps, hbk, hk, rfl, rfl, rfl, HB, HL, HG⟩ := hrel
    have k6 : k ≤ 1048576 := by omega
    by_cases hlt : k < s.size
    · have hcell := (HI.out.kept HB.out.below).at k hlt
      have hdr := drop_cons s k hlt
      have hG := HG.out
      rw [hdr, boxF, st_step s k hlt] at hG
      have hsn := extract_snoc s b k hbk hlt
      obtain ⟨P, hP⟩ : ∃ P, P = (takeB (stAt (s.data.toList.take k)) s[k]).1 := ⟨_, rfl⟩
      rw [← hP] at hcell hG
      rw [← hsn] at hG
      have HLN : Hid (ps.length + 1 ≤ 8796093022208) := hide (by have := HL.out; omega)
      by_cases h0 : P = 0
      · have z0 : ((gP P : Nat) : Int) = 0 := by rw [h0]; rfl
        rw [z0] at hcell
        rw [if_neg (by simpa using h0)] at hG
        by_cases h60 : s[k] = 60
        · have t60 : ((s[k].toNat : Int) == 60) = true := tT 60 h60 (by decide)
          have t62 : ((s[k].toNat : Int) == 62) = false := tF 62 (by rw [h60]; decide) (by decide)
          have t44 : ((s[k].toNat : Int) == 44) = false := tF 44 (by rw [h60]; decide) (by decide)
          have t59 : ((s[k].toNat : Int) == 59) = false := tF 59 (by rw [h60]; decide) (by decide)
          rw [if_pos h60] at hG
          have HGN := hide hG
          clear hG hdr hsn hP h0 h60 z0
          go_wp2_with fail
          go_roundw
          case rel => exact ⟨k + 1, b, true, ps, by omega, by omega, rfl, rfl, by go_num, HB, hide (by have := HL.out; omega), HGN⟩
          case measure => simp [intOf]; omega
        · have t60 : ((s[k].toNat : Int) == 60) = false := tF 60 h60 (by decide)
          rw [if_neg h60] at hG
          by_cases h62 : s[k] = 62
          · have t62 : ((s[k].toNat : Int) == 62) = true := tT 62 h62 (by decide)
            have t44 : ((s[k].toNat : Int) == 44) = false := tF 44 (by rw [h62]; decide) (by decide)
            have t59 : ((s[k].toNat : Int) == 59) = false := tF 59 (by rw [h62]; decide) (by decide)
            rw [if_pos h62] at hG
            have HGN := hide hG
            clear hG hdr hsn hP h0 h60 h62 z0
            go_wp2_with fail
            go_roundw
            case rel => exact ⟨k + 1, b, false, ps, by omega, by omega, rfl, rfl, by go_num, HB, hide (by have := HL.out; omega), HGN⟩
            case measure => simp [intOf]; omega
          · have t62 : ((s[k].toNat : Int) == 62) = false := tF 62 h62 (by decide)
            rw [if_neg h62] at hG
            by_cases hc : s[k] = 44 ∨ s[k] = 59
            · rw [if_pos hc] at hG
              cases op with
              | true =>
                rw [if_pos rfl] at hG
                have HGN := hide hG
                rcases hc with hc | hc
                · have t44 : ((s[k].toNat : Int) == 44) = true := tT 44 hc (by decide)
                  clear hG hdr hsn hP h0 h60 h62 hc z0
                  go_wp2_with fail
                  go_roundw
                  case rel => exact ⟨k + 1, b, true, ps, by omega, by omega, rfl, rfl, by go_num, HB, hide (by have := HL.out; omega), HGN⟩
                  case measure => simp [intOf]; omega
                · have t44 : ((s[k].toNat : Int) == 44) = false := tF 44 (by rw [hc]; decide) (by decide)
                  have t59 : ((s[k].toNat : Int) == 59) = true := tT 59 hc (by decide)
                  clear hG hdr hsn hP h0 h60 h62 hc z0
                  go_wp2_with fail
                  go_roundw
                  case rel => exact ⟨k + 1, b, true, ps, by omega, by omega, rfl, rfl, by go_num, HB, hide (by have := HL.out; omega), HGN⟩
                  case measure => simp [intOf]; omega
              | false =>
                rw [if_neg (by decide)] at hG
                have HGN : Hid ((ps ++ [s.extract b k]).map (fun x => x.data.toList) ++ boxF (stAt (s.data.toList.take (k + 1))) false (s.extract (k + 1) (k + 1)).data.toList (s.data.toList.drop (k + 1)) = boxF m0 false [] s.data.toList) := hide (by
                  rw [← hG, extract_none, List.map_append, List.append_assoc]; rfl)
                have k1 : (k : Int) ≤ s.size := by omega
                have b1 : (b : Int) ≤ k := by omega
                rcases hc with hc | hc
                · have t44 : ((s[k].toNat : Int) == 44) = true := tT 44 hc (by decide)
                  clear hG hdr hsn hP h0 h60 h62 hc z0
                  go_wp2_with (refine wpList_strs rfl _ _ rfl w1.heap.size u4 ps rfl w1 wr (s.extract b k) HB.out rfl HLN.out ?_; intro v2 w2 hb2; have HB2 := hide hb2; clear hb2)
                  go_roundw
                  case rel => exact ⟨k + 1, k + 1, false, _, Nat.le_refl _, by omega, by go_num, rfl, by go_num, HB2, hide (by have := HL.out; simp; omega), HGN⟩
                  case measure => simp [intOf]; omega
                · have t44 : ((s[k].toNat : Int) == 44) = false := tF 44 (by rw [hc]; decide) (by decide)
                  have t59 : ((s[k].toNat : Int) == 59) = true := tT 59 hc (by decide)
                  clear hG hdr hsn hP h0 h60 h62 hc z0
                  go_wp2_with (refine wpList_strs rfl _ _ rfl w1.heap.size u4 ps rfl w1 wr (s.extract b k) HB.out rfl HLN.out ?_; intro v2 w2 hb2; have HB2 := hide hb2; clear hb2)
                  go_roundw
                  case rel => exact ⟨k + 1, k + 1, false, _, Nat.le_refl _, by omega, by go_num, rfl, by go_num, HB2, hide (by have := HL.out; simp; omega), HGN⟩
                  case measure => simp [intOf]; omega
            · rw [if_neg hc] at hG
              have t44 : ((s[k].toNat : Int) == 44) = false := tF 44 (fun e => hc (.inl e)) (by decide)
              have t59 : ((s[k].toNat : Int) == 59) = false := tF 59 (fun e => hc (.inr e)) (by decide)
              have HGN := hide hG
              clear hG hdr hsn hP h0 h60 h62 hc z0
              go_wp2_with fail
              go_roundw
              case rel => exact ⟨k + 1, b, op, ps, by omega, by omega, rfl, rfl, by go_num, HB, hide (by have := HL.out; omega), HGN⟩
              case measure => simp [intOf]; omega
      · obtain ⟨z, hz⟩ : ∃ z : Int, z = ((gP P : Nat) : Int) := ⟨_, rfl⟩
        have z0 : (z == 0) = false := by
          rw [beq_eq_false_iff_ne, hz]
          intro e
          exact h0 ((gP_zero P).1 (by omega))
        have z1 : (z != 0) = true := by rw [bne, z0]; rfl
        rw [← hz] at hcell
        rw [if_pos h0] at hG
        have HGN := hide hG
        clear hG hdr hsn hP h0 hz
        go_wp2_with fail
        go_roundw
        case rel => exact ⟨k + 1, b, op, ps, by omega, by omega, rfl, rfl, by go_num, HB, hide (by have := HL.out; omega), HGN⟩
        case measure => simp [intOf]; omega
    · have hke : k = s.size := by omega
      have HGE : Hid ((ps ++ [s.extract b s.size]).map (fun x => x.data.toList) = boxF m0 false [] s.data.toList) := hide (by
        have := HG.out
        rw [hke, drop_nil s s.size (Nat.le_refl _), boxF] at this
        rw [← this, List.map_append]; rfl)
      have b1 : (b : Int) ≤ s.size := by omega
      have HLN : Hid (ps.length + 1 ≤ 8796093022208) := hide (by have := HL.out; omega)
      have HLE : Hid ((ps ++ [s.extract b s.size]).length ≤ s.size + 1) := hide (by have := HL.out; simp; omega)
      clear hke
      go_wp2_with (refine wpList_strs rfl _ _ rfl w1.heap.size u4 ps rfl w1 wr (s.extract b s.size) HB.out rfl HLN.out ?_; intro v2 w2 hb2; have HB2 := hide hb2; clear hb2)
      go_ret
      exact ⟨_, _, rfl, HB2.out.lower8 K1.out.size K1.out, HGE.out, HLE.out⟩
end Go.Proofs.YtcmmbceacjechaaGreatDoor
