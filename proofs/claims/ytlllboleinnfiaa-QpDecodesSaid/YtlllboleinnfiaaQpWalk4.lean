/- WALKS of qp.written, qp.guardBlank, qp.Encode. No statement is proved here. -/
import Derived.Test.YtlllboleinnfiaaQpWalk
namespace Go.Proofs.Ytlllboleinnfiaa
open Go.RowKit
set_option linter.unusedVariables false
set_option linter.unusedSimpArgs false

set_option maxHeartbeats 1000000 in
theorem written_code (c : UInt8) (last : Bool) (w : World) (h : (plainB c && !(c == 32 && last)) = false) :
    Calls Try.prog 21 #[.int .u8 c.toNat, .bool last] w fun e w' => e = .returned (.string (str [61, hexHi c, hexLo c])) ∧ Below w.heap.size w w' := by
  have hc := byte_lt c
  have z1 : (⟨#[61]⟩ : ByteArray).size = 1 := rfl
  have z2 : (str [hexHi c, hexLo c]).size = 2 := rfl
  have hcase : plainB c = false ∨ (plainB c = true ∧ ((c.toNat : Int) == 32) = true ∧ last = true) := by
    cases hp : plainB c
    · exact .inl rfl
    · rw [hp] at h
      simp only [Bool.true_and, Bool.not_eq_false', Bool.and_eq_true, beq_iff_eq] at h
      exact .inr ⟨rfl, tT 32 h.1 (by omega), h.2⟩
  clear h
  rcases hcase with hp | ⟨hp, t0, rfl⟩
  all_goals
    have HP := hide hp
    clear hp
    go_enter Try.func21, Try.ntmps21
    go_wp2_with fail
    refine (plain_any c _).mono ?_
    rintro e w1 ⟨rfl, rfl⟩
    rw [HP.out]
    go_wp2_with fail
    refine (asciiHex_any c _).mono ?_
    rintro e w2 ⟨rfl, hb⟩
    go_wp2_with fail
    go_ret
    exact ⟨ret_str (ext_list (by simp [str])), hb⟩

set_option maxHeartbeats 1000000 in
theorem written_self (c : UInt8) (last : Bool) (w : World) (h : (plainB c && !(c == 32 && last)) = true) :
    Calls Try.prog 21 #[.int .u8 c.toNat, .bool last] w fun e w' => e = .returned (.string (str [c])) ∧ Below w.heap.size w w' := by
  have hc := byte_lt c
  have hcv := conv1
  have hcase : plainB c = true ∧ (((c.toNat : Int) == 32) = false ∨ ((c.toNat : Int) == 32) = true ∧ last = false) := by
    simp only [Bool.and_eq_true, Bool.not_eq_true', Bool.and_eq_false_iff, beq_eq_false_iff_ne] at h
    refine ⟨h.1, ?_⟩
    rcases h.2 with h2 | h2
    · exact .inl (tF 32 h2 (by omega))
    · by_cases e : c = 32
      · exact .inr ⟨tT 32 e (by omega), h2⟩
      · exact .inl (tF 32 e (by omega))
  clear h
  obtain ⟨hp, t0 | ⟨t0, rfl⟩⟩ := hcase
  all_goals
    have HP := hide hp
    clear hp
    go_enter Try.func21, Try.ntmps21
    go_wp2_with fail
    refine (plain_any c _).mono ?_
    rintro e w1 ⟨rfl, rfl⟩
    rw [HP.out]
    go_wp2_with fail
    go_ret
    exact ⟨ret_str (nums_str (by simp)), (Below.refl _ _).alloc (Nat.le_refl _) _⟩

theorem written_any (c : UInt8) (last : Bool) (w : World) :
    Calls Try.prog 21 #[.int .u8 c.toNat, .bool last] w fun e w' => e = .returned (.string (str (sign c last))) ∧ Below w.heap.size w w' := by
  unfold sign
  cases h : (plainB c && !(c == 32 && last))
  · exact written_code c last w h
  · exact written_self c last w h

set_option maxHeartbeats 1000000 in
theorem guard_any (B : Nat) (v : Value) (l : List UInt8) (W0 w : World) (hb : Buf B v l W0 w) (hl : l.length ≤ 70368744177664) :
    Calls Try.prog 22 #[v] w fun e w' => ∃ v', e = .returned v' ∧ Buf B v' (guardL l) W0 w' := by
  rcases List.eq_nil_or_concat l with rfl | ⟨l', c, rfl⟩
  · have hv : (v = .slice none 0 0 ∧ True) ∨ ∃ g cap, v = .slice (some ⟨g, 0, none⟩) 0 cap := by
      rcases hb.1.2 with ⟨h, _⟩ | ⟨g, cap, cur, h, _⟩
      · exact .inl ⟨h, trivial⟩
      · exact .inr ⟨g, cap, h⟩
    rw [guardL_nil]
    have HB := hide hb
    clear hb hl
    rcases hv with ⟨rfl, -⟩ | ⟨g, cap, rfl⟩
    all_goals
      go_enter Try.func22, Try.ntmps22
      go_wp2_with fail
      go_ret
      exact ⟨_, rfl, HB.out⟩
  · rw [List.concat_eq_append] at hb hl ⊢
    obtain ⟨g, cap, rfl, hcap, hm, hg1, hg2⟩ := hb.form (by simp)
    have hcell := hb.cellAt l'.length (by simp)
    have hlen : (l' ++ [c]).length = l'.length + 1 := by simp
    rw [List.getElem_concat_length rfl] at hcell
    have htake := hb.take l'.length (by simp)
    rw [hlen] at hcap hl
    rw [hlen]
    rw [List.take_left] at htake
    have HT := hide htake
    have HB := hide hb
    clear htake hb hlen
    unfold maxLen at hm
    by_cases hc : c = 32
    · have t0 : ((c.toNat : Int) == 32) = true := tT 32 hc (by omega)
      have t1 : ((c.toNat : Int) != 32) = false := by rw [bne, t0]; rfl
      have HC := hide hc
      clear hc t0
      go_enter Try.func22, Try.ntmps22
      go_wp2_with (refine wpList_buf_text rfl _ _ rfl B _ l' rfl W0 HT.out ⟨#[61, 50, 48]⟩ rfl (by show _ + 3 ≤ _; omega) ?_; intro v2 w2 hb2; have HB2 := hide hb2; clear hb2)
      go_ret
      refine ⟨_, rfl, ?_⟩
      rw [HC.out, guardL_blank]
      exact HB2.out
    · have t0 : ((c.toNat : Int) == 32) = false := tF 32 hc (by omega)
      have t1 : ((c.toNat : Int) != 32) = true := by rw [bne, t0]; rfl
      have HC := hide hc
      clear hc t0
      go_enter Try.func22, Try.ntmps22
      go_wp2_with fail
      go_ret
      refine ⟨_, rfl, ?_⟩
      rw [guardL_other _ HC.out]
      have := HB.out
      rw [List.length_append] at this
      exact this

theorem encGo_cons_keep {out : List UInt8} {line : Nat} {c : UInt8} {r : List UInt8} (h : ¬ 75 < line + (sign c r.isEmpty).length) : encGo out line (c :: r) = encGo (out ++ sign c r.isEmpty) (line + (sign c r.isEmpty).length) r := by
  rw [encGo, if_neg h]
theorem encGo_cons_break {out : List UInt8} {line : Nat} {c : UInt8} {r : List UInt8} (h : 75 < line + (sign c r.isEmpty).length) : encGo out line (c :: r) = encGo (guardL out ++ [61, 10] ++ sign c r.isEmpty) (sign c r.isEmpty).length r := by
  rw [encGo, if_pos h]

set_option maxHeartbeats 2000000 in
theorem encode_any (s : ByteArray) (w : World) (hs : s.size ≤ 1048576) :
    Calls Try.prog 13 #[.string s] w fun e w' => e = .returned (.string (str (enc s.data.toList))) ∧ Below w.heap.size w w' := by
  have hc8 : (((s.size + s.size / 8 : Nat) : Int)) = s.size + s.size / 8 := by omega
  go_enter Try.func13, Try.ntmps13
  go_wp2_with (refine wpList_buf_make rfl _ _ rfl w.heap.size w (Below.refl _ _) (Nat.le_refl _) (s.size + s.size / 8) (s.size + s.size / 8) rfl rfl (by omega) (by omega) ?_; intro v0 w0 hb0)
  clear hc8
  go_loopw [3, 4, 16] (fun v n i wr => ∃ (k line : Nat) (acc : List UInt8), k ≤ s.size ∧ i = .int .i64 k ∧ n = .int .i64 line ∧ Buf w.heap.size v acc w wr ∧ acc.length ≤ 7 * k ∧ line ≤ 75 ∧ encGo acc line (s.data.toList.drop k) = enc s.data.toList) (fun _ _ i _ => s.size - (intOf i).toNat)
  case atStart => exact ⟨0, 0, [], Nat.zero_le _, rfl, rfl, hb0, Nat.le_refl _, by omega, by simp [enc]⟩
  case round =>
    obtain ⟨k, line, acc, hk, rfl, rfl, hb, hacc, hline, hd⟩ := hrel
    by_cases hlt : k < s.size
    · rw [drop_cons s k hlt] at hd
      obtain ⟨last, hl⟩ : ∃ b, b = (s.data.toList.drop (k + 1)).isEmpty := ⟨_, rfl⟩
      have hlast : ((k : Int) == (s.size : Int) - 1) = last := by
        rw [hl]
        by_cases h1 : k + 1 = s.size
        · rw [drop_nil s (k + 1) (by omega)]; simp; omega
        · rw [drop_cons s (k + 1) (by omega), beq_eq_false_iff_ne.2 (by omega)]; rfl
      obtain ⟨sg, hsg⟩ : ∃ l, l = sign s[k] last := ⟨_, rfl⟩
      have hsl := sign_length s[k] last
      rw [← hsg] at hsl
      obtain ⟨hs1, hs2⟩ := hsl
      have hsz : (str sg).size = sg.length := str_size sg
      have HB := hide hb
      have HS := hide hsg
      by_cases hbr : 75 < line + sg.length
      · rw [encGo_cons_break (by rw [← hl, ← hsg]; exact hbr), ← hl, ← hsg] at hd
        have HD := hide hd
        have hgl := guardL_length acc
        clear hd hl hsg hb
        go_wp2_with fail
        refine (written_any _ _ _).mono ?_
        rintro e w1 ⟨rfl, hb1⟩
        rw [← HS.out]
        have HB1 := hide (HB.out.kept hb1)
        go_wp2_with fail
        refine (guard_any _ _ _ _ _ HB1.out (by omega)).mono ?_
        rintro e w2 ⟨v2, rfl, hb2⟩
        have HB2 := hide hb2
        clear hb2
        obtain ⟨gl, hgl1⟩ : ∃ l, l = guardL acc := ⟨_, rfl⟩
        rw [← hgl1] at HB2 HD hgl
        clear hgl1
        go_wp2_with (first
          | (refine wpList_buf_text rfl _ _ rfl w.heap.size v2 gl rfl w HB2.out ⟨#[61, 10]⟩ rfl (by show _ + 2 ≤ _; omega) ?_; intro v3 w3 hb3; have HB3 := hide hb3; clear hb3)
          | (refine wpList_buf_text rfl _ _ rfl w.heap.size v3 (gl ++ [61, 10]) rfl w HB3.out (str sg) rfl (by rw [List.length_append, str_size]; show _ + 2 + _ ≤ _; omega) ?_; intro v4 w4 hb4; rw [str_toList] at hb4; have HB4 := hide hb4; clear hb4))
        go_roundw
        case rel => exact ⟨k + 1, sg.length, _, by omega, by go_num, by simp, HB4.out, by simp; omega, by omega, HD.out⟩
        case measure => simp [intOf]; omega
      · rw [encGo_cons_keep (by rw [← hl, ← hsg]; exact hbr), ← hl, ← hsg] at hd
        have HD := hide hd
        clear hd hl hsg hb
        go_wp2_with fail
        refine (written_any _ _ _).mono ?_
        rintro e w1 ⟨rfl, hb1⟩
        rw [← HS.out]
        have HB1 := hide (HB.out.kept hb1)
        go_wp2_with (refine wpList_buf_text rfl _ _ rfl w.heap.size u3 acc rfl w HB1.out (str sg) rfl (by rw [str_size]; omega) ?_; intro v4 w4 hb4; rw [str_toList] at hb4; have HB4 := hide hb4; clear hb4)
        go_roundw
        case rel => exact ⟨k + 1, line + sg.length, _, by omega, by go_num, by go_num, HB4.out, by simp; omega, by omega, HD.out⟩
        case measure => simp [intOf]; omega
    · have HB := hide hb
      have hcv := hb.convert
      have HD := hide hd
      clear hb hd
      go_wp2
      go_ret
      refine ⟨?_, HB.out.below⟩
      have h := HD.out
      rw [drop_nil s k (by omega), encGo] at h
      exact ret_str (by rw [h])
end Go.Proofs.Ytlllboleinnfiaa
