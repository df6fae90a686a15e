/- WALK of the reference's Wrap for package b64, and what it computes. No statement is proved here. -/
import Derived.Test.YtdjolkkifcjpdaaB64RefF
namespace Go.Proofs.Ytdjolkkifcjpdaa
open Go.RowKit
set_option linter.unusedVariables false
set_option linter.unusedSimpArgs false

/-- the bytes from position k on, with a line end ahead of each n-th one -/
def refW (n : Nat) : Nat → List UInt8 → List UInt8
  | _, [] => []
  | k, c :: r => (if 0 < k ∧ k % n = 0 then [13, 10] else []) ++ c :: refW n (k + 1) r
theorem refW_yes {n k : Nat} {c : UInt8} {r : List UInt8} (h : 0 < k ∧ k % n = 0) : refW n k (c :: r) = [13, 10] ++ c :: refW n (k + 1) r := by rw [refW, if_pos h]
theorem refW_no {n k : Nat} {c : UInt8} {r : List UInt8} (h : ¬ (0 < k ∧ k % n = 0)) : refW n k (c :: r) = c :: refW n (k + 1) r := by rw [refW, if_neg h]; rfl
theorem refW_run (n : Nat) (a l : List UInt8) : ∀ k, (∀ i, i < a.length → ¬ (0 < k + i ∧ (k + i) % n = 0)) → refW n k (a ++ l) = a ++ refW n (k + a.length) l := by
  induction a with
  | nil => intro k _; rfl
  | cons c r ih =>
    intro k h
    rw [List.cons_append, refW_no (show ¬ (0 < k ∧ k % n = 0) from h 0 (by simp)), ih (k + 1) (fun i hi => by have := h (i + 1) (by simp; omega); rwa [show k + (i + 1) = k + 1 + i by omega] at this)]
    rw [show k + 1 + r.length = k + (c :: r).length by simp; omega]
    rfl
theorem refW_wrap (n : Nat) (hn : 0 < n) (m : Nat) : ∀ (l : List UInt8) (q : Nat), l.length ≤ m → l ≠ [] → refW n (q * n) l = (if 0 < q then [13, 10] else []) ++ wrapL n l := by
  induction m with
  | zero => intro l q hl h; exact absurd (List.eq_nil_of_length_eq_zero (by omega)) h
  | succ m ih =>
    intro l q hl h
    match l, h with
    | c :: r, _ =>
      have hsep : refW n (q * n) (c :: r) = (if 0 < q then [13, 10] else []) ++ c :: refW n (q * n + 1) r := by
        rw [refW]
        by_cases hq : 0 < q
        · rw [if_pos hq, if_pos ⟨Nat.mul_pos hq hn, Nat.mul_mod_left _ _⟩]
        · have : q = 0 := by omega
          subst this
          rw [if_neg hq, if_neg (by simp)]
      rw [hsep]
      have hmid : ∀ a : List UInt8, a.length < n → ∀ i, i < a.length → ¬ (0 < q * n + 1 + i ∧ (q * n + 1 + i) % n = 0) := by
        intro a ha i hi
        rw [Nat.add_assoc, Nat.add_comm (q * n), Nat.add_mul_mod_self_right, Nat.mod_eq_of_lt (by omega)]
        omega
      by_cases hlt : n < (c :: r).length
      · rw [wrapL_go hn hlt]
        obtain ⟨n', rfl⟩ : ∃ n', n = n' + 1 := ⟨n - 1, by omega⟩
        rw [List.take_succ_cons, List.drop_succ_cons]
        simp only [List.length_cons] at hlt hl
        have hd : r.drop n' ≠ [] := by intro e; have := congrArg List.length e; simp at this; omega
        have htl : (r.take n').length = n' := by rw [List.length_take]; omega
        conv => lhs; rw [← List.take_append_drop n' r]
        rw [refW_run (n' + 1) (r.take n') (r.drop n') _ (hmid _ (by rw [htl]; omega)), htl, show q * (n' + 1) + 1 + n' = (q + 1) * (n' + 1) by rw [Nat.add_mul q 1]; omega,
          ih (r.drop n') (q + 1) (by rw [List.length_drop]; omega) hd, if_pos (show 0 < q + 1 by omega)]
        simp
      · rw [wrapL_end hlt]
        simp only [List.length_cons] at hlt
        have h2 := refW_run n r [] (q * n + 1) (hmid r (by omega))
        rw [List.append_nil] at h2
        rw [h2, refW, List.append_nil]
theorem refW_all (n : Nat) (hn : 0 < n) (l : List UInt8) : refW n 0 l = wrapL n l := by
  by_cases h : l = []
  · subst h; rw [wrapL_end (by simp)]; rfl
  · have := refW_wrap n hn l.length l 0 (Nat.le_refl _) h
    rw [Nat.zero_mul] at this
    rw [this]; rfl

set_option maxRecDepth 100000 in
set_option maxHeartbeats 2000000 in
theorem ref64Wrap_any (s : ByteArray) (z : Int) (n : Nat) (w : World) (hs : s.size ≤ 100000) (hz : z ≤ 9223372036854775807) (hn : max z 1 = (n : Int)) :
    Calls Try.prog 20 #[.string s, .int .i64 z] w fun e w' => e = .returned (.string (str (wrapL n (encB s.data.toList)))) ∧ Below w.heap.size w w' := by
  have hn1 : 1 ≤ n := by omega
  have hn1' : (1 : Int) ≤ n := by omega
  have hn2 : (n : Int) ≤ 9223372036854775807 := by omega
  have hbl := encB_length s.data.toList
  rw [toList_length] at hbl
  obtain ⟨S, hS⟩ : ∃ S, S = str (encB s.data.toList) := ⟨_, rfl⟩
  have hSz : S.size ≤ 200003 := by rw [hS, str_size]; omega
  obtain ⟨W, hW⟩ : ∃ W, W = wrapL n (encB s.data.toList) := ⟨_, rfl⟩
  have hW2 : refW n 0 S.data.toList = W := by rw [hW, hS, str_toList, refW_all n (by omega)]
  rw [← hW]
  have HS := hide hS
  have HW := hide hW2
  clear hbl hS hW hW2
  have hcase : (z < 1 ∧ n = 1) ∨ (1 ≤ z ∧ z = (n : Int)) := by omega
  clear hn
  have hcase : (z < 1 ∧ Hid (n = 1)) ∨ (1 ≤ z ∧ z = (n : Int)) := hcase
  rcases hcase with ⟨hz1, HN1⟩ | ⟨hz1, rfl⟩
  all_goals
    go_enter Try.func20, Try.ntmps20
    go_wp2_with fail
    refine (ref64Encode_any s _ hs).mono ?_
    rintro e w1 ⟨rfl, hb1⟩
    rw [← HS.out]
    have HB1 := hide hb1
    have hsz1 := hb1.size
    clear hb1
    go_wp2_with fail
    go_loopw [7, 8] (fun v i wr => ∃ (k : Nat) (acc : List UInt8), k ≤ S.size ∧ i = .int .i64 k ∧ Buf w.heap.size v acc w wr ∧ acc.length ≤ 3 * k ∧ acc ++ refW n k (S.data.toList.drop k) = W) (fun _ i _ => S.size - (intOf i).toNat)
    case atStart => exact ⟨0, [], Nat.zero_le _, rfl, Buf.nil HB1.out hsz1, Nat.le_refl _, HW.out⟩
    case round =>
      obtain ⟨k, acc, hk, rfl, hbf, hl, hR⟩ := hrel
      obtain ⟨A, cc, rfl⟩ := hbf.slice_len
      have HB := hide hbf
      clear hbf
      by_cases hlt : k < S.size
      · rw [drop_cons S k hlt] at hR
        by_cases hc : 0 < k ∧ k % n = 0
        · rw [refW_yes hc] at hR
          have HR := hide hR
          have t1 : 0 < (k : Int) := by omega
          have t2 : ((k : Int) % n == 0) = true := by rw [beq_iff_eq]; omega
          clear hR hc
          go_wp2_with (first
            | (refine wpList_buf_text rfl _ _ rfl w.heap.size (.slice A acc.length cc) acc rfl w HB.out ⟨#[13, 10]⟩ rfl (show acc.length + 2 ≤ _ by omega) ?_; intro v2 w2 hb2; have HB2 := hide hb2; clear hb2)
            | (refine wpList_buf_byte rfl _ _ rfl w.heap.size v2 (acc ++ [13, 10]) rfl w _ S[k] HB2.out rfl (by simp; omega) ?_; intro v3 w3 hb3; have HB3 := hide hb3; clear hb3))
          go_roundw
          case rel => exact ⟨k + 1, (acc ++ [13, 10]) ++ [S[k]], by omega, by go_num, HB3.out, by simp; omega, by rw [← HR.out]; simp⟩
          case measure => simp [intOf]; omega
        · rw [refW_no hc] at hR
          have HR := hide hR
          have hc2 : k = 0 ∨ 0 < k ∧ ¬ k % n = 0 := by omega
          clear hR hc
          rcases hc2 with h0 | ⟨t0, t2⟩
          · have t1 : ¬ 0 < (k : Int) := by omega
            clear h0
            go_wp2_with (refine wpList_buf_byte rfl _ _ rfl w.heap.size (.slice A acc.length cc) acc rfl w _ S[k] HB.out rfl (by omega) ?_; intro v3 w3 hb3; have HB3 := hide hb3; clear hb3)
            go_roundw
            case rel => exact ⟨k + 1, acc ++ [S[k]], by omega, by go_num, HB3.out, by simp; omega, by rw [← HR.out]; simp⟩
            case measure => simp [intOf]; omega
          · first
              | (exfalso; have h := HN1.out; subst h; omega)
              | (have t1 : 0 < (k : Int) := by omega
                 have t2' : ((k : Int) % n == 0) = false := by rw [beq_eq_false_iff_ne]; omega
                 clear t2
                 go_wp2_with (refine wpList_buf_byte rfl _ _ rfl w.heap.size (.slice A acc.length cc) acc rfl w _ S[k] HB.out rfl (by omega) ?_; intro v3 w3 hb3; have HB3 := hide hb3; clear hb3)
                 go_roundw
                 case rel => exact ⟨k + 1, acc ++ [S[k]], by omega, by go_num, HB3.out, by simp; omega, by rw [← HR.out]; simp⟩
                 case measure => simp [intOf]; omega)
      · have hcv := HB.out.convert
        rw [drop_nil S k (by omega), refW, List.append_nil] at hR
        have HR := hide hR
        clear hR
        go_wp2
        go_ret
        exact ⟨ret_str (by rw [HR.out]), HB.out.below⟩
end Go.Proofs.Ytdjolkkifcjpdaa
