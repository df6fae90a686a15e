/- WALK of the law QpLines. No statement is proved here. -/
import Derived.Test.YtlllboleinnfiaaQpLaw0
import Derived.Test.YtlllboleinnfiaaQpEnc
namespace Go.Proofs.Ytlllboleinnfiaa
open Go.RowKit
set_option linter.unusedVariables false
set_option linter.unusedSimpArgs false

/-- the lines behind a column are short, their bytes plain -/
def chk (n : Nat) : List UInt8 → Bool
  | [] => true
  | c :: r => if c = 10 then chk 0 r else (decide (32 ≤ c.toNat) && decide (c.toNat ≤ 126) && decide (n + 1 ≤ 78)) && chk (n + 1) r
/-- the column behind a text -/
def col (n : Nat) : List UInt8 → Nat
  | [] => n
  | c :: r => if c = 10 then col 0 r else col (n + 1) r
theorem chk_append (a b : List UInt8) : ∀ n, chk n (a ++ b) = (chk n a && chk (col n a) b) := by
  induction a with
  | nil => intro n; rfl
  | cons c r ih =>
    intro n
    rw [List.cons_append, chk, chk, col]
    split
    · exact ih 0
    · rw [ih]; simp only [Bool.and_assoc]
theorem col_append (a b : List UInt8) : ∀ n, col n (a ++ b) = col (col n a) b := by
  induction a with
  | nil => intro n; rfl
  | cons c r ih =>
    intro n
    rw [List.cons_append, col, col]
    split
    · exact ih 0
    · exact ih _
theorem chk_one {c : UInt8} {n : Nat} (h : c ≠ 10) (h1 : 32 ≤ c.toNat) (h2 : c.toNat ≤ 126) (h3 : n + 1 ≤ 78) : chk n [c] = true := by
  simp [chk, h, h1, h2, h3]
theorem col_one {c : UInt8} {n : Nat} (h : c ≠ 10) : col n [c] = n + 1 := by simp [col, h]
theorem vis_range (c : UInt8) (h : visB c = true) : 32 ≤ c.toNat ∧ c.toNat ≤ 126 :=
  u8_all (p := fun c => visB c = true → 32 ≤ c.toNat ∧ c.toNat ≤ 126) (by decide +kernel) c h
theorem sign_chk (c : UInt8) (last : Bool) (n : Nat) (h : n + (sign c last).length ≤ 78) : chk n (sign c last) = true ∧ col n (sign c last) = n + (sign c last).length := by
  rcases sign_kinds c last with ⟨h1, h2⟩ | ⟨h1, rfl, _⟩ | h1
  · rw [h1] at h ⊢
    have hv := vis_facts c h2
    have hr := vis_range c h2
    exact ⟨chk_one hv.2.2.1 hr.1 hr.2 h, col_one hv.2.2.1⟩
  · rw [h1] at h ⊢
    exact ⟨chk_one (by decide) (by decide) (by decide) h, rfl⟩
  · rw [h1] at h ⊢
    have hf := hex_facts c
    have h' : n + 3 ≤ 78 := h
    simp [chk, col, hf.2.2.2.2.1, hf.2.2.2.2.2.1, hf.2.2.2.2.2.2.1, hf.2.2.2.2.2.2.2.1, hf.2.2.2.2.2.2.2.2.1, hf.2.2.2.2.2.2.2.2.2]
    omega
theorem guard_chk (out : List UInt8) (n : Nat) (h : chk 0 out = true) (hc : col 0 out = n) (hn : n ≤ 75) : chk 0 (guardL out) = true ∧ col 0 (guardL out) ≤ n + 2 := by
  rcases List.eq_nil_or_concat out with rfl | ⟨l, c, rfl⟩
  · exact ⟨rfl, by rw [guardL_nil, hc]; omega⟩
  · rw [List.concat_eq_append] at *
    by_cases h32 : c = 32
    · subst h32
      rw [guardL_blank]
      rw [chk_append, Bool.and_eq_true] at h
      rw [col_append, col_one (by decide)] at hc
      rw [chk_append, col_append, h.1]
      have h3 : ∀ m, m + 3 ≤ 78 → chk m [61, 50, 48] = true ∧ col m [61, 50, 48] = m + 3 := by
        intro m hm; simp [chk, col]; omega
      have := h3 (col 0 l) (by omega)
      rw [this.1, this.2]
      exact ⟨rfl, by omega⟩
    · rw [guardL_other _ h32]
      exact ⟨h, by omega⟩
theorem encGo_chk (l : List UInt8) : ∀ (out : List UInt8) (line : Nat), chk 0 out = true → col 0 out = line → line ≤ 75 → chk 0 (encGo out line l) = true := by
  induction l with
  | nil => intro out line h _ _; exact h
  | cons c r ih =>
    intro out line h hc hn
    have h1 := sign_length c r.isEmpty
    rw [encGo]
    split
    · have hg := guard_chk out line h hc hn
      have hs := sign_chk c r.isEmpty 0 (by omega)
      have he : ∀ m, m + 1 ≤ 78 → chk m [61, 10] = true ∧ col m [61, 10] = 0 := by
        intro m hm; simp [chk, col]; omega
      have he := he (col 0 (guardL out)) (by omega)
      refine ih _ _ ?_ ?_ (by omega)
      · rw [chk_append, chk_append, col_append, hg.1, he.1, he.2, hs.1]; rfl
      · rw [col_append, col_append, he.2, hs.2, Nat.zero_add]
    · have hs := sign_chk c r.isEmpty line (by omega)
      refine ih _ _ ?_ ?_ (by omega)
      · rw [chk_append, h, hc, hs.1]; rfl
      · rw [col_append, hc, hs.2]
theorem enc_chk (l : List UInt8) : chk 0 (enc l) = true := encGo_chk l [] 0 rfl rfl (by omega)

set_option maxHeartbeats 1000000 in
theorem law_QpLines (s : ByteArray) (hs : s.size ≤ maxLen) (w : World) :
    Calls Try.prog 6 #[.string s] w fun e w' => e = .returned (.bool true) ∧ Below w.heap.size w w' := by
  by_cases h3 : s.size ≤ 3000
  · have HD : Hid (decide (s.size ≤ 3000) = true) := decide_eq_true h3
    obtain ⟨t, ht⟩ : ∃ t, t = str (enc s.data.toList) := ⟨_, rfl⟩
    have hc : chk 0 t.data.toList = true := by rw [ht, str_toList]; exact enc_chk _
    have hz : t.size ≤ 4 * s.size := by have h := enc_length s.data.toList; rw [toList_length] at h; rw [ht, str_size]; exact h
    have HT := hide ht
    have HC := hide hc
    clear ht hc
    go_enter Try.func6, Try.ntmps6
    go_wp2_with fail
    refine (short2_any _ _ hs).mono ?_
    rintro e w1 ⟨rfl, rfl⟩
    rw [HD.out]
    go_wp2_with fail
    refine (encode_any _ _ (by omega)).mono ?_
    rintro e w1 ⟨rfl, hb1⟩
    rw [← HT.out]
    go_wp2_with fail
    go_loop [4, 5] (fun n i => ∃ k m : Nat, k ≤ t.size ∧ m ≤ k ∧ i = .int .i64 k ∧ n = .int .i64 m ∧ chk m (t.data.toList.drop k) = true) (fun _ i => t.size - (intOf i).toNat)
    case atStart => exact ⟨0, 0, Nat.zero_le _, Nat.zero_le _, rfl, rfl, HC.out⟩
    case round =>
      obtain ⟨k, m, hk, hm, rfl, rfl, hp⟩ := hrel
      by_cases hlt : k < t.size
      · rw [drop_cons t k hlt, chk] at hp
        by_cases h10 : t[k] = 10
        · have t1 : ((t[k].toNat : Int) == 10) = true := tT 10 h10 (by omega)
          rw [if_pos h10] at hp
          have HP := hide hp
          clear hp h10
          go_wp2_with fail
          go_round
          case rel => exact ⟨k + 1, 0, by omega, by omega, by go_num, rfl, HP.out⟩
          case measure => simp [intOf]; omega
        · have t1 : ((t[k].toNat : Int) == 10) = false := tF 10 h10 (by omega)
          rw [if_neg h10] at hp
          simp only [Bool.and_eq_true, decide_eq_true_eq] at hp
          obtain ⟨⟨⟨p1, p2⟩, p3⟩, hp⟩ := hp
          have HP := hide hp
          clear hp h10
          go_wp2_with fail
          go_round
          case rel => exact ⟨k + 1, m + 1, by omega, by omega, by go_num, by go_num, HP.out⟩
          case measure => simp [intOf]; omega
      · clear hp
        have hle : (t.size : Int) ≤ 4 * (s.size : Int) + 4 := by omega
        go_wp2_with fail
        refine (live2_any _).mono ?_
        rintro e w2 ⟨rfl, hb2⟩
        go_wp2_with fail
        go_ret
        exact ⟨rfl, hb1.trans (hb2.mono hb1.size)⟩
  · have HD : Hid (decide (s.size ≤ 3000) = false) := decide_eq_false h3
    go_enter Try.func6, Try.ntmps6
    go_wp2_with fail
    refine (short2_any _ _ hs).mono ?_
    rintro e w1 ⟨rfl, rfl⟩
    rw [HD.out]
    go_wp2_with fail
    refine (live2_any _).mono ?_
    rintro e w1 ⟨rfl, hb1⟩
    go_wp2_with fail
    go_ret
    exact ⟨rfl, hb1⟩
end Go.Proofs.Ytlllboleinnfiaa
