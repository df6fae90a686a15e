/- WALK of the reference's Good (layer 8). No statement is proved here. -/
import Derived.Test.YtcmmbceacjechaaGreatDoorAddrH
namespace Go.Proofs.YtcmmbceacjechaaGreatDoor
open Go.RowKit
set_option linter.unusedVariables false
set_option linter.unusedSimpArgs false
set_option maxRecDepth 100000
/-- a mail address from here on, n `@` ahead; b: is it the first byte? -/
def gr (n : Nat) (b : Bool) : List UInt8 → Bool
  | [] => n == 1
  | c :: r => if notOne.contains c then false else if c = 64 ∧ (b = true ∨ r = []) then false else if (c.toNat : Int) < 33 ∨ 126 < (c.toNat : Int) then false else gr (if c = 64 then n + 1 else n) false r
def InOne (c : UInt8) : Prop := notOne.contains c = false ∧ 33 ≤ c.toNat ∧ c.toNat ≤ 126
theorem gr_spec (l : List UInt8) : ∀ n, gr n false l = true ↔ (∀ c ∈ l, InOne c) ∧ l.count 64 + n = 1 ∧ l.getLast? ≠ some 64 := by
  induction l with
  | nil => intro n; simp [gr]
  | cons c r ih =>
    intro n
    unfold gr
    by_cases h1 : notOne.contains c = true
    · rw [if_pos h1]
      refine ⟨fun h => (by cases h), fun h => ?_⟩
      have := (h.1 c (List.mem_cons_self ..)).1
      rw [h1] at this; cases this
    · rw [if_neg h1]
      have h1' : notOne.contains c = false := by simpa using h1
      by_cases h2 : c = 64 ∧ (false = true ∨ r = [])
      · rw [if_pos h2]
        refine ⟨fun h => (by cases h), fun h => ?_⟩
        obtain ⟨rfl, h3 | rfl⟩ := h2
        · cases h3
        · exact absurd rfl h.2.2
      · rw [if_neg h2]
        by_cases h3 : (c.toNat : Int) < 33 ∨ 126 < (c.toNat : Int)
        · rw [if_pos h3]
          refine ⟨fun h => (by cases h), fun h => ?_⟩
          have := (h.1 c (List.mem_cons_self ..)).2
          omega
        · rw [if_neg h3, ih]
          have hin : InOne c := ⟨h1', by omega, by omega⟩
          have hlast : (c :: r).getLast? ≠ some 64 ↔ r.getLast? ≠ some 64 := by
            cases r with
            | nil =>
              have : c ≠ 64 := fun e => h2 ⟨e, .inr rfl⟩
              simp [this]
            | cons d r => rw [List.getLast?_cons_cons]
          have hcount : (c :: r).count 64 + n = r.count 64 + (if c = 64 then n + 1 else n) := by
            rw [List.count_cons]
            by_cases e : c = 64
            · simp [e]; omega
            · simp [e]
          rw [hlast, hcount]
          refine ⟨fun h => ⟨fun x hx => ?_, h.2⟩, fun h => ⟨fun x hx => h.1 x (List.mem_cons_of_mem _ hx), h.2⟩⟩
          rcases List.mem_cons.1 hx with rfl | hx
          · exact hin
          · exact h.1 x hx
theorem gr_first (l : List UInt8) : gr 0 true l = true ↔ gr 0 false l = true ∧ l.head? ≠ some 64 := by
  cases l with
  | nil => simp [gr]
  | cons c r =>
    unfold gr
    by_cases h1 : notOne.contains c = true
    · rw [if_pos h1, if_pos h1]; simp
    · rw [if_neg h1, if_neg h1]
      by_cases h2 : c = 64
      · rw [if_pos ⟨h2, .inl rfl⟩]
        simp [h2]
      · rw [if_neg (show ¬ (c = 64 ∧ (true = true ∨ r = [])) from fun h => h2 h.1), if_neg (show ¬ (c = 64 ∧ (false = true ∨ r = [])) from fun h => h2 h.1)]
        simp [h2]
theorem count_zero {l : List UInt8} (h : (64 : UInt8) ∉ l) : l.count 64 = 0 := List.count_eq_zero.2 h
theorem hasAt_iff (l : List UInt8) : hasAt l = true ↔ (64 : UInt8) ∈ l := by
  unfold hasAt
  rcases index_cut 64 l with ⟨h1, h2, _⟩ | ⟨o, h1, _, h2, _⟩
  · rw [h1]; simp [h2]
  · rw [h1]
    refine ⟨fun _ => h2, fun _ => decide_eq_true (by omega)⟩
theorem goodL_iff (l : List UInt8) : goodL l = true ↔ (∀ c ∈ l, InOne c) ∧ beforeC 64 l ≠ [] ∧ afterC 64 l ≠ [] ∧ (64 : UInt8) ∉ afterC 64 l := by
  unfold goodL
  have hw : (withinB 33 126 l && !hasAny notOne l) = true ↔ ∀ c ∈ l, InOne c := by
    rw [Bool.and_eq_true]
    unfold withinB hasAny InOne
    rw [List.all_eq_true]
    constructor
    · rintro ⟨h1, h2⟩ c hc
      have h3 := h1 c hc
      rw [Bool.and_eq_true, decide_eq_true_eq, decide_eq_true_eq] at h3
      refine ⟨?_, by omega, by omega⟩
      cases hn : notOne.contains c with
      | false => rfl
      | true =>
        have : l.any (fun c => notOne.contains c) = true := List.any_eq_true.2 ⟨c, hc, hn⟩
        rw [this] at h2; cases h2
    · intro h
      refine ⟨fun c hc => ?_, ?_⟩
      · have := h c hc
        rw [Bool.and_eq_true, decide_eq_true_eq, decide_eq_true_eq]; omega
      · have : l.any (fun c => notOne.contains c) = false := List.any_eq_false.2 (fun c hc => by rw [(h c hc).1]; decide)
        rw [this]; rfl
  by_cases h : (withinB 33 126 l && !hasAny notOne l) = true
  · rw [if_pos h, Bool.and_eq_true, Bool.and_eq_true]
    have h2 := hasAt_iff (afterC 64 l)
    refine ⟨fun g => ⟨hw.1 h, by simpa using g.1, by simpa using g.2.1, fun hm => ?_⟩, fun g => ⟨by simpa using g.2.1, by simpa using g.2.2.1, ?_⟩⟩
    · have := g.2.2
      rw [h2.2 hm] at this; cases this
    · cases ha : hasAt (afterC 64 l) with
      | false => rfl
      | true => exact absurd (h2.1 ha) g.2.2.2
  · rw [if_neg h]
    exact ⟨fun g => (by cases g), fun g => absurd (hw.2 g.1) h⟩
theorem gr_good (l : List UInt8) : gr 0 true l = goodL l := by
  rw [Bool.eq_iff_iff, gr_first, gr_spec, goodL_iff]
  rcases cut_case 64 l with ⟨h1, h2, h3⟩ | ⟨a, r, rfl, h1, h2, h3⟩
  · rw [h3]
    refine ⟨fun h => ?_, fun h => absurd rfl h.2.2.1⟩
    have := h.1.2.1
    rw [count_zero h1] at this; omega
  · rw [h2, h3]
    have hc : (a ++ 64 :: r).count 64 = r.count 64 + 1 := by rw [List.count_append, List.count_cons, count_zero h1]; simp
    have hr : r.count 64 = 0 ↔ (64 : UInt8) ∉ r := List.count_eq_zero
    rw [hc]
    refine ⟨fun h => ⟨h.1.1, ?_, ?_, hr.1 (by omega)⟩, fun h => ⟨⟨h.1, by have := hr.2 h.2.2.2; omega, ?_⟩, ?_⟩⟩
    · rintro rfl; exact h.2 rfl
    · rintro rfl; exact h.1.2.2 (by simp)
    · rw [List.getLast?_append]
      cases r with
      | nil => exact absurd rfl h.2.2.1
      | cons d t =>
        rw [List.getLast?_cons_cons]
        intro e
        have hm : (64 : UInt8) ∈ d :: t := by
          cases hg : (d :: t).getLast? with
          | none => simp at hg
          | some x => rw [hg] at e; simp at e; subst e; exact List.mem_of_getLast? hg
        exact h.2.2.2 hm
    · cases a with
      | nil => exact absurd rfl h.2.1
      | cons d t =>
        simp
        rintro rfl
        exact h1 (List.mem_cons_self ..)
theorem gr_step (s : ByteArray) (n k : Nat) (h : k < s.size) : gr n (k == 0) (s.data.toList.drop k) =
    if notOne.contains s[k] then false else if s[k] = 64 ∧ (k = 0 ∨ k + 1 = s.size) then false else if (s[k].toNat : Int) < 33 ∨ 126 < (s[k].toNat : Int) then false else gr (if s[k] = 64 then n + 1 else n) false (s.data.toList.drop (k + 1)) := by
  rw [drop_cons s k h, gr]
  have e : s.data.toList.drop (k + 1) = [] ↔ k + 1 = s.size := by
    rw [List.drop_eq_nil_iff, toList_length]; omega
  simp only [e, beq_iff_eq]
set_option maxHeartbeats 4000000 in
theorem refGood_any (s : ByteArray) (w : World) (hs : s.size ≤ 1048576) :
    Calls Tryz.prog 32 #[.string s] w fun e w' => e = .returned (.bool (goodL s.data.toList)) ∧ w = w' := by
  have HR : Hid (gr 0 true s.data.toList = goodL s.data.toList) := hide (gr_good _)
  go_enter Tryz.func32, Tryz.ntmps32
  go_wp2_with fail
  go_loop [3, 4] (fun a i => ∃ k n : Nat, k ≤ s.size ∧ n ≤ k ∧ i = .int .i64 k ∧ a = .int .i64 n ∧ Hid (gr n (k == 0) (s.data.toList.drop k) = gr 0 true s.data.toList)) (fun _ i => s.size - (intOf i).toNat)
  case atStart => exact ⟨0, 0, Nat.zero_le _, Nat.zero_le _, rfl, rfl, hide rfl⟩
  case round =>
    obtain ⟨k, n, hk, hnk, rfl, rfl, HG⟩ := hrel
    by_cases hlt : k < s.size
    · have hst := gr_step s n k hlt
      rw [HG.out, HR.out] at hst
      by_cases n60 : s[k] = 60
      · have t60 : ((s[k].toNat : Int) == 60) = true := tT 60 n60 (by decide)
        rw [if_pos (by rw [n60]; decide)] at hst
        have HD := hide hst
        clear hst n60 HG
        go_wp2_with fail
        go_ret
        exact ⟨ret_bool HD.out.symm, rfl⟩
      have t60 : ((s[k].toNat : Int) == 60) = false := tF 60 n60 (by decide)
      by_cases n62 : s[k] = 62
      · have t62 : ((s[k].toNat : Int) == 62) = true := tT 62 n62 (by decide)
        rw [if_pos (by rw [n62]; decide)] at hst
        have HD := hide hst
        clear hst n62 HG
        go_wp2_with fail
        go_ret
        exact ⟨ret_bool HD.out.symm, rfl⟩
      have t62 : ((s[k].toNat : Int) == 62) = false := tF 62 n62 (by decide)
      by_cases n40 : s[k] = 40
      · have t40 : ((s[k].toNat : Int) == 40) = true := tT 40 n40 (by decide)
        rw [if_pos (by rw [n40]; decide)] at hst
        have HD := hide hst
        clear hst n40 HG
        go_wp2_with fail
        go_ret
        exact ⟨ret_bool HD.out.symm, rfl⟩
      have t40 : ((s[k].toNat : Int) == 40) = false := tF 40 n40 (by decide)
      by_cases n41 : s[k] = 41
      · have t41 : ((s[k].toNat : Int) == 41) = true := tT 41 n41 (by decide)
        rw [if_pos (by rw [n41]; decide)] at hst
        have HD := hide hst
        clear hst n41 HG
        go_wp2_with fail
        go_ret
        exact ⟨ret_bool HD.out.symm, rfl⟩
      have t41 : ((s[k].toNat : Int) == 41) = false := tF 41 n41 (by decide)
      by_cases n44 : s[k] = 44
      · have t44 : ((s[k].toNat : Int) == 44) = true := tT 44 n44 (by decide)
        rw [if_pos (by rw [n44]; decide)] at hst
        have HD := hide hst
        clear hst n44 HG
        go_wp2_with fail
        go_ret
        exact ⟨ret_bool HD.out.symm, rfl⟩
      have t44 : ((s[k].toNat : Int) == 44) = false := tF 44 n44 (by decide)
      by_cases n59 : s[k] = 59
      · have t59 : ((s[k].toNat : Int) == 59) = true := tT 59 n59 (by decide)
        rw [if_pos (by rw [n59]; decide)] at hst
        have HD := hide hst
        clear hst n59 HG
        go_wp2_with fail
        go_ret
        exact ⟨ret_bool HD.out.symm, rfl⟩
      have t59 : ((s[k].toNat : Int) == 59) = false := tF 59 n59 (by decide)
      by_cases n58 : s[k] = 58
      · have t58 : ((s[k].toNat : Int) == 58) = true := tT 58 n58 (by decide)
        rw [if_pos (by rw [n58]; decide)] at hst
        have HD := hide hst
        clear hst n58 HG
        go_wp2_with fail
        go_ret
        exact ⟨ret_bool HD.out.symm, rfl⟩
      have t58 : ((s[k].toNat : Int) == 58) = false := tF 58 n58 (by decide)
      by_cases n92 : s[k] = 92
      · have t92 : ((s[k].toNat : Int) == 92) = true := tT 92 n92 (by decide)
        rw [if_pos (by rw [n92]; decide)] at hst
        have HD := hide hst
        clear hst n92 HG
        go_wp2_with fail
        go_ret
        exact ⟨ret_bool HD.out.symm, rfl⟩
      have t92 : ((s[k].toNat : Int) == 92) = false := tF 92 n92 (by decide)
      by_cases n34 : s[k] = 34
      · have t34 : ((s[k].toNat : Int) == 34) = true := tT 34 n34 (by decide)
        rw [if_pos (by rw [n34]; decide)] at hst
        have HD := hide hst
        clear hst n34 HG
        go_wp2_with fail
        go_ret
        exact ⟨ret_bool HD.out.symm, rfl⟩
      have t34 : ((s[k].toNat : Int) == 34) = false := tF 34 n34 (by decide)
      have hno : notOne.contains s[k] = false := by
        unfold notOne
        simp [n60, n62, n40, n41, n44, n59, n58, n92, n34]
      rw [if_neg (by rw [hno]; decide)] at hst
      by_cases n64 : s[k] = 64
      · have t64 : ((s[k].toNat : Int) == 64) = true := tT 64 n64 (by decide)
        by_cases k0 : k = 0
        · subst k0
          rw [if_pos ⟨n64, .inl rfl⟩] at hst
          have HD := hide hst
          clear hst n64 hno HG n60 n62 n40 n41 n44 n59 n58 n92 n34
          go_wp2_with fail
          go_ret
          exact ⟨ret_bool HD.out.symm, rfl⟩
        · have q0 : ((k : Int) == 0) = false := beq_eq_false_iff_ne.2 (by omega)
          by_cases k1 : k + 1 = s.size
          · rw [if_pos ⟨n64, .inr k1⟩] at hst
            have HD := hide hst
            have q1 : ((k : Int) == (s.size : Int) - 1) = true := by rw [beq_iff_eq]; omega
            clear hst n64 hno HG n60 n62 n40 n41 n44 n59 n58 n92 n34
            go_wp2_with fail
            go_ret
            exact ⟨ret_bool HD.out.symm, rfl⟩
          · have q1 : ((k : Int) == (s.size : Int) - 1) = false := beq_eq_false_iff_ne.2 (by omega)
            rw [if_neg (by rintro ⟨_, h | h⟩; exact k0 h; exact k1 h), if_neg (by rw [n64]; decide), if_pos n64] at hst
            have r1 : decide ((s[k].toNat : Int) < 33) = false := by rw [n64]; decide
            have r2 : decide ((126 : Int) < s[k].toNat) = false := by rw [n64]; decide
            have e0 : (k + 1 == 0) = false := rfl
            have HN : Hid (gr (n + 1) (k + 1 == 0) (s.data.toList.drop (k + 1)) = gr 0 true s.data.toList) := hide (by rw [HR.out, hst, e0])
            clear hst n64 hno HG k0 k1 n60 n62 n40 n41 n44 n59 n58 n92 n34
            go_wp2_with fail
            go_round
            case rel => exact ⟨k + 1, n + 1, by omega, by omega, by go_num, by go_num, HN⟩
            case measure => simp [intOf]; omega
      · have t64 : ((s[k].toNat : Int) == 64) = false := tF 64 n64 (by decide)
        rw [if_neg (fun h => n64 h.1), if_neg n64] at hst
        by_cases r1 : (s[k].toNat : Int) < 33
        · rw [if_pos (.inl r1)] at hst
          have HD := hide hst
          have r1' : decide ((s[k].toNat : Int) < 33) = true := decide_eq_true r1
          clear hst n64 hno HG r1 n60 n62 n40 n41 n44 n59 n58 n92 n34
          go_wp2_with fail
          go_ret
          exact ⟨ret_bool HD.out.symm, rfl⟩
        · have r1' : decide ((s[k].toNat : Int) < 33) = false := decide_eq_false r1
          by_cases r2 : 126 < (s[k].toNat : Int)
          · rw [if_pos (.inr r2)] at hst
            have HD := hide hst
            have r2' : decide ((126 : Int) < s[k].toNat) = true := decide_eq_true r2
            clear hst n64 hno HG r1 r2 n60 n62 n40 n41 n44 n59 n58 n92 n34
            go_wp2_with fail
            go_ret
            exact ⟨ret_bool HD.out.symm, rfl⟩
          · have r2' : decide ((126 : Int) < s[k].toNat) = false := decide_eq_false r2
            rw [if_neg (by rintro (h | h); exact r1 h; exact r2 h)] at hst
            have e0 : (k + 1 == 0) = false := rfl
            have HN : Hid (gr n (k + 1 == 0) (s.data.toList.drop (k + 1)) = gr 0 true s.data.toList) := hide (by rw [HR.out, hst, e0])
            clear hst n64 hno HG r1 r2 n60 n62 n40 n41 n44 n59 n58 n92 n34
            go_wp2_with fail
            go_round
            case rel => exact ⟨k + 1, n, by omega, by omega, by go_num, by go_num, HN⟩
            case measure => simp [intOf]; omega
    · have HD : Hid (goodL s.data.toList = (n == 1)) := hide (by
        rw [← HR.out, ← HG.out, drop_nil s k (by omega)]; rfl)
      by_cases h1 : n = 1
      · subst h1
        go_wp2_with fail
        go_ret
        exact ⟨by rw [HD.out]; rfl, rfl⟩
      · have t1 : ((n : Int) == 1) = false := beq_eq_false_iff_ne.2 (by omega)
        have HD2 : Hid (goodL s.data.toList = false) := hide (by rw [HD.out]; exact beq_eq_false_iff_ne.2 h1)
        clear HD
        go_wp2_with fail
        go_ret
        exact ⟨ret_bool HD2.out.symm, rfl⟩
end Go.Proofs.YtcmmbceacjechaaGreatDoor
