/- WALKS of the reference's Space and clean. No statement is proved here. -/
import Derived.Test.YtcmmbceacjechaaGreatDoorBaseM
namespace Go.Proofs.YtcmmbceacjechaaGreatDoor
open Go.RowKit
set_option linter.unusedVariables false
set_option linter.unusedSimpArgs false

def spaceB (c : UInt8) : Bool := whiteSet.contains c
theorem space_case (c : UInt8) : (c = 32 ∧ spaceB c = true) ∨ (c ≠ 32 ∧ ((c = 9 ∧ spaceB c = true) ∨ (c ≠ 9 ∧ ((c = 10 ∧ spaceB c = true) ∨ (c ≠ 10 ∧ ((c = 12 ∧ spaceB c = true) ∨ (c ≠ 12 ∧ ((c = 13 ∧ spaceB c = true) ∨ (c ≠ 13 ∧ spaceB c = false))))))))) :=
  u8_all (p := fun c => (c = 32 ∧ spaceB c = true) ∨ (c ≠ 32 ∧ ((c = 9 ∧ spaceB c = true) ∨ (c ≠ 9 ∧ ((c = 10 ∧ spaceB c = true) ∨ (c ≠ 10 ∧ ((c = 12 ∧ spaceB c = true) ∨ (c ≠ 12 ∧ ((c = 13 ∧ spaceB c = true) ∨ (c ≠ 13 ∧ spaceB c = false)))))))))) (by decide +kernel) c
set_option maxHeartbeats 1000000 in
theorem space_any (c : UInt8) (w : World) :
    Calls Tryz.prog 222 #[.int .u8 c.toNat] w fun e w' => e = .returned (.bool (spaceB c)) ∧ w = w' := by
  have hcase := space_case c
  generalize spaceB c = sb at hcase
  rcases hcase with ⟨h, rfl⟩ | ⟨h1, ⟨h, rfl⟩ | ⟨h2, ⟨h, rfl⟩ | ⟨h3, ⟨h, rfl⟩ | ⟨h4, ⟨h, rfl⟩ | ⟨h5, rfl⟩⟩⟩⟩⟩
  · subst h
    go_enter Tryz.func222, Tryz.ntmps222
    go_wp2
    go_ret
    exact ⟨rfl, rfl⟩
  · subst h
    go_enter Tryz.func222, Tryz.ntmps222
    go_wp2
    go_ret
    exact ⟨rfl, rfl⟩
  · subst h
    go_enter Tryz.func222, Tryz.ntmps222
    go_wp2
    go_ret
    exact ⟨rfl, rfl⟩
  · subst h
    go_enter Tryz.func222, Tryz.ntmps222
    go_wp2
    go_ret
    exact ⟨rfl, rfl⟩
  · subst h
    go_enter Tryz.func222, Tryz.ntmps222
    go_wp2
    go_ret
    exact ⟨rfl, rfl⟩
  · have t1 : ((c.toNat : Int) == 32) = false := tF 32 h1 (by omega)
    have t2 : ((c.toNat : Int) == 9) = false := tF 9 h2 (by omega)
    have t3 : ((c.toNat : Int) == 10) = false := tF 10 h3 (by omega)
    have t4 : ((c.toNat : Int) == 12) = false := tF 12 h4 (by omega)
    have t5 : ((c.toNat : Int) == 13) = false := tF 13 h5 (by omega)
    clear h1 h2 h3 h4 h5
    go_enter Tryz.func222, Tryz.ntmps222
    go_wp2
    go_ret
    exact ⟨rfl, rfl⟩

/-! ### left first, then right: the same -/
def leftW (l : List UInt8) : List UInt8 := l.dropWhile spaceB
def rightW (l : List UInt8) : List UInt8 := (l.reverse.dropWhile spaceB).reverse
theorem rightW_snoc (l : List UInt8) (c : UInt8) : rightW (l ++ [c]) = if spaceB c then rightW l else l ++ [c] := by
  unfold rightW
  rw [List.reverse_append]
  show (List.dropWhile spaceB (c :: l.reverse)).reverse = _
  rw [List.dropWhile_cons]
  split
  · rfl
  · simp
theorem rightW_nil : rightW [] = [] := rfl
theorem leftW_nil : leftW [] = [] := rfl
theorem leftW_cons (c : UInt8) (l : List UInt8) : leftW (c :: l) = if spaceB c then leftW l else c :: l := by
  unfold leftW; rw [List.dropWhile_cons]
theorem trim_eq (l : List UInt8) : Lib.trimS l whiteSet = leftW (rightW l) := rfl
theorem rightW_cons {c : UInt8} (h : spaceB c = false) (l : List UInt8) : rightW (c :: l) = c :: rightW l := by
  suffices H : ∀ k : List UInt8, rightW (c :: k.reverse) = c :: rightW k.reverse by
    have := H l.reverse; rwa [List.reverse_reverse] at this
  intro k
  induction k with
  | nil => 
    show rightW ([] ++ [c]) = _
    rw [rightW_snoc, h]; rfl
  | cons d k ih =>
    rw [List.reverse_cons, ← List.cons_append, rightW_snoc, rightW_snoc, ih]
    split <;> rfl
theorem rightW_all (l : List UInt8) (h : ∀ c ∈ l, spaceB c = true) : rightW l = [] := by
  unfold rightW
  rw [List.reverse_eq_nil_iff]
  have h' : ∀ c ∈ l.reverse, spaceB c = true := fun c hc => h c (List.mem_reverse.1 hc)
  generalize l.reverse = k at h'
  induction k with
  | nil => rfl
  | cons c k ih => rw [List.dropWhile_cons, h' c (List.mem_cons_self ..)]; exact ih (fun x hx => h' x (List.mem_cons_of_mem _ hx))
theorem lr (l : List UInt8) : leftW (rightW l) = rightW (leftW l) := by
  induction l with
  | nil => rfl
  | cons c l ih =>
    cases h : spaceB c with
    | false =>
      rw [rightW_cons h, leftW_cons, leftW_cons, h]
      simp only [Bool.false_eq_true, if_false]
      rw [rightW_cons h]
    | true =>
      rw [leftW_cons, h]
      simp only [if_true]
      rw [← ih]
      by_cases hall : ∀ x ∈ l, spaceB x = true
      · rw [rightW_all l hall, rightW_all (c :: l) (fun x hx => by rcases List.mem_cons.1 hx with e | e; · rw [e]; exact h
                                                                   · exact hall x e)]
      · have key : rightW (c :: l) = c :: rightW l := by
          suffices H : ∀ k : List UInt8, (¬ ∀ x ∈ k.reverse, spaceB x = true) → rightW (c :: k.reverse) = c :: rightW k.reverse by
            have := H l.reverse; rw [List.reverse_reverse] at this; exact this hall
          intro k
          induction k with
          | nil => intro hn; exact absurd (fun x hx => by cases hx) hn
          | cons d k ihk =>
            intro hn
            rw [List.reverse_cons, ← List.cons_append, rightW_snoc, rightW_snoc]
            cases hd : spaceB d with
            | false => rfl
            | true =>
              simp only [if_true]
              refine ihk (fun hk => hn (fun x hx => ?_))
              rw [List.reverse_cons, List.mem_append] at hx
              rcases hx with hx | hx
              · exact hk x hx
              · rw [List.mem_singleton.1 hx]; exact hd
        rw [key, leftW_cons, h]; rfl

theorem snoc_of (u : ByteArray) (n : Nat) (hn : u.size = n + 1) : u.data.toList = (u.extract 0 n).data.toList ++ [u[n]'(by omega)] := by
  rw [extract_list, List.drop_zero, ← take_snoc u n (by omega), List.take_of_length_le (by rw [toList_length]; omega)]
def szOfC : Value → Nat
  | .string t => t.size
  | _ => 0
set_option maxHeartbeats 2000000 in
theorem clean_any (s : ByteArray) (w : World) (hs : s.size ≤ 70368744177664) :
    Calls Tryz.prog 193 #[.string s] w fun e w' => e = .returned (.string (str (cleanL s.data.toList))) ∧ Below w.heap.size w w' := by
  have HG : Hid (cleanL s.data.toList = lowL (rightW (leftW s.data.toList))) := hide (by unfold cleanL; rw [trim_eq, lr])
  go_enter Tryz.func193, Tryz.ntmps193
  go_wp2_with fail
  go_loop [0] (fun x => ∃ t : ByteArray, x = .string t ∧ t.size ≤ s.size ∧ leftW t.data.toList = leftW s.data.toList) (fun x => szOfC x)
  case atStart => exact ⟨s, rfl, Nat.le_refl _, rfl⟩
  case round =>
    obtain ⟨t, rfl, ht, hd⟩ := hrel
    by_cases hgo : ∃ h0 : 0 < t.size, spaceB t[0] = true
    · obtain ⟨h0, hsp⟩ := hgo
      have e := drop_cons t 0 h0
      rw [List.drop_zero] at e
      have hd2 : leftW (t.extract 1 t.size).data.toList = leftW s.data.toList := by
        rw [extract_end, ← hd]
        conv => rhs; rw [e, leftW_cons, hsp]
        simp
      have HD := hide hd2
      have HS := hide hsp
      clear hd hd2 hsp e
      go_wp2_with fail
      refine (space_any t[0] _).mono ?_
      rintro e w1 ⟨rfl, rfl⟩
      rw [HS.out]
      go_wp2_with fail
      go_round
      case rel => exact ⟨t.extract 1 t.size, rfl, by rw [ByteArray.size_extract]; omega, HD.out⟩
      case measure => simp [szOfC]; omega
    · have hcase : (∃ h0 : 0 < t.size, spaceB t[0] = false) ∨ t.size = 0 := by
        by_cases h0 : 0 < t.size
        · refine .inl ⟨h0, ?_⟩
          cases h : spaceB t[0] with
          | true => exact absurd ⟨h0, h⟩ hgo
          | false => rfl
        · exact .inr (by omega)
      have hlt : leftW t.data.toList = t.data.toList := by
        rcases hcase with ⟨h0, h⟩ | h
        · have e := drop_cons t 0 h0
          rw [List.drop_zero] at e
          rw [e, leftW_cons, h]; simp
        · have e : t.data.toList = [] := List.eq_nil_of_length_eq_zero (by rw [toList_length]; exact h)
          rw [e]; rfl
      rw [hlt] at hd
      have HD := hide hd
      clear hd hlt hgo
      rcases hcase with ⟨h0, h⟩ | h
      · have HS := hide h
        clear h
        go_wp2_with fail
        refine (space_any t[0] _).mono ?_
        rintro e w1 ⟨rfl, rfl⟩
        rw [HS.out]
        go_wp2_with fail
        go_loop [0] (fun x => ∃ u : ByteArray, x = .string u ∧ u.size ≤ s.size ∧ rightW u.data.toList = rightW (leftW s.data.toList)) (fun x => szOfC x)
        case atStart => exact ⟨t, rfl, ht, by rw [HD.out]⟩
        case round =>
          obtain ⟨u, rfl, hu, hr⟩ := hrel
          by_cases hgo : ∃ (n : Nat) (hn : u.size = n + 1), spaceB (u[n]'(by omega)) = true
          · obtain ⟨n, hn, hsp⟩ := hgo
            have hn' : n < u.size := by omega
            have e := snoc_of u n hn
            have hr2 : rightW (u.extract 0 n).data.toList = rightW (leftW s.data.toList) := by
              rw [← hr, e, rightW_snoc, hsp]; simp
            have HR := hide hr2
            have HS := hide hsp
            have hz : (u.size : Int) - 1 = n := by omega
            clear hr hr2 hsp e
            go_wp2_with fail
            refine (space_any u[n] _).mono ?_
            rintro e w1 ⟨rfl, rfl⟩
            rw [HS.out]
            go_wp2_with fail
            go_round
            case rel => exact ⟨u.extract 0 n, rfl, by rw [ByteArray.size_extract]; omega, HR.out⟩
            case measure => simp [szOfC]; omega
          · have hcase2 : (∃ (n : Nat) (hn : u.size = n + 1), spaceB (u[n]'(by omega)) = false) ∨ u.size = 0 := by
              by_cases h0 : 0 < u.size
              · refine .inl ⟨u.size - 1, by omega, ?_⟩
                cases h : spaceB (u[u.size - 1]'(by omega)) with
                | true => exact absurd ⟨u.size - 1, by omega, h⟩ hgo
                | false => rfl
              · exact .inr (by omega)
            have hrt : rightW u.data.toList = u.data.toList := by
              rcases hcase2 with ⟨n, hn, h⟩ | h
              · rw [snoc_of u n hn, rightW_snoc, h]; simp
              · have e : u.data.toList = [] := List.eq_nil_of_length_eq_zero (by rw [toList_length]; exact h)
                rw [e]; rfl
            rw [hrt] at hr
            have HR := hide hr
            clear hr hrt hgo
            rcases hcase2 with ⟨n, hn, h⟩ | h
            · have HS := hide h
              clear h
              have hn' : n < u.size := by omega
              have hz : (u.size : Int) - 1 = n := by omega
              go_wp2_with fail
              refine (space_any u[n] _).mono ?_
              rintro e w1 ⟨rfl, rfl⟩
              rw [HS.out]
              go_wp2_with fail
              refine (small_any _ _ (by omega)).mono ?_
              rintro e w2 ⟨rfl, hb⟩
              go_wp2_with fail
              go_ret
              exact ⟨ret_str (by rw [HR.out, HG.out]), hb⟩
            · go_wp2_with fail
              refine (small_any _ _ (by omega)).mono ?_
              rintro e w2 ⟨rfl, hb⟩
              go_wp2_with fail
              go_ret
              exact ⟨ret_str (by rw [HR.out, HG.out]), hb⟩
      · go_wp2_with fail
        go_loop [0] (fun x => ∃ u : ByteArray, x = .string u ∧ u.size ≤ s.size ∧ rightW u.data.toList = rightW (leftW s.data.toList)) (fun x => szOfC x)
        case atStart => exact ⟨t, rfl, ht, by rw [HD.out]⟩
        case round =>
          obtain ⟨u, rfl, hu, hr⟩ := hrel
          by_cases hgo : ∃ (n : Nat) (hn : u.size = n + 1), spaceB (u[n]'(by omega)) = true
          · obtain ⟨n, hn, hsp⟩ := hgo
            have hn' : n < u.size := by omega
            have e := snoc_of u n hn
            have hr2 : rightW (u.extract 0 n).data.toList = rightW (leftW s.data.toList) := by
              rw [← hr, e, rightW_snoc, hsp]; simp
            have HR := hide hr2
            have HS := hide hsp
            have hz : (u.size : Int) - 1 = n := by omega
            clear hr hr2 hsp e
            go_wp2_with fail
            refine (space_any u[n] _).mono ?_
            rintro e w1 ⟨rfl, rfl⟩
            rw [HS.out]
            go_wp2_with fail
            go_round
            case rel => exact ⟨u.extract 0 n, rfl, by rw [ByteArray.size_extract]; omega, HR.out⟩
            case measure => simp [szOfC]; omega
          · have hcase2 : (∃ (n : Nat) (hn : u.size = n + 1), spaceB (u[n]'(by omega)) = false) ∨ u.size = 0 := by
              by_cases h0 : 0 < u.size
              · refine .inl ⟨u.size - 1, by omega, ?_⟩
                cases h : spaceB (u[u.size - 1]'(by omega)) with
                | true => exact absurd ⟨u.size - 1, by omega, h⟩ hgo
                | false => rfl
              · exact .inr (by omega)
            have hrt : rightW u.data.toList = u.data.toList := by
              rcases hcase2 with ⟨n, hn, h⟩ | h
              · rw [snoc_of u n hn, rightW_snoc, h]; simp
              · have e : u.data.toList = [] := List.eq_nil_of_length_eq_zero (by rw [toList_length]; exact h)
                rw [e]; rfl
            rw [hrt] at hr
            have HR := hide hr
            clear hr hrt hgo
            rcases hcase2 with ⟨n, hn, h⟩ | h
            · have HS := hide h
              clear h
              have hn' : n < u.size := by omega
              have hz : (u.size : Int) - 1 = n := by omega
              go_wp2_with fail
              refine (space_any u[n] _).mono ?_
              rintro e w1 ⟨rfl, rfl⟩
              rw [HS.out]
              go_wp2_with fail
              refine (small_any _ _ (by omega)).mono ?_
              rintro e w2 ⟨rfl, hb⟩
              go_wp2_with fail
              go_ret
              exact ⟨ret_str (by rw [HR.out, HG.out]), hb⟩
            · go_wp2_with fail
              refine (small_any _ _ (by omega)).mono ?_
              rintro e w2 ⟨rfl, hb⟩
              go_wp2_with fail
              go_ret
              exact ⟨ret_str (by rw [HR.out, HG.out]), hb⟩
end Go.Proofs.YtcmmbceacjechaaGreatDoor
