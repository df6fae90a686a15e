/- Texts that only this claim wants, in one: each with its own head. No statement is proved here. -/
import Derived.Test.YtgokefodmjhhiaaGreatDoorBaseM
import Derived.Test.YtgokefodmjhhiaaGreatDoorBaseP
import Derived.StillTailTactics
/- WALKS of the reference's Hex and Digits. No statement is proved here. -/
namespace Go.Proofs.YtgokefodmjhhiaaGreatDoor
open Go.RowKit
set_option linter.unusedVariables false
set_option linter.unusedSimpArgs false

set_option maxHeartbeats 1000000 in
theorem refHex_any (c : UInt8) (w : World) :
    Calls Tryz.prog 141 #[.int .u8 c.toNat] w fun e w' => e = .returned (.int .i64 (hexI c)) ∧ w = w' := by
  have hc := byte_lt c
  have hv := hexN_val c
  have hI : hexI c = if 48 ≤ c.toNat ∧ c.toNat ≤ 57 then (c.toNat : Int) - 48 else if 65 ≤ c.toNat ∧ c.toNat ≤ 70 then (c.toNat : Int) - 65 + 10 else if 97 ≤ c.toNat ∧ c.toNat ≤ 102 then (c.toNat : Int) - 97 + 10 else -1 := by
    unfold hexI
    rw [hv]
    repeat' split
    all_goals omega
  clear hv
  rw [hI]
  clear hI
  have hcase : (48 ≤ c.toNat ∧ c.toNat ≤ 57) ∨ (65 ≤ c.toNat ∧ c.toNat ≤ 70) ∨ (97 ≤ c.toNat ∧ c.toNat ≤ 102) ∨ c.toNat < 48 ∨ (57 < c.toNat ∧ c.toNat < 65) ∨ (70 < c.toNat ∧ c.toNat < 97) ∨ 102 < c.toNat := by omega
  rcases hcase with ⟨h1, h2⟩ | ⟨h1, h2⟩ | ⟨h1, h2⟩ | h1 | ⟨h1, h2⟩ | ⟨h1, h2⟩ | h1
  all_goals
    go_enter Tryz.func141, Tryz.ntmps141
    go_wp2
    go_ret
    refine ⟨ret_int ?_, rfl⟩
    repeat' split
    all_goals omega

theorem refHex_still {c : UInt8} {n : Int} (h : hexI c = n) (w : World) : Calls Tryz.prog 141 #[.int .u8 c.toNat] w fun e w' => e = .returned (.int .i64 n) ∧ w' = w :=
  (refHex_any c w).mono fun _ _ ⟨he, hw⟩ => ⟨by rw [he, h], hw.symm⟩

end Go.Proofs.YtgokefodmjhhiaaGreatDoor

/- The reference's way to read a reference's sign, as lists, held against ent's. No statement is proved here. -/
namespace Go.Proofs.YtgokefodmjhhiaaGreatDoor
open Go.RowKit
set_option linter.unusedVariables false
set_option linter.unusedSimpArgs false
set_option maxRecDepth 100000
def isRB (c : UInt8) : Bool := letterB c || digitB c || c == 35
theorem dig10_rb (c : UInt8) : digB 10 c ≠ none → isRB c = true := u8_all (p := fun c => digB 10 c ≠ none → isRB c = true) (by decide +kernel) c
theorem dig16_rb (c : UInt8) : digB 16 c ≠ none → isRB c = true := u8_all (p := fun c => digB 16 c ≠ none → isRB c = true) (by decide +kernel) c
theorem parse_rb {b : Nat} (hb : ∀ c, digB b c ≠ none → isRB c = true) (l : List UInt8) : ∀ m n, parseB b m l = some n → l.all isRB = true := by
  induction l with
  | nil => intro _ _ _; rfl
  | cons c r ih =>
    intro m n h
    rw [parseB] at h
    cases hd : digB b c with
    | none => rw [hd] at h; cases h
    | some d =>
      rw [hd] at h
      rw [List.all_cons, hb c (by rw [hd]; intro e; cases e), ih _ _ h]; rfl
theorem numAt_rb {b m : Nat} (hb : ∀ c, digB b c ≠ none → isRB c = true) {l : List UInt8} {x : Int} (h : numAt b m l = some x) : l.all isRB = true ∧ l.length ≤ m := by
  unfold numAt at h
  split at h
  · cases h
  · rename_i n hn
    split at h
    · cases h
    · rename_i hl
      refine ⟨?_, by omega⟩
      unfold parseU at hn
      split at hn
      · cases hn
      · exact parse_rb hb l _ _ hn
/-- the names -/
def namesL : List (List UInt8) := [[97, 109, 112], [108, 116], [103, 116], [113, 117, 111, 116], [97, 112, 111, 115], [110, 98, 115, 112], [99, 111, 112, 121], [114, 101, 103], [101, 117, 114, 111], [104, 101, 108, 108, 105, 112], [110, 100, 97, 115, 104], [109, 100, 97, 115, 104], [108, 115, 113, 117, 111], [114, 115, 113, 117, 111], [108, 100, 113, 117, 111], [114, 100, 113, 117, 111]]
theorem putN_mem {f : List UInt8 → Option Int} {k : List UInt8} {c : Int} (hk : k ∈ namesL) (hf : ∀ y x, f y = some x → y ∈ namesL) : ∀ y x, putN f k c y = some x → y ∈ namesL := by
  intro y x h
  unfold putN at h
  split at h
  · rename_i e; rw [e]; exact hk
  · exact hf y x h
theorem name_mem : ∀ y x, nameN y = some x → y ∈ namesL := by
  unfold nameN
  repeat (refine putN_mem (by decide) ?_)
  intro y x h; cases h
theorem pref_one (l : List UInt8) (c : UInt8) : Lib.hasPrefix l [c] = true ↔ ∃ r, l = c :: r := by
  cases l with
  | nil => exact ⟨fun h => by simp [Lib.hasPrefix] at h, fun ⟨r, h⟩ => by cases h⟩
  | cons a r =>
    refine ⟨fun h => ⟨r, ?_⟩, fun ⟨q, h⟩ => by injection h with h1 h2; subst h1; simp [Lib.hasPrefix]⟩
    have : c = a := by simpa [Lib.hasPrefix] using h
    rw [this]
theorem trim_one (c : UInt8) (r : List UInt8) : Lib.trimPrefix (c :: r) [c] = r := by
  unfold Lib.trimPrefix
  rw [(pref_one _ c).2 ⟨r, rfl⟩]; rfl
/-- the sign behind a `#` -/
theorem sgn_num (r : List UInt8) : sgn (35 :: r) = byN r := by
  unfold sgn
  rw [if_pos ((pref_one _ 35).2 ⟨r, rfl⟩), trim_one]
theorem byN_x (c : UInt8) (r : List UInt8) (h : c = 120 ∨ c = 88) : byN (c :: r) = numAt 16 6 r := by
  unfold byN
  rcases h with rfl | rfl
  · rw [(pref_one _ 120).2 ⟨r, rfl⟩]; rfl
  · rw [(pref_one _ 88).2 ⟨r, rfl⟩, Bool.or_true]; rfl
theorem byN_d (l : List UInt8) (h : ∀ c r, l = c :: r → ¬(c = 120 ∨ c = 88)) : byN l = numAt 10 7 l := by
  unfold byN
  have h1 : Lib.hasPrefix l [120] = false := by
    cases e : Lib.hasPrefix l [120] with
    | false => rfl
    | true => obtain ⟨r, hr⟩ := (pref_one _ _).1 e; exact absurd (.inl rfl) (h _ _ hr)
  have h2 : Lib.hasPrefix l [88] = false := by
    cases e : Lib.hasPrefix l [88] with
    | false => rfl
    | true => obtain ⟨r, hr⟩ := (pref_one _ _).1 e; exact absurd (.inr rfl) (h _ _ hr)
  rw [h1, h2]; rfl
theorem sgn_name (l : List UInt8) (h : ∀ r, l ≠ 35 :: r) : sgn l = nameN l := by
  unfold sgn
  rw [if_neg (by intro e; obtain ⟨r, hr⟩ := (pref_one _ _).1 e; exact h r hr)]
theorem byN_rb {l : List UInt8} {x : Int} (h : byN l = some x) : l.all isRB = true ∧ l.length ≤ 7 := by
  match l, h with
  | [], h => rw [show byN [] = none by decide] at h; cases h
  | c :: r, h =>
    by_cases hc : c = 120 ∨ c = 88
    · rw [byN_x c r hc] at h
      obtain ⟨h1, h2⟩ := numAt_rb dig16_rb h
      refine ⟨?_, by simp; omega⟩
      rw [List.all_cons, h1]
      rcases hc with rfl | rfl <;> decide
    · rw [byN_d (c :: r) (by intro c' r' e; injection e with e1 e2; subst e1; exact hc)] at h
      exact numAt_rb dig10_rb h
theorem sgn_rb {k : List UInt8} {x : Int} (h : sgn k = some x) : k.all isRB = true ∧ k.length ≤ 8 := by
  by_cases hk : ∃ r, k = 35 :: r
  · obtain ⟨r, rfl⟩ := hk
    rw [sgn_num] at h
    obtain ⟨h1, h2⟩ := byN_rb h
    exact ⟨by rw [List.all_cons, h1]; decide, by simp; omega⟩
  · rw [sgn_name k (fun r e => hk ⟨r, e⟩)] at h
    have := name_mem k x h
    have ha : ∀ y ∈ namesL, y.all isRB = true ∧ y.length ≤ 8 := by decide
    exact ha k this
theorem take_while_app {p : UInt8 → Bool} (l : List UInt8) : ∃ r, l = l.takeWhile p ++ r ∧ (l.takeWhile p).all p = true ∧ ∀ c q, r = c :: q → p c = false := by
  induction l with
  | nil => exact ⟨[], rfl, rfl, fun c q h => by cases h⟩
  | cons a l ih =>
    obtain ⟨r, h1, h2, h3⟩ := ih
    cases hp : p a with
    | true =>
      refine ⟨r, ?_, ?_, h3⟩
      · rw [List.takeWhile_cons, hp]; simp only [if_true]; rw [List.cons_append, ← h1]
      · rw [List.takeWhile_cons, hp]; simp only [if_true]; rw [List.all_cons, hp, h2]; rfl
    | false =>
      refine ⟨a :: l, ?_, ?_, ?_⟩
      · rw [List.takeWhile_cons, hp]; rfl
      · rw [List.takeWhile_cons, hp]; rfl
      · intro c q e; injection e with e1 _; rw [← e1]; exact hp
theorem rb_semi {k : List UInt8} (h : k.all isRB = true) : (59 : UInt8) ∉ k := fun hm => absurd (List.all_eq_true.1 h 59 hm) (by decide)
/-- the sign told by k where q stands behind it -/
def runV (k q : List UInt8) : Int × Nat := match q with
  | 59 :: _ => (match sgn k with | some x => (x, k.length + 1) | none => (0, 0))
  | _ => (0, 0)
theorem runV_semi (k X : List UInt8) : runV k (59 :: X) = match sgn k with | some x => (x, k.length + 1) | none => (0, 0) := rfl
theorem runV_no {k q : List UInt8} (h : ∀ X, q ≠ 59 :: X) : runV k q = (0, 0) := by
  unfold runV
  split
  · rename_i X; exact absurd rfl (h X)
  · rfl
/-- the reference's way: as many signs of a name as there are, then a `;` -/
theorem refN_run {r k q : List UInt8} (e : r = k ++ q) (hk : k.all isRB = true) (hq : ∀ c t, q = c :: t → isRB c = false) :
    refN r = runV k q := by
  by_cases hs : ∃ X, q = 59 :: X
  · obtain ⟨X, rfl⟩ := hs
    subst e
    rw [runV_semi]
    by_cases hl : k.length ≤ 8
    · exact refN_at (rb_semi hk) hl X
    · have hn : sgn k = none := by
        cases h : sgn k with
        | none => rfl
        | some x => exact absurd (sgn_rb h).2 hl
      rw [hn]
      have ht : (k ++ 59 :: X).take 9 = k.take 9 := by rw [List.take_append_of_le_length (by omega)]
      have hh : hasC 59 ((k ++ 59 :: X).take 9) = false := by
        rw [ht]
        exact hasC_false (fun hm => rb_semi hk (List.mem_of_mem_take hm))
      unfold refN
      rw [hh]
      split
      · rename_i h; cases h
      · rfl
  · rw [runV_no (fun X e => hs ⟨X, e⟩)]
    unfold refN
    split
    · rename_i x h1 h2
      exfalso
      rcases cut_case 59 (r.take 9) with ⟨h3, _, _⟩ | ⟨a, t, h3, h4, h5, _⟩
      · rw [hasC_false h3] at h2; cases h2
      · rw [h5] at h1
        have ha := (sgn_rb h1).1
        have h6 : r = a ++ 59 :: (t ++ r.drop 9) := by
          conv => lhs; rw [← List.take_append_drop 9 r, h3]
          simp
        rw [e] at h6
        rcases List.append_eq_append_iff.1 h6 with ⟨u, hu1, hu2⟩ | ⟨u, hu1, hu2⟩
        · cases u with
          | nil => exact hs ⟨_, by simpa using hu2⟩
          | cons c u =>
            have := hq c _ hu2
            rw [hu1, List.all_append, Bool.and_eq_true] at ha
            rw [List.all_cons, Bool.and_eq_true] at ha
            rw [this] at ha
            exact absurd ha.2.1 (by decide)
        · cases u with
          | nil => exact hs ⟨_, by simpa using hu2.symm⟩
          | cons c u =>
            rw [List.cons_append] at hu2
            injection hu2 with hu3 _
            rw [hu1, List.all_append, Bool.and_eq_true] at hk
            rw [List.all_cons, Bool.and_eq_true, ← hu3] at hk
            exact absurd hk.2.1 (by decide)
    · rfl
end Go.Proofs.YtgokefodmjhhiaaGreatDoor

/- WALKS of the reference's Sign and high. No statement is proved here. -/
namespace Go.Proofs.YtgokefodmjhhiaaGreatDoor
open Go.RowKit
set_option linter.unusedVariables false
set_option linter.unusedSimpArgs false

theorem conv2s (w : World) (x y : Int) : (convert 48 9 (.slice (some ⟨w.heap.size, 0, none⟩) 2 2)).run Tryz.prog (w.alloc (.cells #[.int .u8 x, .int .u8 y] 5)) = .ok (.string (strOfNums [x, y])) (w.alloc (.cells #[.int .u8 x, .int .u8 y] 5)) :=
  run_convert_bytes_arg (P := Tryz.prog) _ 48 5 Tryz.underlying48 Tryz.underlying5 w.heap.size 0 2 2 [x, y] rfl (fun i hi => by
    rw [World.cell?_alloc_at _ _ _ _ (by simp)]
    obtain rfl | rfl : i = 0 ∨ i = 1 := by omega
    all_goals rfl) 9 Tryz.underlying9
theorem conv4s (w : World) (x y z u : Int) : (convert 48 9 (.slice (some ⟨w.heap.size, 0, none⟩) 4 4)).run Tryz.prog (w.alloc (.cells #[.int .u8 x, .int .u8 y, .int .u8 z, .int .u8 u] 5)) = .ok (.string (strOfNums [x, y, z, u])) (w.alloc (.cells #[.int .u8 x, .int .u8 y, .int .u8 z, .int .u8 u] 5)) :=
  run_convert_bytes_arg (P := Tryz.prog) _ 48 5 Tryz.underlying48 Tryz.underlying5 w.heap.size 0 4 4 [x, y, z, u] rfl (fun i hi => by
    rw [World.cell?_alloc_at _ _ _ _ (by simp)]
    obtain rfl | rfl | rfl | rfl : i = 0 ∨ i = 1 ∨ i = 2 ∨ i = 3 := by omega
    all_goals rfl) 9 Tryz.underlying9

theorem natI (m : Nat) : UInt8.ofNat ((m : Nat) : Int).toNat = UInt8.ofNat m := by rw [Int.toNat_natCast]
set_option maxHeartbeats 2000000 in
theorem sign_any (n : Nat) (w : World) (hn : n ≤ 1114111) :
    Calls Tryz.prog 143 #[.int .i64 n] w fun e w' => e = .returned (.string (str (runeL n))) ∧ Below w.heap.size w w' := by
  have t1 : decide ((n : Int) < 0) = false := decide_eq_false (by omega)
  have t2 : decide ((1114111 : Int) < n) = false := decide_eq_false (by omega)
  by_cases hs : 55296 ≤ n ∧ n ≤ 57343
  · have t3 : decide ((55296 : Int) ≤ n) = true := decide_eq_true (by omega)
    have t4 : decide ((n : Int) ≤ 57343) = true := decide_eq_true (by omega)
    have HB : Hid (runeL (n : Int) = bad) := hide (runeL_bad (by omega))
    clear hs hn
    go_enter Tryz.func143, Tryz.ntmps143
    go_wp2
    go_ret
    exact ⟨ret_str (by rw [HB.out]; rfl), Below.refl _ _⟩
  have t34 : decide ((55296 : Int) ≤ n) = false ∨ (decide ((55296 : Int) ≤ n) = true ∧ decide ((n : Int) ≤ 57343) = false) := by
    by_cases g : 55296 ≤ n
    · exact .inr ⟨decide_eq_true (by omega), decide_eq_false (by omega)⟩
    · exact .inl (decide_eq_false (by omega))
  by_cases h1 : n < 128
  · have HR : Hid (runeL (n : Int) = [UInt8.ofNat n]) := hide (runeL_one h1)
    have u1 : decide ((n : Int) < 128) = true := decide_eq_true (by omega)
    have w1 : IntKind.u8.wrap (n : Int) = n := IntWalk.u8_in _ (by omega)
    have hcv := conv1
    clear hn hs h1
    rcases t34 with t3 | ⟨t3, t4⟩
    all_goals
      go_enter Tryz.func143, Tryz.ntmps143
      go_wp2
      go_ret
      exact ⟨ret_str (by rw [HR.out]; exact nums_str (by simp only [List.map_cons, List.map_nil, natI])), (Below.refl _ _).alloc (Nat.le_refl _) _⟩
  have u1 : decide ((n : Int) < 128) = false := decide_eq_false (by omega)
  by_cases h2 : n < 2048
  · have HR : Hid (runeL (n : Int) = [UInt8.ofNat (192 + n / 64), UInt8.ofNat (128 + n % 64)]) := hide (runeL_two (by omega) (by omega))
    have u2 : decide ((n : Int) < 2048) = true := decide_eq_true (by omega)
    obtain ⟨x, hx⟩ : ∃ x : Nat, x = n / 64 := ⟨_, rfl⟩
    obtain ⟨y, hy⟩ : ∃ y : Nat, y = n % 64 := ⟨_, rfl⟩
    have hx' : (n : Int) / 64 = x := by omega
    have hy' : (n : Int) % 64 = y := by omega
    have hxb : x < 32 := by omega
    have hyb : y < 64 := by omega
    rw [← hx, ← hy] at HR
    have hcv := conv2s
    clear hn hs h1 h2 hx hy
    rcases t34 with t3 | ⟨t3, t4⟩
    all_goals
      go_enter Tryz.func143, Tryz.ntmps143
      go_wp2
      go_ret
      exact ⟨ret_str (by rw [HR.out]; exact nums_str (by simp only [List.map_cons, List.map_nil]; rfl)), (Below.refl _ _).alloc (Nat.le_refl _) _⟩
  have u2 : decide ((n : Int) < 2048) = false := decide_eq_false (by omega)
  by_cases h3 : n < 65536
  · have HR : Hid (runeL (n : Int) = [UInt8.ofNat (224 + n / 4096), UInt8.ofNat (128 + n / 64 % 64), UInt8.ofNat (128 + n % 64)]) := hide (runeL_three (by omega) (by omega) hs)
    have u3 : decide ((n : Int) < 65536) = true := decide_eq_true (by omega)
    obtain ⟨x, hx⟩ : ∃ x : Nat, x = n / 4096 := ⟨_, rfl⟩
    obtain ⟨p, hp⟩ : ∃ p : Nat, p = n / 64 := ⟨_, rfl⟩
    obtain ⟨y, hy⟩ : ∃ y : Nat, y = p % 64 := ⟨_, rfl⟩
    obtain ⟨z, hz⟩ : ∃ z : Nat, z = n % 64 := ⟨_, rfl⟩
    have hx' : (n : Int) / 4096 = x := by omega
    have hp' : (n : Int) / 64 = p := by omega
    have hy' : (p : Int) % 64 = y := by omega
    have hz' : (n : Int) % 64 = z := by omega
    have hxb : x < 16 := by omega
    have hyb : y < 64 := by omega
    have hzb : z < 64 := by omega
    rw [← hx, ← hp, ← hy, ← hz] at HR
    have hcv := conv3
    clear hn hs h1 h2 h3 hx hy hz hp
    rcases t34 with t3 | ⟨t3, t4⟩
    all_goals
      go_enter Tryz.func143, Tryz.ntmps143
      go_wp2
      go_ret
      exact ⟨ret_str (by rw [HR.out]; exact nums_str (by simp only [List.map_cons, List.map_nil]; rfl)), (Below.refl _ _).alloc (Nat.le_refl _) _⟩
  · have HR : Hid (runeL (n : Int) = [UInt8.ofNat (240 + n / 262144), UInt8.ofNat (128 + n / 4096 % 64), UInt8.ofNat (128 + n / 64 % 64), UInt8.ofNat (128 + n % 64)]) := hide (runeL_four (by omega) hn)
    have u3 : decide ((n : Int) < 65536) = false := decide_eq_false (by omega)
    obtain ⟨x, hx⟩ : ∃ x : Nat, x = n / 262144 := ⟨_, rfl⟩
    obtain ⟨q, hq⟩ : ∃ q : Nat, q = n / 4096 := ⟨_, rfl⟩
    obtain ⟨p, hp⟩ : ∃ p : Nat, p = n / 64 := ⟨_, rfl⟩
    obtain ⟨y, hy⟩ : ∃ y : Nat, y = q % 64 := ⟨_, rfl⟩
    obtain ⟨z, hz⟩ : ∃ z : Nat, z = p % 64 := ⟨_, rfl⟩
    obtain ⟨u, hu⟩ : ∃ u : Nat, u = n % 64 := ⟨_, rfl⟩
    have hx' : (n : Int) / 262144 = x := by omega
    have hq' : (n : Int) / 4096 = q := by omega
    have hp' : (n : Int) / 64 = p := by omega
    have hy' : (q : Int) % 64 = y := by omega
    have hz' : (p : Int) % 64 = z := by omega
    have hu' : (n : Int) % 64 = u := by omega
    have hxb : x < 8 := by omega
    have hyb : y < 64 := by omega
    have hzb : z < 64 := by omega
    have hub : u < 64 := by omega
    rw [← hx, ← hq, ← hp, ← hy, ← hz, ← hu] at HR
    have hcv := conv4s
    clear hn hs h1 h2 h3 hx hy hz hu hp hq
    rcases t34 with t3 | ⟨t3, t4⟩
    all_goals
      go_enter Tryz.func143, Tryz.ntmps143
      go_wp2
      go_ret
      exact ⟨ret_str (by rw [HR.out]; exact nums_str (by simp only [List.map_cons, List.map_nil]; rfl)), (Below.refl _ _).alloc (Nat.le_refl _) _⟩

/-- a byte's number in windows-1252, as the reference has it -/
theorem win_at (j : Nat) (h : j < 32) : ∃ m : Nat, winTab.getD j 0 = m ∧ m ≤ 65535 := by
  have : ∀ j, j < 32 → 0 ≤ winTab.getD j 0 ∧ winTab.getD j 0 ≤ 65535 := by decide +kernel
  exact ⟨(winTab.getD j 0).toNat, by have := (this j h).1; omega, by have := (this j h).2; omega⟩
set_option maxRecDepth 100000 in
set_option maxHeartbeats 2000000 in
theorem high_any (c : UInt8) (w : World) (h0 : 128 ≤ c.toNat) (h1 : c.toNat < 160) :
    Calls Tryz.prog 159 #[.int .u8 c.toNat] w fun e w' => e = .returned (.int .i64 (winTab.getD (c.toNat - 128) 0)) ∧ Below w.heap.size w w' := by
  have e : ∃ j : Nat, j < 32 ∧ c.toNat = 128 + j := ⟨c.toNat - 128, by omega, by omega⟩
  obtain ⟨j, hj, hc⟩ := e
  rw [hc, show 128 + j - 128 = j from by omega]
  clear h0 h1 hc
  have hcell : ∀ z, (w.alloc (.cells #[.int .i64 8364, .int .i64 129, .int .i64 8218, .int .i64 402, .int .i64 8222, .int .i64 8230, .int .i64 8224, .int .i64 8225, .int .i64 710, .int .i64 8240, .int .i64 352, .int .i64 8249, .int .i64 338, .int .i64 141, .int .i64 381, .int .i64 143, .int .i64 144, .int .i64 8216, .int .i64 8217, .int .i64 8220, .int .i64 8221, .int .i64 8226, .int .i64 8211, .int .i64 8212, .int .i64 732, .int .i64 8482, .int .i64 353, .int .i64 8250, .int .i64 339, .int .i64 157, .int .i64 382, .int .i64 376] z)).cell? ⟨w.heap.size, j, none⟩ = some (.int .i64 (winTab.getD j 0)) := by
    intro z
    rw [World.cell?_alloc_at _ _ _ _ (by simp)]
    have : ∀ j, j < 32 → (#[Value.int .i64 8364, .int .i64 129, .int .i64 8218, .int .i64 402, .int .i64 8222, .int .i64 8230, .int .i64 8224, .int .i64 8225, .int .i64 710, .int .i64 8240, .int .i64 352, .int .i64 8249, .int .i64 338, .int .i64 141, .int .i64 381, .int .i64 143, .int .i64 144, .int .i64 8216, .int .i64 8217, .int .i64 8220, .int .i64 8221, .int .i64 8226, .int .i64 8211, .int .i64 8212, .int .i64 732, .int .i64 8482, .int .i64 353, .int .i64 8250, .int .i64 339, .int .i64 157, .int .i64 382, .int .i64 376] : Array Value)[j]? = some (.int .i64 (winTab.getD j 0)) := by
      intro j hj
      have hw : winTab.length = 32 := rfl
      have e : (#[Value.int .i64 8364, .int .i64 129, .int .i64 8218, .int .i64 402, .int .i64 8222, .int .i64 8230, .int .i64 8224, .int .i64 8225, .int .i64 710, .int .i64 8240, .int .i64 352, .int .i64 8249, .int .i64 338, .int .i64 141, .int .i64 381, .int .i64 143, .int .i64 144, .int .i64 8216, .int .i64 8217, .int .i64 8220, .int .i64 8221, .int .i64 8226, .int .i64 8211, .int .i64 8212, .int .i64 732, .int .i64 8482, .int .i64 353, .int .i64 8250, .int .i64 339, .int .i64 157, .int .i64 382, .int .i64 376] : Array Value) = (winTab.map fun z => Value.int .i64 z).toArray := rfl
      rw [e]
      simp [List.getD, hw, hj]
    exact this j hj
  have q1 : IntKind.u8.wrap (128 + (j : Int) - 128) = j := by rw [show 128 + (j : Int) - 128 = j from by omega]; exact IntWalk.u8_in _ (by omega)
  have hj' : (j : Int) < 32 := by omega
  show Calls _ _ #[.int .u8 ((128 + j : Nat) : Int)] _ _
  rw [show ((128 + j : Nat) : Int) = 128 + (j : Int) from by omega]
  go_enter Tryz.func159, Tryz.ntmps159
  go_wp2
  go_ret
  exact ⟨rfl, (Below.refl _ _).alloc (Nat.le_refl _) _⟩
end Go.Proofs.YtgokefodmjhhiaaGreatDoor

/- WALK of the reference's named, layer 12. No statement is proved here. -/
namespace Go.Proofs.YtgokefodmjhhiaaGreatDoor
open Go.RowKit
set_option linter.unusedVariables false
set_option linter.unusedSimpArgs false
set_option maxRecDepth 100000
/-- a name's sign as a text -/
def namedB (l : List UInt8) : ByteArray := match nameN l with | some x => str (runeL x) | none => ⟨#[]⟩
theorem sign_lit (n : Nat) (z : Int) (hz : z = n) (w : World) (hn : n ≤ 1114111) :
    Calls Tryz.prog 143 #[.int .i64 z] w fun e w' => e = .returned (.string (str (runeL n))) ∧ Below w.heap.size w w' := by
  subst hz; exact sign_any n w hn
set_option maxHeartbeats 4000000 in
theorem refNamed_any (s : ByteArray) (w : World) :
    Calls Tryz.prog 118 #[.string s] w fun e w' => e = .returned (.string (namedB s.data.toList)) ∧ Below w.heap.size w w' := by
  by_cases h0 : s.data.toList = [97, 109, 112]
  · have HV : Hid (namedB s.data.toList = ⟨#[38]⟩) := hide (by rw [h0]; decide)
    have t0 : (s.toList == [97, 109, 112]) = true := by rw [bytes_list, h0]; rfl
    clear h0
    go_enter Tryz.func118, Tryz.ntmps118
    go_wp2_with fail
    go_ret
    exact ⟨by rw [HV.out] <;> rfl, Below.refl _ _⟩
  have t0 : (s.toList == [97, 109, 112]) = false := by rw [bytes_list]; simp only [beq_eq_false_iff_ne, ne_eq]; exact h0
  by_cases h1 : s.data.toList = [108, 116]
  · have HV : Hid (namedB s.data.toList = ⟨#[60]⟩) := hide (by rw [h1]; decide)
    have t1 : (s.toList == [108, 116]) = true := by rw [bytes_list, h1]; rfl
    clear h0 h1
    go_enter Tryz.func118, Tryz.ntmps118
    go_wp2_with fail
    go_ret
    exact ⟨by rw [HV.out] <;> rfl, Below.refl _ _⟩
  have t1 : (s.toList == [108, 116]) = false := by rw [bytes_list]; simp only [beq_eq_false_iff_ne, ne_eq]; exact h1
  by_cases h2 : s.data.toList = [103, 116]
  · have HV : Hid (namedB s.data.toList = ⟨#[62]⟩) := hide (by rw [h2]; decide)
    have t2 : (s.toList == [103, 116]) = true := by rw [bytes_list, h2]; rfl
    clear h0 h1 h2
    go_enter Tryz.func118, Tryz.ntmps118
    go_wp2_with fail
    go_ret
    exact ⟨by rw [HV.out] <;> rfl, Below.refl _ _⟩
  have t2 : (s.toList == [103, 116]) = false := by rw [bytes_list]; simp only [beq_eq_false_iff_ne, ne_eq]; exact h2
  by_cases h3 : s.data.toList = [113, 117, 111, 116]
  · have HV : Hid (namedB s.data.toList = ⟨#[34]⟩) := hide (by rw [h3]; decide)
    have t3 : (s.toList == [113, 117, 111, 116]) = true := by rw [bytes_list, h3]; rfl
    clear h0 h1 h2 h3
    go_enter Tryz.func118, Tryz.ntmps118
    go_wp2_with fail
    go_ret
    exact ⟨by rw [HV.out] <;> rfl, Below.refl _ _⟩
  have t3 : (s.toList == [113, 117, 111, 116]) = false := by rw [bytes_list]; simp only [beq_eq_false_iff_ne, ne_eq]; exact h3
  by_cases h4 : s.data.toList = [97, 112, 111, 115]
  · have HV : Hid (namedB s.data.toList = ⟨#[39]⟩) := hide (by rw [h4]; decide)
    have t4 : (s.toList == [97, 112, 111, 115]) = true := by rw [bytes_list, h4]; rfl
    clear h0 h1 h2 h3 h4
    go_enter Tryz.func118, Tryz.ntmps118
    go_wp2_with fail
    go_ret
    exact ⟨by rw [HV.out] <;> rfl, Below.refl _ _⟩
  have t4 : (s.toList == [97, 112, 111, 115]) = false := by rw [bytes_list]; simp only [beq_eq_false_iff_ne, ne_eq]; exact h4
  by_cases h5 : s.data.toList = [110, 98, 115, 112]
  · have HV : Hid (namedB s.data.toList = str (runeL (160 : Nat))) := hide (by rw [h5]; rfl)
    have t5 : (s.toList == [110, 98, 115, 112]) = true := by rw [bytes_list, h5]; rfl
    clear h0 h1 h2 h3 h4 h5
    go_enter Tryz.func118, Tryz.ntmps118
    go_wp2_with (go_at_call 143; refine (sign_lit 160 _ rfl _ (by decide)).mono ?_; rintro e w1 ⟨rfl, hb1⟩)
    go_ret
    exact ⟨by rw [HV.out] <;> rfl, hb1⟩
  have t5 : (s.toList == [110, 98, 115, 112]) = false := by rw [bytes_list]; simp only [beq_eq_false_iff_ne, ne_eq]; exact h5
  by_cases h6 : s.data.toList = [99, 111, 112, 121]
  · have HV : Hid (namedB s.data.toList = str (runeL (169 : Nat))) := hide (by rw [h6]; rfl)
    have t6 : (s.toList == [99, 111, 112, 121]) = true := by rw [bytes_list, h6]; rfl
    clear h0 h1 h2 h3 h4 h5 h6
    go_enter Tryz.func118, Tryz.ntmps118
    go_wp2_with (go_at_call 143; refine (sign_lit 169 _ rfl _ (by decide)).mono ?_; rintro e w1 ⟨rfl, hb1⟩)
    go_ret
    exact ⟨by rw [HV.out] <;> rfl, hb1⟩
  have t6 : (s.toList == [99, 111, 112, 121]) = false := by rw [bytes_list]; simp only [beq_eq_false_iff_ne, ne_eq]; exact h6
  by_cases h7 : s.data.toList = [114, 101, 103]
  · have HV : Hid (namedB s.data.toList = str (runeL (174 : Nat))) := hide (by rw [h7]; rfl)
    have t7 : (s.toList == [114, 101, 103]) = true := by rw [bytes_list, h7]; rfl
    clear h0 h1 h2 h3 h4 h5 h6 h7
    go_enter Tryz.func118, Tryz.ntmps118
    go_wp2_with (go_at_call 143; refine (sign_lit 174 _ rfl _ (by decide)).mono ?_; rintro e w1 ⟨rfl, hb1⟩)
    go_ret
    exact ⟨by rw [HV.out] <;> rfl, hb1⟩
  have t7 : (s.toList == [114, 101, 103]) = false := by rw [bytes_list]; simp only [beq_eq_false_iff_ne, ne_eq]; exact h7
  by_cases h8 : s.data.toList = [104, 101, 108, 108, 105, 112]
  · have HV : Hid (namedB s.data.toList = str (runeL (8230 : Nat))) := hide (by rw [h8]; rfl)
    have t8 : (s.toList == [104, 101, 108, 108, 105, 112]) = true := by rw [bytes_list, h8]; rfl
    clear h0 h1 h2 h3 h4 h5 h6 h7 h8
    go_enter Tryz.func118, Tryz.ntmps118
    go_wp2_with (go_at_call 143; refine (sign_lit 8230 _ rfl _ (by decide)).mono ?_; rintro e w1 ⟨rfl, hb1⟩)
    go_ret
    exact ⟨by rw [HV.out] <;> rfl, hb1⟩
  have t8 : (s.toList == [104, 101, 108, 108, 105, 112]) = false := by rw [bytes_list]; simp only [beq_eq_false_iff_ne, ne_eq]; exact h8
  by_cases h9 : s.data.toList = [110, 100, 97, 115, 104]
  · have HV : Hid (namedB s.data.toList = str (runeL (8211 : Nat))) := hide (by rw [h9]; rfl)
    have t9 : (s.toList == [110, 100, 97, 115, 104]) = true := by rw [bytes_list, h9]; rfl
    clear h0 h1 h2 h3 h4 h5 h6 h7 h8 h9
    go_enter Tryz.func118, Tryz.ntmps118
    go_wp2_with (go_at_call 143; refine (sign_lit 8211 _ rfl _ (by decide)).mono ?_; rintro e w1 ⟨rfl, hb1⟩)
    go_ret
    exact ⟨by rw [HV.out] <;> rfl, hb1⟩
  have t9 : (s.toList == [110, 100, 97, 115, 104]) = false := by rw [bytes_list]; simp only [beq_eq_false_iff_ne, ne_eq]; exact h9
  by_cases h10 : s.data.toList = [109, 100, 97, 115, 104]
  · have HV : Hid (namedB s.data.toList = str (runeL (8212 : Nat))) := hide (by rw [h10]; rfl)
    have t10 : (s.toList == [109, 100, 97, 115, 104]) = true := by rw [bytes_list, h10]; rfl
    clear h0 h1 h2 h3 h4 h5 h6 h7 h8 h9 h10
    go_enter Tryz.func118, Tryz.ntmps118
    go_wp2_with (go_at_call 143; refine (sign_lit 8212 _ rfl _ (by decide)).mono ?_; rintro e w1 ⟨rfl, hb1⟩)
    go_ret
    exact ⟨by rw [HV.out] <;> rfl, hb1⟩
  have t10 : (s.toList == [109, 100, 97, 115, 104]) = false := by rw [bytes_list]; simp only [beq_eq_false_iff_ne, ne_eq]; exact h10
  by_cases h11 : s.data.toList = [101, 117, 114, 111]
  · have HV : Hid (namedB s.data.toList = str (runeL (8364 : Nat))) := hide (by rw [h11]; rfl)
    have t11 : (s.toList == [101, 117, 114, 111]) = true := by rw [bytes_list, h11]; rfl
    clear h0 h1 h2 h3 h4 h5 h6 h7 h8 h9 h10 h11
    go_enter Tryz.func118, Tryz.ntmps118
    go_wp2_with (go_at_call 143; refine (sign_lit 8364 _ rfl _ (by decide)).mono ?_; rintro e w1 ⟨rfl, hb1⟩)
    go_ret
    exact ⟨by rw [HV.out] <;> rfl, hb1⟩
  have t11 : (s.toList == [101, 117, 114, 111]) = false := by rw [bytes_list]; simp only [beq_eq_false_iff_ne, ne_eq]; exact h11
  by_cases h12 : s.data.toList = [108, 115, 113, 117, 111]
  · have HV : Hid (namedB s.data.toList = str (runeL (8216 : Nat))) := hide (by rw [h12]; rfl)
    have t12 : (s.toList == [108, 115, 113, 117, 111]) = true := by rw [bytes_list, h12]; rfl
    clear h0 h1 h2 h3 h4 h5 h6 h7 h8 h9 h10 h11 h12
    go_enter Tryz.func118, Tryz.ntmps118
    go_wp2_with (go_at_call 143; refine (sign_lit 8216 _ rfl _ (by decide)).mono ?_; rintro e w1 ⟨rfl, hb1⟩)
    go_ret
    exact ⟨by rw [HV.out] <;> rfl, hb1⟩
  have t12 : (s.toList == [108, 115, 113, 117, 111]) = false := by rw [bytes_list]; simp only [beq_eq_false_iff_ne, ne_eq]; exact h12
  by_cases h13 : s.data.toList = [114, 115, 113, 117, 111]
  · have HV : Hid (namedB s.data.toList = str (runeL (8217 : Nat))) := hide (by rw [h13]; rfl)
    have t13 : (s.toList == [114, 115, 113, 117, 111]) = true := by rw [bytes_list, h13]; rfl
    clear h0 h1 h2 h3 h4 h5 h6 h7 h8 h9 h10 h11 h12 h13
    go_enter Tryz.func118, Tryz.ntmps118
    go_wp2_with (go_at_call 143; refine (sign_lit 8217 _ rfl _ (by decide)).mono ?_; rintro e w1 ⟨rfl, hb1⟩)
    go_ret
    exact ⟨by rw [HV.out] <;> rfl, hb1⟩
  have t13 : (s.toList == [114, 115, 113, 117, 111]) = false := by rw [bytes_list]; simp only [beq_eq_false_iff_ne, ne_eq]; exact h13
  by_cases h14 : s.data.toList = [108, 100, 113, 117, 111]
  · have HV : Hid (namedB s.data.toList = str (runeL (8220 : Nat))) := hide (by rw [h14]; rfl)
    have t14 : (s.toList == [108, 100, 113, 117, 111]) = true := by rw [bytes_list, h14]; rfl
    clear h0 h1 h2 h3 h4 h5 h6 h7 h8 h9 h10 h11 h12 h13 h14
    go_enter Tryz.func118, Tryz.ntmps118
    go_wp2_with (go_at_call 143; refine (sign_lit 8220 _ rfl _ (by decide)).mono ?_; rintro e w1 ⟨rfl, hb1⟩)
    go_ret
    exact ⟨by rw [HV.out] <;> rfl, hb1⟩
  have t14 : (s.toList == [108, 100, 113, 117, 111]) = false := by rw [bytes_list]; simp only [beq_eq_false_iff_ne, ne_eq]; exact h14
  by_cases h15 : s.data.toList = [114, 100, 113, 117, 111]
  · have HV : Hid (namedB s.data.toList = str (runeL (8221 : Nat))) := hide (by rw [h15]; rfl)
    have t15 : (s.toList == [114, 100, 113, 117, 111]) = true := by rw [bytes_list, h15]; rfl
    clear h0 h1 h2 h3 h4 h5 h6 h7 h8 h9 h10 h11 h12 h13 h14 h15
    go_enter Tryz.func118, Tryz.ntmps118
    go_wp2_with (go_at_call 143; refine (sign_lit 8221 _ rfl _ (by decide)).mono ?_; rintro e w1 ⟨rfl, hb1⟩)
    go_ret
    exact ⟨by rw [HV.out] <;> rfl, hb1⟩
  have t15 : (s.toList == [114, 100, 113, 117, 111]) = false := by rw [bytes_list]; simp only [beq_eq_false_iff_ne, ne_eq]; exact h15
  have HV : Hid (namedB s.data.toList = ⟨#[]⟩) := hide (by
    have : nameN s.data.toList = none := by
      cases e : nameN s.data.toList with
      | none => rfl
      | some x =>
        have := name_mem _ x e
        simp only [namesL, List.mem_cons, List.not_mem_nil, or_false] at this
        rcases this with h | h | h | h | h | h | h | h | h | h | h | h | h | h | h | h
        all_goals (first | exact absurd h h0 | exact absurd h h1 | exact absurd h h2 | exact absurd h h3 | exact absurd h h4 | exact absurd h h5 | exact absurd h h6 | exact absurd h h7 | exact absurd h h8 | exact absurd h h9 | exact absurd h h10 | exact absurd h h11 | exact absurd h h12 | exact absurd h h13 | exact absurd h h14 | exact absurd h h15)
    unfold namedB; rw [this])
  clear h0 h1 h2 h3 h4 h5 h6 h7 h8 h9 h10 h11 h12 h13 h14 h15
  go_enter Tryz.func118, Tryz.ntmps118
  go_wp2_with fail
  go_ret
  exact ⟨by rw [HV.out] <;> rfl, Below.refl _ _⟩
end Go.Proofs.YtgokefodmjhhiaaGreatDoor

/- WALK of the reference's Space; what is trimmed, on lists. No statement is proved here. -/
namespace Go.Proofs.YtgokefodmjhhiaaGreatDoor
open Go.RowKit
set_option linter.unusedVariables false
set_option linter.unusedSimpArgs false

def spaceB (c : UInt8) : Bool := whiteSet.contains c
theorem space_case (c : UInt8) : (c = 32 ∧ spaceB c = true) ∨ (c ≠ 32 ∧ ((c = 9 ∧ spaceB c = true) ∨ (c ≠ 9 ∧ ((c = 10 ∧ spaceB c = true) ∨ (c ≠ 10 ∧ ((c = 12 ∧ spaceB c = true) ∨ (c ≠ 12 ∧ ((c = 13 ∧ spaceB c = true) ∨ (c ≠ 13 ∧ spaceB c = false))))))))) :=
  u8_all (p := fun c => (c = 32 ∧ spaceB c = true) ∨ (c ≠ 32 ∧ ((c = 9 ∧ spaceB c = true) ∨ (c ≠ 9 ∧ ((c = 10 ∧ spaceB c = true) ∨ (c ≠ 10 ∧ ((c = 12 ∧ spaceB c = true) ∨ (c ≠ 12 ∧ ((c = 13 ∧ spaceB c = true) ∨ (c ≠ 13 ∧ spaceB c = false)))))))))) (by decide +kernel) c
set_option maxHeartbeats 1000000 in
theorem space_any (c : UInt8) (w : World) :
    Calls Tryz.prog 137 #[.int .u8 c.toNat] w fun e w' => e = .returned (.bool (spaceB c)) ∧ w = w' := by
  have hcase := space_case c
  generalize spaceB c = sb at hcase
  rcases hcase with ⟨h, rfl⟩ | ⟨h1, ⟨h, rfl⟩ | ⟨h2, ⟨h, rfl⟩ | ⟨h3, ⟨h, rfl⟩ | ⟨h4, ⟨h, rfl⟩ | ⟨h5, rfl⟩⟩⟩⟩⟩
  · subst h
    go_enter Tryz.func137, Tryz.ntmps137
    go_wp2
    go_ret
    exact ⟨rfl, rfl⟩
  · subst h
    go_enter Tryz.func137, Tryz.ntmps137
    go_wp2
    go_ret
    exact ⟨rfl, rfl⟩
  · subst h
    go_enter Tryz.func137, Tryz.ntmps137
    go_wp2
    go_ret
    exact ⟨rfl, rfl⟩
  · subst h
    go_enter Tryz.func137, Tryz.ntmps137
    go_wp2
    go_ret
    exact ⟨rfl, rfl⟩
  · subst h
    go_enter Tryz.func137, Tryz.ntmps137
    go_wp2
    go_ret
    exact ⟨rfl, rfl⟩
  · have t1 : ((c.toNat : Int) == 32) = false := tF 32 h1 (by omega)
    have t2 : ((c.toNat : Int) == 9) = false := tF 9 h2 (by omega)
    have t3 : ((c.toNat : Int) == 10) = false := tF 10 h3 (by omega)
    have t4 : ((c.toNat : Int) == 12) = false := tF 12 h4 (by omega)
    have t5 : ((c.toNat : Int) == 13) = false := tF 13 h5 (by omega)
    clear h1 h2 h3 h4 h5
    go_enter Tryz.func137, Tryz.ntmps137
    go_wp2
    go_ret
    exact ⟨rfl, rfl⟩

/-! ### left first, then right: the same -/
def leftW (l : List UInt8) : List UInt8 := l.dropWhile spaceB
def rightW (l : List UInt8) : List UInt8 := (l.reverse.dropWhile spaceB).reverse
theorem rightW_snoc (l : List UInt8) (c : UInt8) : rightW (l ++ [c]) = if spaceB c then rightW l else l ++ [c] := by
  unfold rightW
  rw [List.reverse_append]
  show (List.dropWhile spaceB (c :: l.reverse)).reverse = _
  rw [List.dropWhile_cons]
  split
  · rfl
  · simp
theorem rightW_nil : rightW [] = [] := rfl
theorem leftW_nil : leftW [] = [] := rfl
theorem leftW_cons (c : UInt8) (l : List UInt8) : leftW (c :: l) = if spaceB c then leftW l else c :: l := by
  unfold leftW; rw [List.dropWhile_cons]
theorem trim_eq (l : List UInt8) : Lib.trimS l whiteSet = leftW (rightW l) := rfl
theorem rightW_cons {c : UInt8} (h : spaceB c = false) (l : List UInt8) : rightW (c :: l) = c :: rightW l := by
  suffices H : ∀ k : List UInt8, rightW (c :: k.reverse) = c :: rightW k.reverse by
    have := H l.reverse; rwa [List.reverse_reverse] at this
  intro k
  induction k with
  | nil => 
    show rightW ([] ++ [c]) = _
    rw [rightW_snoc, h]; rfl
  | cons d k ih =>
    rw [List.reverse_cons, ← List.cons_append, rightW_snoc, rightW_snoc, ih]
    split <;> rfl
theorem rightW_all (l : List UInt8) (h : ∀ c ∈ l, spaceB c = true) : rightW l = [] := by
  unfold rightW
  rw [List.reverse_eq_nil_iff]
  have h' : ∀ c ∈ l.reverse, spaceB c = true := fun c hc => h c (List.mem_reverse.1 hc)
  generalize l.reverse = k at h'
  induction k with
  | nil => rfl
  | cons c k ih => rw [List.dropWhile_cons, h' c (List.mem_cons_self ..)]; exact ih (fun x hx => h' x (List.mem_cons_of_mem _ hx))
theorem lr (l : List UInt8) : leftW (rightW l) = rightW (leftW l) := by
  induction l with
  | nil => rfl
  | cons c l ih =>
    cases h : spaceB c with
    | false =>
      rw [rightW_cons h, leftW_cons, leftW_cons, h]
      simp only [Bool.false_eq_true, if_false]
      rw [rightW_cons h]
    | true =>
      rw [leftW_cons, h]
      simp only [if_true]
      rw [← ih]
      by_cases hall : ∀ x ∈ l, spaceB x = true
      · rw [rightW_all l hall, rightW_all (c :: l) (fun x hx => by rcases List.mem_cons.1 hx with e | e; · rw [e]; exact h
                                                                   · exact hall x e)]
      · have key : rightW (c :: l) = c :: rightW l := by
          suffices H : ∀ k : List UInt8, (¬ ∀ x ∈ k.reverse, spaceB x = true) → rightW (c :: k.reverse) = c :: rightW k.reverse by
            have := H l.reverse; rw [List.reverse_reverse] at this; exact this hall
          intro k
          induction k with
          | nil => intro hn; exact absurd (fun x hx => by cases hx) hn
          | cons d k ihk =>
            intro hn
            rw [List.reverse_cons, ← List.cons_append, rightW_snoc, rightW_snoc]
            cases hd : spaceB d with
            | false => rfl
            | true =>
              simp only [if_true]
              refine ihk (fun hk => hn (fun x hx => ?_))
              rw [List.reverse_cons, List.mem_append] at hx
              rcases hx with hx | hx
              · exact hk x hx
              · rw [List.mem_singleton.1 hx]; exact hd
        rw [key, leftW_cons, h]; rfl

theorem snoc_of (u : ByteArray) (n : Nat) (hn : u.size = n + 1) : u.data.toList = (u.extract 0 n).data.toList ++ [u[n]'(by omega)] := by
  rw [extract_list, List.drop_zero, ← take_snoc u n (by omega), List.take_of_length_le (by rw [toList_length]; omega)]
def szOfC : Value → Nat
  | .string t => t.size
  | _ => 0
end Go.Proofs.YtgokefodmjhhiaaGreatDoor

/- WALKS of the reference's Space and clean. No statement is proved here. -/
namespace Go.Proofs.YtgokefodmjhhiaaGreatDoor
open Go.RowKit
set_option linter.unusedVariables false
set_option linter.unusedSimpArgs false

set_option maxHeartbeats 2000000 in
theorem clean_any (s : ByteArray) (w : World) (hs : s.size ≤ 70368744177664) :
    Calls Tryz.prog 183 #[.string s] w fun e w' => e = .returned (.string (str (cleanL s.data.toList))) ∧ Below w.heap.size w w' := by
  have HG : Hid (cleanL s.data.toList = lowL (rightW (leftW s.data.toList))) := hide (by unfold cleanL; rw [trim_eq, lr])
  go_enter Tryz.func183, Tryz.ntmps183
  go_wp2_with fail
  go_loop [0] (fun x => ∃ t : ByteArray, x = .string t ∧ t.size ≤ s.size ∧ leftW t.data.toList = leftW s.data.toList) (fun x => szOfC x)
  case atStart => exact ⟨s, rfl, Nat.le_refl _, rfl⟩
  case round =>
    obtain ⟨t, rfl, ht, hd⟩ := hrel
    by_cases hgo : ∃ h0 : 0 < t.size, spaceB t[0] = true
    · obtain ⟨h0, hsp⟩ := hgo
      have e := drop_cons t 0 h0
      rw [List.drop_zero] at e
      have hd2 : leftW (t.extract 1 t.size).data.toList = leftW s.data.toList := by
        rw [extract_end, ← hd]
        conv => rhs; rw [e, leftW_cons, hsp]
        simp
      have HD := hide hd2
      have HS := hide hsp
      clear hd hd2 hsp e
      go_wp2_with fail
      refine (space_any t[0] _).mono ?_
      rintro e w1 ⟨rfl, rfl⟩
      rw [HS.out]
      go_wp2_with fail
      go_round
      case rel => exact ⟨t.extract 1 t.size, rfl, by rw [ByteArray.size_extract]; omega, HD.out⟩
      case measure => simp [szOfC]; omega
    · have hcase : (∃ h0 : 0 < t.size, spaceB t[0] = false) ∨ t.size = 0 := by
        by_cases h0 : 0 < t.size
        · refine .inl ⟨h0, ?_⟩
          cases h : spaceB t[0] with
          | true => exact absurd ⟨h0, h⟩ hgo
          | false => rfl
        · exact .inr (by omega)
      have hlt : leftW t.data.toList = t.data.toList := by
        rcases hcase with ⟨h0, h⟩ | h
        · have e := drop_cons t 0 h0
          rw [List.drop_zero] at e
          rw [e, leftW_cons, h]; simp
        · have e : t.data.toList = [] := List.eq_nil_of_length_eq_zero (by rw [toList_length]; exact h)
          rw [e]; rfl
      rw [hlt] at hd
      have HD := hide hd
      clear hd hlt hgo
      rcases hcase with ⟨h0, h⟩ | h
      · have HS := hide h
        clear h
        go_wp2_with fail
        refine (space_any t[0] _).mono ?_
        rintro e w1 ⟨rfl, rfl⟩
        rw [HS.out]
        go_wp2_with fail
        go_loop [0] (fun x => ∃ u : ByteArray, x = .string u ∧ u.size ≤ s.size ∧ rightW u.data.toList = rightW (leftW s.data.toList)) (fun x => szOfC x)
        case atStart => exact ⟨t, rfl, ht, by rw [HD.out]⟩
        case round =>
          obtain ⟨u, rfl, hu, hr⟩ := hrel
          by_cases hgo : ∃ (n : Nat) (hn : u.size = n + 1), spaceB (u[n]'(by omega)) = true
          · obtain ⟨n, hn, hsp⟩ := hgo
            have hn' : n < u.size := by omega
            have e := snoc_of u n hn
            have hr2 : rightW (u.extract 0 n).data.toList = rightW (leftW s.data.toList) := by
              rw [← hr, e, rightW_snoc, hsp]; simp
            have HR := hide hr2
            have HS := hide hsp
            have hz : (u.size : Int) - 1 = n := by omega
            clear hr hr2 hsp e
            go_wp2_with fail
            refine (space_any u[n] _).mono ?_
            rintro e w1 ⟨rfl, rfl⟩
            rw [HS.out]
            go_wp2_with fail
            go_round
            case rel => exact ⟨u.extract 0 n, rfl, by rw [ByteArray.size_extract]; omega, HR.out⟩
            case measure => simp [szOfC]; omega
          · have hcase2 : (∃ (n : Nat) (hn : u.size = n + 1), spaceB (u[n]'(by omega)) = false) ∨ u.size = 0 := by
              by_cases h0 : 0 < u.size
              · refine .inl ⟨u.size - 1, by omega, ?_⟩
                cases h : spaceB (u[u.size - 1]'(by omega)) with
                | true => exact absurd ⟨u.size - 1, by omega, h⟩ hgo
                | false => rfl
              · exact .inr (by omega)
            have hrt : rightW u.data.toList = u.data.toList := by
              rcases hcase2 with ⟨n, hn, h⟩ | h
              · rw [snoc_of u n hn, rightW_snoc, h]; simp
              · have e : u.data.toList = [] := List.eq_nil_of_length_eq_zero (by rw [toList_length]; exact h)
                rw [e]; rfl
            rw [hrt] at hr
            have HR := hide hr
            clear hr hrt hgo
            rcases hcase2 with ⟨n, hn, h⟩ | h
            · have HS := hide h
              clear h
              have hn' : n < u.size := by omega
              have hz : (u.size : Int) - 1 = n := by omega
              go_wp2_with fail
              refine (space_any u[n] _).mono ?_
              rintro e w1 ⟨rfl, rfl⟩
              rw [HS.out]
              go_wp2_with fail
              refine (small_any _ _ (by omega)).mono ?_
              rintro e w2 ⟨rfl, hb⟩
              go_wp2_with fail
              go_ret
              exact ⟨ret_str (by rw [HR.out, HG.out]), hb⟩
            · go_wp2_with fail
              refine (small_any _ _ (by omega)).mono ?_
              rintro e w2 ⟨rfl, hb⟩
              go_wp2_with fail
              go_ret
              exact ⟨ret_str (by rw [HR.out, HG.out]), hb⟩
      · go_wp2_with fail
        go_loop [0] (fun x => ∃ u : ByteArray, x = .string u ∧ u.size ≤ s.size ∧ rightW u.data.toList = rightW (leftW s.data.toList)) (fun x => szOfC x)
        case atStart => exact ⟨t, rfl, ht, by rw [HD.out]⟩
        case round =>
          obtain ⟨u, rfl, hu, hr⟩ := hrel
          by_cases hgo : ∃ (n : Nat) (hn : u.size = n + 1), spaceB (u[n]'(by omega)) = true
          · obtain ⟨n, hn, hsp⟩ := hgo
            have hn' : n < u.size := by omega
            have e := snoc_of u n hn
            have hr2 : rightW (u.extract 0 n).data.toList = rightW (leftW s.data.toList) := by
              rw [← hr, e, rightW_snoc, hsp]; simp
            have HR := hide hr2
            have HS := hide hsp
            have hz : (u.size : Int) - 1 = n := by omega
            clear hr hr2 hsp e
            go_wp2_with fail
            refine (space_any u[n] _).mono ?_
            rintro e w1 ⟨rfl, rfl⟩
            rw [HS.out]
            go_wp2_with fail
            go_round
            case rel => exact ⟨u.extract 0 n, rfl, by rw [ByteArray.size_extract]; omega, HR.out⟩
            case measure => simp [szOfC]; omega
          · have hcase2 : (∃ (n : Nat) (hn : u.size = n + 1), spaceB (u[n]'(by omega)) = false) ∨ u.size = 0 := by
              by_cases h0 : 0 < u.size
              · refine .inl ⟨u.size - 1, by omega, ?_⟩
                cases h : spaceB (u[u.size - 1]'(by omega)) with
                | true => exact absurd ⟨u.size - 1, by omega, h⟩ hgo
                | false => rfl
              · exact .inr (by omega)
            have hrt : rightW u.data.toList = u.data.toList := by
              rcases hcase2 with ⟨n, hn, h⟩ | h
              · rw [snoc_of u n hn, rightW_snoc, h]; simp
              · have e : u.data.toList = [] := List.eq_nil_of_length_eq_zero (by rw [toList_length]; exact h)
                rw [e]; rfl
            rw [hrt] at hr
            have HR := hide hr
            clear hr hrt hgo
            rcases hcase2 with ⟨n, hn, h⟩ | h
            · have HS := hide h
              clear h
              have hn' : n < u.size := by omega
              have hz : (u.size : Int) - 1 = n := by omega
              go_wp2_with fail
              refine (space_any u[n] _).mono ?_
              rintro e w1 ⟨rfl, rfl⟩
              rw [HS.out]
              go_wp2_with fail
              refine (small_any _ _ (by omega)).mono ?_
              rintro e w2 ⟨rfl, hb⟩
              go_wp2_with fail
              go_ret
              exact ⟨ret_str (by rw [HR.out, HG.out]), hb⟩
            · go_wp2_with fail
              refine (small_any _ _ (by omega)).mono ?_
              rintro e w2 ⟨rfl, hb⟩
              go_wp2_with fail
              go_ret
              exact ⟨ret_str (by rw [HR.out, HG.out]), hb⟩
end Go.Proofs.YtgokefodmjhhiaaGreatDoor

/- WALK of the reference's Known. No statement is proved here. -/
namespace Go.Proofs.YtgokefodmjhhiaaGreatDoor
open Go.RowKit
set_option linter.unusedVariables false
set_option linter.unusedSimpArgs false

set_option maxRecDepth 100000 in
set_option maxHeartbeats 4000000 in
theorem refKnown_any (s : ByteArray) (w : World) (hs : s.size ≤ 70368744177664) :
    Calls Tryz.prog 158 #[.string s] w fun e w' => e = .returned (knownV (kindL s.data.toList)) ∧ Below w.heap.size w w' := by
  obtain ⟨x, hx⟩ : ∃ x, x = cleanL s.data.toList := ⟨_, rfl⟩
  obtain ⟨X, hX⟩ : ∃ X, X = str x := ⟨_, rfl⟩
  have HX : Hid (str (cleanL s.data.toList) = X) := hide (by rw [hX, hx])
  have hk : kindL s.data.toList = kindOf x := by rw [hx]; rfl
  rw [hk]
  have HXX := hide hX
  have HSZ : Hid ((str (Lib.trimS s.data.toList whiteSet)).size ≤ 70368744177664) := hide (by
    rw [str_size]
    have h := trimS_length s.data.toList whiteSet
    rw [toList_length] at h; omega)
  clear hx hX hk
  by_cases h0 : x = [117, 116, 102, 45, 56]
  · have HV : Hid (knownV (kindOf x) = .tuple #[.string ⟨#[117, 116, 102, 45, 56]⟩, .bool true]) := hide (by rw [h0, show kindOf [117, 116, 102, 45, 56] = 1 from by decide +kernel]; rfl)
    have t0 : (X.toList == [117, 116, 102, 45, 56]) = true := listT HXX.out h0
    clear h0
    go_enter Tryz.func158, Tryz.ntmps158
    go_wp2_with fail
    refine (clean_any s _ hs).mono ?_
    rintro e w1 ⟨rfl, hbb⟩
    rw [HX.out]
    go_wp2_with fail
    go_ret2
    exact ⟨by rw [HV.out]; rfl, hbb⟩
  have t0 : (X.toList == [117, 116, 102, 45, 56]) = false := listF HXX.out h0
  by_cases h1 : x = [117, 116, 102, 56]
  · have HV : Hid (knownV (kindOf x) = .tuple #[.string ⟨#[117, 116, 102, 45, 56]⟩, .bool true]) := hide (by rw [h1, show kindOf [117, 116, 102, 56] = 1 from by decide +kernel]; rfl)
    have t1 : (X.toList == [117, 116, 102, 56]) = true := listT HXX.out h1
    clear h0 h1
    go_enter Tryz.func158, Tryz.ntmps158
    go_wp2_with fail
    refine (clean_any s _ hs).mono ?_
    rintro e w1 ⟨rfl, hbb⟩
    rw [HX.out]
    go_wp2_with fail
    go_ret2
    exact ⟨by rw [HV.out]; rfl, hbb⟩
  have t1 : (X.toList == [117, 116, 102, 56]) = false := listF HXX.out h1
  by_cases h2 : x = [117, 110, 105, 99, 111, 100, 101, 45, 49, 45, 49, 45, 117, 116, 102, 45, 56]
  · have HV : Hid (knownV (kindOf x) = .tuple #[.string ⟨#[117, 116, 102, 45, 56]⟩, .bool true]) := hide (by rw [h2, show kindOf [117, 110, 105, 99, 111, 100, 101, 45, 49, 45, 49, 45, 117, 116, 102, 45, 56] = 1 from by decide +kernel]; rfl)
    have t2 : (X.toList == [117, 110, 105, 99, 111, 100, 101, 45, 49, 45, 49, 45, 117, 116, 102, 45, 56]) = true := listT HXX.out h2
    clear h0 h1 h2
    go_enter Tryz.func158, Tryz.ntmps158
    go_wp2_with fail
    refine (clean_any s _ hs).mono ?_
    rintro e w1 ⟨rfl, hbb⟩
    rw [HX.out]
    go_wp2_with fail
    go_ret2
    exact ⟨by rw [HV.out]; rfl, hbb⟩
  have t2 : (X.toList == [117, 110, 105, 99, 111, 100, 101, 45, 49, 45, 49, 45, 117, 116, 102, 45, 56]) = false := listF HXX.out h2
  by_cases h3 : x = [119, 105, 110, 100, 111, 119, 115, 45, 49, 50, 53, 50]
  · have HV : Hid (knownV (kindOf x) = .tuple #[.string ⟨#[119, 105, 110, 100, 111, 119, 115, 45, 49, 50, 53, 50]⟩, .bool true]) := hide (by rw [h3, show kindOf [119, 105, 110, 100, 111, 119, 115, 45, 49, 50, 53, 50] = 2 from by decide +kernel]; rfl)
    have t3 : (X.toList == [119, 105, 110, 100, 111, 119, 115, 45, 49, 50, 53, 50]) = true := listT HXX.out h3
    clear h0 h1 h2 h3
    go_enter Tryz.func158, Tryz.ntmps158
    go_wp2_with fail
    refine (clean_any s _ hs).mono ?_
    rintro e w1 ⟨rfl, hbb⟩
    rw [HX.out]
    go_wp2_with fail
    go_ret2
    exact ⟨by rw [HV.out]; rfl, hbb⟩
  have t3 : (X.toList == [119, 105, 110, 100, 111, 119, 115, 45, 49, 50, 53, 50]) = false := listF HXX.out h3
  by_cases h4 : x = [99, 112, 49, 50, 53, 50]
  · have HV : Hid (knownV (kindOf x) = .tuple #[.string ⟨#[119, 105, 110, 100, 111, 119, 115, 45, 49, 50, 53, 50]⟩, .bool true]) := hide (by rw [h4, show kindOf [99, 112, 49, 50, 53, 50] = 2 from by decide +kernel]; rfl)
    have t4 : (X.toList == [99, 112, 49, 50, 53, 50]) = true := listT HXX.out h4
    clear h0 h1 h2 h3 h4
    go_enter Tryz.func158, Tryz.ntmps158
    go_wp2_with fail
    refine (clean_any s _ hs).mono ?_
    rintro e w1 ⟨rfl, hbb⟩
    rw [HX.out]
    go_wp2_with fail
    go_ret2
    exact ⟨by rw [HV.out]; rfl, hbb⟩
  have t4 : (X.toList == [99, 112, 49, 50, 53, 50]) = false := listF HXX.out h4
  by_cases h5 : x = [117, 115, 45, 97, 115, 99, 105, 105]
  · have HV : Hid (knownV (kindOf x) = .tuple #[.string ⟨#[119, 105, 110, 100, 111, 119, 115, 45, 49, 50, 53, 50]⟩, .bool true]) := hide (by rw [h5, show kindOf [117, 115, 45, 97, 115, 99, 105, 105] = 2 from by decide +kernel]; rfl)
    have t5 : (X.toList == [117, 115, 45, 97, 115, 99, 105, 105]) = true := listT HXX.out h5
    clear h0 h1 h2 h3 h4 h5
    go_enter Tryz.func158, Tryz.ntmps158
    go_wp2_with fail
    refine (clean_any s _ hs).mono ?_
    rintro e w1 ⟨rfl, hbb⟩
    rw [HX.out]
    go_wp2_with fail
    go_ret2
    exact ⟨by rw [HV.out]; rfl, hbb⟩
  have t5 : (X.toList == [117, 115, 45, 97, 115, 99, 105, 105]) = false := listF HXX.out h5
  by_cases h6 : x = [97, 115, 99, 105, 105]
  · have HV : Hid (knownV (kindOf x) = .tuple #[.string ⟨#[119, 105, 110, 100, 111, 119, 115, 45, 49, 50, 53, 50]⟩, .bool true]) := hide (by rw [h6, show kindOf [97, 115, 99, 105, 105] = 2 from by decide +kernel]; rfl)
    have t6 : (X.toList == [97, 115, 99, 105, 105]) = true := listT HXX.out h6
    clear h0 h1 h2 h3 h4 h5 h6
    go_enter Tryz.func158, Tryz.ntmps158
    go_wp2_with fail
    refine (clean_any s _ hs).mono ?_
    rintro e w1 ⟨rfl, hbb⟩
    rw [HX.out]
    go_wp2_with fail
    go_ret2
    exact ⟨by rw [HV.out]; rfl, hbb⟩
  have t6 : (X.toList == [97, 115, 99, 105, 105]) = false := listF HXX.out h6
  by_cases h7 : x = [105, 115, 111, 45, 56, 56, 53, 57, 45, 49]
  · have HV : Hid (knownV (kindOf x) = .tuple #[.string ⟨#[119, 105, 110, 100, 111, 119, 115, 45, 49, 50, 53, 50]⟩, .bool true]) := hide (by rw [h7, show kindOf [105, 115, 111, 45, 56, 56, 53, 57, 45, 49] = 2 from by decide +kernel]; rfl)
    have t7 : (X.toList == [105, 115, 111, 45, 56, 56, 53, 57, 45, 49]) = true := listT HXX.out h7
    clear h0 h1 h2 h3 h4 h5 h6 h7
    go_enter Tryz.func158, Tryz.ntmps158
    go_wp2_with fail
    refine (clean_any s _ hs).mono ?_
    rintro e w1 ⟨rfl, hbb⟩
    rw [HX.out]
    go_wp2_with fail
    go_ret2
    exact ⟨by rw [HV.out]; rfl, hbb⟩
  have t7 : (X.toList == [105, 115, 111, 45, 56, 56, 53, 57, 45, 49]) = false := listF HXX.out h7
  by_cases h8 : x = [105, 115, 111, 56, 56, 53, 57, 45, 49]
  · have HV : Hid (knownV (kindOf x) = .tuple #[.string ⟨#[119, 105, 110, 100, 111, 119, 115, 45, 49, 50, 53, 50]⟩, .bool true]) := hide (by rw [h8, show kindOf [105, 115, 111, 56, 56, 53, 57, 45, 49] = 2 from by decide +kernel]; rfl)
    have t8 : (X.toList == [105, 115, 111, 56, 56, 53, 57, 45, 49]) = true := listT HXX.out h8
    clear h0 h1 h2 h3 h4 h5 h6 h7 h8
    go_enter Tryz.func158, Tryz.ntmps158
    go_wp2_with fail
    refine (clean_any s _ hs).mono ?_
    rintro e w1 ⟨rfl, hbb⟩
    rw [HX.out]
    go_wp2_with fail
    go_ret2
    exact ⟨by rw [HV.out]; rfl, hbb⟩
  have t8 : (X.toList == [105, 115, 111, 56, 56, 53, 57, 45, 49]) = false := listF HXX.out h8
  by_cases h9 : x = [108, 97, 116, 105, 110, 49]
  · have HV : Hid (knownV (kindOf x) = .tuple #[.string ⟨#[119, 105, 110, 100, 111, 119, 115, 45, 49, 50, 53, 50]⟩, .bool true]) := hide (by rw [h9, show kindOf [108, 97, 116, 105, 110, 49] = 2 from by decide +kernel]; rfl)
    have t9 : (X.toList == [108, 97, 116, 105, 110, 49]) = true := listT HXX.out h9
    clear h0 h1 h2 h3 h4 h5 h6 h7 h8 h9
    go_enter Tryz.func158, Tryz.ntmps158
    go_wp2_with fail
    refine (clean_any s _ hs).mono ?_
    rintro e w1 ⟨rfl, hbb⟩
    rw [HX.out]
    go_wp2_with fail
    go_ret2
    exact ⟨by rw [HV.out]; rfl, hbb⟩
  have t9 : (X.toList == [108, 97, 116, 105, 110, 49]) = false := listF HXX.out h9
  by_cases h10 : x = [108, 49]
  · have HV : Hid (knownV (kindOf x) = .tuple #[.string ⟨#[119, 105, 110, 100, 111, 119, 115, 45, 49, 50, 53, 50]⟩, .bool true]) := hide (by rw [h10, show kindOf [108, 49] = 2 from by decide +kernel]; rfl)
    have t10 : (X.toList == [108, 49]) = true := listT HXX.out h10
    clear h0 h1 h2 h3 h4 h5 h6 h7 h8 h9 h10
    go_enter Tryz.func158, Tryz.ntmps158
    go_wp2_with fail
    refine (clean_any s _ hs).mono ?_
    rintro e w1 ⟨rfl, hbb⟩
    rw [HX.out]
    go_wp2_with fail
    go_ret2
    exact ⟨by rw [HV.out]; rfl, hbb⟩
  have t10 : (X.toList == [108, 49]) = false := listF HXX.out h10
  by_cases h11 : x = [117, 116, 102, 45, 49, 54, 108, 101]
  · have HV : Hid (knownV (kindOf x) = .tuple #[.string ⟨#[117, 116, 102, 45, 49, 54, 108, 101]⟩, .bool true]) := hide (by rw [h11, show kindOf [117, 116, 102, 45, 49, 54, 108, 101] = 3 from by decide +kernel]; rfl)
    have t11 : (X.toList == [117, 116, 102, 45, 49, 54, 108, 101]) = true := listT HXX.out h11
    clear h0 h1 h2 h3 h4 h5 h6 h7 h8 h9 h10 h11
    go_enter Tryz.func158, Tryz.ntmps158
    go_wp2_with fail
    refine (clean_any s _ hs).mono ?_
    rintro e w1 ⟨rfl, hbb⟩
    rw [HX.out]
    go_wp2_with fail
    go_ret2
    exact ⟨by rw [HV.out]; rfl, hbb⟩
  have t11 : (X.toList == [117, 116, 102, 45, 49, 54, 108, 101]) = false := listF HXX.out h11
  by_cases h12 : x = [117, 116, 102, 45, 49, 54]
  · have HV : Hid (knownV (kindOf x) = .tuple #[.string ⟨#[117, 116, 102, 45, 49, 54, 108, 101]⟩, .bool true]) := hide (by rw [h12, show kindOf [117, 116, 102, 45, 49, 54] = 3 from by decide +kernel]; rfl)
    have t12 : (X.toList == [117, 116, 102, 45, 49, 54]) = true := listT HXX.out h12
    clear h0 h1 h2 h3 h4 h5 h6 h7 h8 h9 h10 h11 h12
    go_enter Tryz.func158, Tryz.ntmps158
    go_wp2_with fail
    refine (clean_any s _ hs).mono ?_
    rintro e w1 ⟨rfl, hbb⟩
    rw [HX.out]
    go_wp2_with fail
    go_ret2
    exact ⟨by rw [HV.out]; rfl, hbb⟩
  have t12 : (X.toList == [117, 116, 102, 45, 49, 54]) = false := listF HXX.out h12
  by_cases h13 : x = [117, 110, 105, 99, 111, 100, 101]
  · have HV : Hid (knownV (kindOf x) = .tuple #[.string ⟨#[117, 116, 102, 45, 49, 54, 108, 101]⟩, .bool true]) := hide (by rw [h13, show kindOf [117, 110, 105, 99, 111, 100, 101] = 3 from by decide +kernel]; rfl)
    have t13 : (X.toList == [117, 110, 105, 99, 111, 100, 101]) = true := listT HXX.out h13
    clear h0 h1 h2 h3 h4 h5 h6 h7 h8 h9 h10 h11 h12 h13
    go_enter Tryz.func158, Tryz.ntmps158
    go_wp2_with fail
    refine (clean_any s _ hs).mono ?_
    rintro e w1 ⟨rfl, hbb⟩
    rw [HX.out]
    go_wp2_with fail
    go_ret2
    exact ⟨by rw [HV.out]; rfl, hbb⟩
  have t13 : (X.toList == [117, 110, 105, 99, 111, 100, 101]) = false := listF HXX.out h13
  by_cases h14 : x = [117, 99, 115, 45, 50]
  · have HV : Hid (knownV (kindOf x) = .tuple #[.string ⟨#[117, 116, 102, 45, 49, 54, 108, 101]⟩, .bool true]) := hide (by rw [h14, show kindOf [117, 99, 115, 45, 50] = 3 from by decide +kernel]; rfl)
    have t14 : (X.toList == [117, 99, 115, 45, 50]) = true := listT HXX.out h14
    clear h0 h1 h2 h3 h4 h5 h6 h7 h8 h9 h10 h11 h12 h13 h14
    go_enter Tryz.func158, Tryz.ntmps158
    go_wp2_with fail
    refine (clean_any s _ hs).mono ?_
    rintro e w1 ⟨rfl, hbb⟩
    rw [HX.out]
    go_wp2_with fail
    go_ret2
    exact ⟨by rw [HV.out]; rfl, hbb⟩
  have t14 : (X.toList == [117, 99, 115, 45, 50]) = false := listF HXX.out h14
  by_cases h15 : x = [117, 116, 102, 45, 49, 54, 98, 101]
  · have HV : Hid (knownV (kindOf x) = .tuple #[.string ⟨#[117, 116, 102, 45, 49, 54, 98, 101]⟩, .bool true]) := hide (by rw [h15, show kindOf [117, 116, 102, 45, 49, 54, 98, 101] = 4 from by decide +kernel]; rfl)
    have t15 : (X.toList == [117, 116, 102, 45, 49, 54, 98, 101]) = true := listT HXX.out h15
    clear h0 h1 h2 h3 h4 h5 h6 h7 h8 h9 h10 h11 h12 h13 h14 h15
    go_enter Tryz.func158, Tryz.ntmps158
    go_wp2_with fail
    refine (clean_any s _ hs).mono ?_
    rintro e w1 ⟨rfl, hbb⟩
    rw [HX.out]
    go_wp2_with fail
    go_ret2
    exact ⟨by rw [HV.out]; rfl, hbb⟩
  have t15 : (X.toList == [117, 116, 102, 45, 49, 54, 98, 101]) = false := listF HXX.out h15
  by_cases h16 : x = [117, 110, 105, 99, 111, 100, 101, 102, 102, 102, 101]
  · have HV : Hid (knownV (kindOf x) = .tuple #[.string ⟨#[117, 116, 102, 45, 49, 54, 98, 101]⟩, .bool true]) := hide (by rw [h16, show kindOf [117, 110, 105, 99, 111, 100, 101, 102, 102, 102, 101] = 4 from by decide +kernel]; rfl)
    have t16 : (X.toList == [117, 110, 105, 99, 111, 100, 101, 102, 102, 102, 101]) = true := listT HXX.out h16
    clear h0 h1 h2 h3 h4 h5 h6 h7 h8 h9 h10 h11 h12 h13 h14 h15 h16
    go_enter Tryz.func158, Tryz.ntmps158
    go_wp2_with fail
    refine (clean_any s _ hs).mono ?_
    rintro e w1 ⟨rfl, hbb⟩
    rw [HX.out]
    go_wp2_with fail
    go_ret2
    exact ⟨by rw [HV.out]; rfl, hbb⟩
  have t16 : (X.toList == [117, 110, 105, 99, 111, 100, 101, 102, 102, 102, 101]) = false := listF HXX.out h16
  have HV : Hid (knownV (kindOf x) = .tuple #[.string ⟨#[]⟩, .bool false]) := hide (by
    rw [kind_none (x := x) (by
      intro y hy
      simp only [labels, List.mem_cons, List.mem_nil_iff, or_false] at hy
      rcases hy with rfl | rfl | rfl | rfl | rfl | rfl | rfl | rfl | rfl | rfl | rfl | rfl | rfl | rfl | rfl | rfl | rfl
      all_goals assumption)]
    rfl)
  clear h0 h1 h2 h3 h4 h5 h6 h7 h8 h9 h10 h11 h12 h13 h14 h15 h16
  go_enter Tryz.func158, Tryz.ntmps158
  go_wp2_with fail
  refine (clean_any s _ hs).mono ?_
  rintro e w1 ⟨rfl, hbb⟩
  rw [HX.out]
  go_wp2_with fail
  go_ret2
  exact ⟨by rw [HV.out]; rfl, hbb⟩
end Go.Proofs.YtgokefodmjhhiaaGreatDoor

/- WALK of the reference's Decode for chars: windows-1252. No statement is proved here. -/
namespace Go.Proofs.YtgokefodmjhhiaaGreatDoor
open Go.RowKit
set_option linter.unusedVariables false
set_option linter.unusedSimpArgs false

set_option maxRecDepth 100000 in
set_option maxHeartbeats 4000000 in
theorem refDec2 (label s : ByteArray) (w : World) (hl : label.size ≤ 70368744177664) (hs : s.size ≤ 1048576) (hk : kindL label.data.toList = 2) :
    Calls Tryz.prog 142 #[.string label, .string s] w fun e w' => e = .returned (.tuple #[.string (str (winL s.data.toList)), .bool true]) ∧ Below w.heap.size w w' := by
  have HK := hide (fun (w : World) => refKnown_any label w hl)
  rw [hk] at HK
  have KVV : Hid (knownV 2 = .tuple #[.string ⟨#[119, 105, 110, 100, 111, 119, 115, 45, 49, 50, 53, 50]⟩, .bool true]) := hide rfl
  clear hk
  go_enter Tryz.func142, Tryz.ntmps142
  go_wp2_with fail
  refine (HK.out _).mono ?_
  rintro e w1 ⟨rfl, hb1⟩
  rw [KVV.out]
  have hb0 : Buf w1.heap.size (.slice none 0 0) [] w1 w1 := Buf.nil (Below.refl _ _) (Nat.le_refl _)
  have HB0 := hide hb0
  clear hb0
  go_wp2_with fail
  go_loopw [8, 9] (fun v i wr => ∃ (k : Nat) (acc : List UInt8), k ≤ s.size ∧ i = .int .i64 k ∧ Buf w1.heap.size v acc w1 wr ∧ acc.length ≤ 3 * k ∧ acc ++ winL (s.data.toList.drop k) = winL s.data.toList) (fun _ i _ => s.size - (intOf i).toNat)
  case atStart => exact ⟨0, [], Nat.zero_le _, rfl, HB0.out, Nat.le_refl _, by simp⟩
  case round =>
    obtain ⟨k, acc, hk, rfl, hb, hacc, hd⟩ := hrel
    have HB := hide hb
    clear hb
    by_cases hlt : k < s.size
    · rw [drop_cons s k hlt, winL_cons, ← List.append_assoc] at hd
      have HR := hide hd
      have hcase := winR_case s[k]
      have hl3 := winR_length s[k]
      have hbl := byte_lt s[k]
      generalize hc : s[k] = c at hd hcase hl3 hbl
      rw [hc] at HR
      have wc : wrap64 (c.toNat : Int) = c.toNat := IntWalk.wrap64_in _ (by omega)
      clear hd
      rcases hcase with ⟨c1, e⟩ | ⟨c1, c2, e⟩ | ⟨c1, e⟩
      · rw [e] at HR hl3
        have t1 : decide ((128 : Int) ≤ c.toNat) = false := decide_eq_false (by omega)
        clear e
        go_wp2_with fail
        refine (sign_any c.toNat _ (by omega)).mono ?_
        rintro e w3 ⟨rfl, hb3⟩
        have HB3 := hide (HB.out.kept hb3)
        go_wp2_with (refine wpList_buf_text rfl _ _ rfl w1.heap.size u8 acc rfl w1 HB3.out (str (runeL c.toNat)) rfl (by rw [str_size]; omega) ?_; intro v4 w4 hb4; rw [str_toList] at hb4; have HB4 := hide hb4; clear hb4)
        go_roundw
        case rel => exact ⟨k + 1, acc ++ _, by omega, by go_num, HB4.out, by rw [List.length_append]; omega, HR.out⟩
        case measure => simp [intOf]; omega
      · obtain ⟨m, hm, hm2⟩ := win_at (c.toNat - 128) (by omega)
        rw [e, hm] at HR hl3
        have HM := hide hm
        have HIGH := hide (fun (w : World) => high_any c w c1 c2)
        have t1 : decide ((128 : Int) ≤ c.toNat) = true := decide_eq_true (by omega)
        have t2 : decide ((c.toNat : Int) < 160) = true := decide_eq_true (by omega)
        clear e hm
        go_wp2_with fail
        refine (HIGH.out _).mono ?_
        rintro e w2 ⟨rfl, hb2⟩
        rw [HM.out]
        have HB2 := hide (HB.out.kept hb2)
        go_wp2_with fail
        refine (sign_any m _ (by omega)).mono ?_
        rintro e w3 ⟨rfl, hb3⟩
        have HB3 := hide (HB2.out.kept hb3)
        go_wp2_with (refine wpList_buf_text rfl _ _ rfl w1.heap.size u8 acc rfl w1 HB3.out (str (runeL m)) rfl (by rw [str_size]; omega) ?_; intro v4 w4 hb4; rw [str_toList] at hb4; have HB4 := hide hb4; clear hb4)
        go_roundw
        case rel => exact ⟨k + 1, acc ++ _, by omega, by go_num, HB4.out, by rw [List.length_append]; omega, HR.out⟩
        case measure => simp [intOf]; omega
      · rw [e] at HR hl3
        have t1 : decide ((128 : Int) ≤ c.toNat) = true := decide_eq_true (by omega)
        have t2 : decide ((c.toNat : Int) < 160) = false := decide_eq_false (by omega)
        clear e
        go_wp2_with fail
        refine (sign_any c.toNat _ (by omega)).mono ?_
        rintro e w3 ⟨rfl, hb3⟩
        have HB3 := hide (HB.out.kept hb3)
        go_wp2_with (refine wpList_buf_text rfl _ _ rfl w1.heap.size u8 acc rfl w1 HB3.out (str (runeL c.toNat)) rfl (by rw [str_size]; omega) ?_; intro v4 w4 hb4; rw [str_toList] at hb4; have HB4 := hide hb4; clear hb4)
        go_roundw
        case rel => exact ⟨k + 1, acc ++ _, by omega, by go_num, HB4.out, by rw [List.length_append]; omega, HR.out⟩
        case measure => simp [intOf]; omega
    · have hcv := HB.out.convert
      have hbb := hb1.trans (HB.out.below.mono hb1.size)
      have HBB := hide hbb
      clear hbb
      rw [drop_nil s k (by omega)] at hd
      rw [show winL [] = [] from rfl, List.append_nil] at hd
      have HD := hide hd
      clear hd
      go_wp2_with fail
      go_ret2
      exact ⟨by rw [← HD.out]; rfl, HBB.out⟩
end Go.Proofs.YtgokefodmjhhiaaGreatDoor

/- WALKS of the reference's digits and numbered, layer 12. No statement is proved here. -/
namespace Go.Proofs.YtgokefodmjhhiaaGreatDoor
open Go.RowKit
set_option linter.unusedVariables false
set_option linter.unusedSimpArgs false
set_option maxRecDepth 100000
/-- what digits answers -/
def digsI (b m : Nat) (l : List UInt8) : Int := if l.length < 1 ∨ m < l.length then -1 else match parseB b 0 l with
  | some n => n
  | none => -1
theorem digs_num {b m : Nat} (hb : 0 < b) (l : List UInt8) : (∃ n : Nat, digsI b m l = n ∧ numAt b m l = some (signN n) ∧ n < b ^ l.length ∧ l.length ≤ m) ∨ (digsI b m l = -1 ∧ numAt b m l = none) := by
  unfold digsI numAt parseU
  by_cases h0 : l = []
  · subst h0
    exact .inr ⟨by rw [if_pos (.inl (by decide))], by rw [if_pos rfl]⟩
  · have hl : ¬ l.length < 1 := by
      intro h; exact h0 (List.eq_nil_of_length_eq_zero (by omega))
    rw [if_neg h0]
    by_cases hm : m < l.length
    · refine .inr ⟨by rw [if_pos (.inr hm)], ?_⟩
      cases parseB b 0 l with
      | none => rfl
      | some n => simp only; rw [if_pos hm]
    · rw [if_neg (by omega)]
      cases hp : parseB b 0 l with
      | none => exact .inr ⟨rfl, rfl⟩
      | some n =>
        have := parseB_lt hb l 0 n hp
        refine .inl ⟨n, rfl, ?_, by omega, by omega⟩
        simp only; rw [if_neg hm]
theorem dig_hex10 (c : UInt8) : (∃ d : Nat, d < 10 ∧ hexI c = (d : Int) ∧ digB 10 c = some d) ∨ (hexI c = -1 ∧ digB 10 c = none) ∨ (∃ d : Nat, 10 ≤ d ∧ d < 16 ∧ hexI c = (d : Int) ∧ digB 10 c = none) := by
  have := u8_all (p := fun c => (dgV c < 10 ∧ hexI c = (dgV c : Int) ∧ digB 10 c = some (dgV c)) ∨ (hexI c = -1 ∧ digB 10 c = none) ∨ ((10 ≤ (hexI c).toNat ∧ (hexI c).toNat < 16 ∧ hexI c = ((hexI c).toNat : Int)) ∧ digB 10 c = none)) (by decide +kernel) c
  rcases this with ⟨h1, h2, h3⟩ | ⟨h1, h2⟩ | ⟨⟨h1, h2, h3⟩, h4⟩
  · exact .inl ⟨_, h1, h2, h3⟩
  · exact .inr (.inl ⟨h1, h2⟩)
  · exact .inr (.inr ⟨_, h1, h2, h3, h4⟩)
theorem dig_hex16 (c : UInt8) : (∃ d : Nat, d < 16 ∧ hexI c = (d : Int) ∧ digB 16 c = some d) ∨ (hexI c = -1 ∧ digB 16 c = none) ∨ (∃ d : Nat, 16 ≤ d ∧ d < 16 ∧ hexI c = (d : Int) ∧ digB 16 c = none) := by
  have := u8_all (p := fun c => (dgV c < 16 ∧ hexI c = (dgV c : Int) ∧ digB 16 c = some (dgV c)) ∨ (hexI c = -1 ∧ digB 16 c = none) ∨ ((16 ≤ (hexI c).toNat ∧ (hexI c).toNat < 16 ∧ hexI c = ((hexI c).toNat : Int)) ∧ digB 16 c = none)) (by decide +kernel) c
  rcases this with ⟨h1, h2, h3⟩ | ⟨h1, h2⟩ | ⟨⟨h1, h2, h3⟩, h4⟩
  · exact .inl ⟨_, h1, h2, h3⟩
  · exact .inr (.inl ⟨h1, h2⟩)
  · exact .inr (.inr ⟨_, h1, h2, h3, h4⟩)
set_option maxHeartbeats 4000000 in
theorem refDigs10 (s : ByteArray) (w : World) :
    Calls Tryz.prog 116 #[.string s, .int .i64 10, .int .i64 7] w fun e w' => e = .returned (.int .i64 (digsI 10 7 s.data.toList)) ∧ w' = w := by
  by_cases h0 : s.size < 1
  · have HV : Hid (digsI 10 7 s.data.toList = -1) := hide (by unfold digsI; rw [if_pos (.inl (by rw [toList_length]; exact h0))])
    have q1 : decide ((s.size : Int) < 1) = true := decide_eq_true (by omega)
    clear h0
    go_enter Tryz.func116, Tryz.ntmps116
    go_wp2_with fail
    go_ret
    exact ⟨by rw [HV.out] <;> rfl, rfl⟩
  have q1 : decide ((s.size : Int) < 1) = false := decide_eq_false (by omega)
  by_cases hm : 7 < s.size
  · have HV : Hid (digsI 10 7 s.data.toList = -1) := hide (by unfold digsI; rw [if_pos (.inr (by rw [toList_length]; exact hm))])
    have q2 : decide ((7 : Int) < (s.size : Int)) = true := decide_eq_true (by omega)
    clear h0 hm
    go_enter Tryz.func116, Tryz.ntmps116
    go_wp2_with fail
    go_ret
    exact ⟨by rw [HV.out] <;> rfl, rfl⟩
  have q2 : decide ((7 : Int) < (s.size : Int)) = false := decide_eq_false (by omega)
  have hs7 : s.size ≤ 7 := by omega
  have HS0 := hide h0
  have HM0 := hide hm
  clear h0 hm
  go_enter Tryz.func116, Tryz.ntmps116
  go_wp2_with fail
  clear q1 q2
  go_loopw [7, 8] (fun nv iv wr => ∃ k n : Nat, k ≤ s.size ∧ iv = .int .i64 k ∧ nv = .int .i64 n ∧ Hid (n + 1 ≤ 10 ^ k) ∧ Hid (parseB 10 n (s.data.toList.drop k) = parseB 10 0 s.data.toList) ∧ Hid (wr = w)) (fun _ iv _ => s.size - (intOf iv).toNat)
  case atStart => exact ⟨0, 0, Nat.zero_le _, rfl, rfl, hide (Nat.le_refl _), hide rfl, hide rfl⟩
  case round =>
    obtain ⟨k, n, hk, rfl, rfl, HP, HG, HW⟩ := hrel
    obtain rfl := HW.out
    by_cases hlt : k < s.size
    · have hst := HG.out
      rw [drop_cons s k hlt, parseB] at hst
      have hs0 := HS0.out
      rcases dig_hex10 s[k] with h | h | h
      ·
        obtain ⟨d, hd, he, hg⟩ := h
        rw [hg] at hst
        have HN : Hid (parseB 10 (n * 10 + d) (s.data.toList.drop (k + 1)) = parseB 10 0 s.data.toList) := hide hst
        have HB1 : Hid (n * 10 + d + 1 ≤ 10 ^ (k + 1)) := hide (par_step HP.out hd)
        have hb2 : n * 10 + d + 1 ≤ 10 ^ 7 := Nat.le_trans HB1.out (Nat.pow_le_pow_right (by decide) (by omega : k + 1 ≤ 7))
        have x1 : IntKind.i64.wrap ((n : Int) * 10) = (n : Int) * 10 := IntWalk.i64_in _ (by omega)
        have x2 : IntKind.i64.wrap ((n : Int) * 10 + (d : Int)) = (n : Int) * 10 + d := IntWalk.i64_in _ (by omega)
        have t1 : decide ((d : Int) < 0) = false := decide_eq_false (by omega)
        have t2 : decide ((10 : Int) ≤ (d : Int)) = false := decide_eq_false (by omega)
        have hdb : d < 10 := hd
        clear hst hg hb2 hd
        go_wp2_with (go_at_call 141; refine (refHex_still he _).mono ?_; rintro e wx ⟨rfl, hwx⟩; obtain rfl := hwx)
        go_roundw
        case rel => exact ⟨k + 1, n * 10 + d, by omega, by go_num, by first | rfl | simp, HB1, HN, by first | exact trivial | exact hide rfl⟩
        case measure => simp [intOf]; omega
      ·
        obtain ⟨he, hg⟩ := h
        rw [hg] at hst
        have HV : Hid (digsI 10 7 s.data.toList = -1) := hide (by unfold digsI; rw [if_neg (by rw [toList_length]; omega), ← hst])
        clear hst hg
        go_wp2_with (go_at_call 141; refine (refHex_still he _).mono ?_; rintro e wx ⟨rfl, hwx⟩; obtain rfl := hwx)
        go_ret
        exact ⟨by rw [HV.out] <;> rfl, rfl⟩
      ·
        obtain ⟨d, hd, hd2, he, hg⟩ := h
        rw [hg] at hst
        have HV : Hid (digsI 10 7 s.data.toList = -1) := hide (by unfold digsI; rw [if_neg (by rw [toList_length]; omega), ← hst])
        have t1 : decide ((d : Int) < 0) = false := decide_eq_false (by omega)
        have t2 : decide ((10 : Int) ≤ (d : Int)) = true := decide_eq_true (by omega)
        clear hst hg hd hd2
        go_wp2_with (go_at_call 141; refine (refHex_still he _).mono ?_; rintro e wx ⟨rfl, hwx⟩; obtain rfl := hwx)
        go_ret
        exact ⟨by rw [HV.out] <;> rfl, rfl⟩
    · have hst := HG.out
      rw [drop_nil s k (by omega), parseB] at hst
      have HV : Hid (digsI 10 7 s.data.toList = n) := hide (by unfold digsI; rw [if_neg (by rw [toList_length]; have := HS0.out; omega), ← hst])
      clear hst
      go_wp2_with fail
      go_ret
      exact ⟨by rw [HV.out] <;> rfl, rfl⟩
set_option maxHeartbeats 4000000 in
theorem refDigs16 (s : ByteArray) (w : World) :
    Calls Tryz.prog 116 #[.string s, .int .i64 16, .int .i64 6] w fun e w' => e = .returned (.int .i64 (digsI 16 6 s.data.toList)) ∧ w' = w := by
  by_cases h0 : s.size < 1
  · have HV : Hid (digsI 16 6 s.data.toList = -1) := hide (by unfold digsI; rw [if_pos (.inl (by rw [toList_length]; exact h0))])
    have q1 : decide ((s.size : Int) < 1) = true := decide_eq_true (by omega)
    clear h0
    go_enter Tryz.func116, Tryz.ntmps116
    go_wp2_with fail
    go_ret
    exact ⟨by rw [HV.out] <;> rfl, rfl⟩
  have q1 : decide ((s.size : Int) < 1) = false := decide_eq_false (by omega)
  by_cases hm : 6 < s.size
  · have HV : Hid (digsI 16 6 s.data.toList = -1) := hide (by unfold digsI; rw [if_pos (.inr (by rw [toList_length]; exact hm))])
    have q2 : decide ((6 : Int) < (s.size : Int)) = true := decide_eq_true (by omega)
    clear h0 hm
    go_enter Tryz.func116, Tryz.ntmps116
    go_wp2_with fail
    go_ret
    exact ⟨by rw [HV.out] <;> rfl, rfl⟩
  have q2 : decide ((6 : Int) < (s.size : Int)) = false := decide_eq_false (by omega)
  have hs7 : s.size ≤ 6 := by omega
  have HS0 := hide h0
  have HM0 := hide hm
  clear h0 hm
  go_enter Tryz.func116, Tryz.ntmps116
  go_wp2_with fail
  clear q1 q2
  go_loopw [7, 8] (fun nv iv wr => ∃ k n : Nat, k ≤ s.size ∧ iv = .int .i64 k ∧ nv = .int .i64 n ∧ Hid (n + 1 ≤ 16 ^ k) ∧ Hid (parseB 16 n (s.data.toList.drop k) = parseB 16 0 s.data.toList) ∧ Hid (wr = w)) (fun _ iv _ => s.size - (intOf iv).toNat)
  case atStart => exact ⟨0, 0, Nat.zero_le _, rfl, rfl, hide (Nat.le_refl _), hide rfl, hide rfl⟩
  case round =>
    obtain ⟨k, n, hk, rfl, rfl, HP, HG, HW⟩ := hrel
    obtain rfl := HW.out
    by_cases hlt : k < s.size
    · have hst := HG.out
      rw [drop_cons s k hlt, parseB] at hst
      have hs0 := HS0.out
      rcases dig_hex16 s[k] with h | h | h
      ·
        obtain ⟨d, hd, he, hg⟩ := h
        rw [hg] at hst
        have HN : Hid (parseB 16 (n * 16 + d) (s.data.toList.drop (k + 1)) = parseB 16 0 s.data.toList) := hide hst
        have HB1 : Hid (n * 16 + d + 1 ≤ 16 ^ (k + 1)) := hide (par_step HP.out hd)
        have hb2 : n * 16 + d + 1 ≤ 16 ^ 7 := Nat.le_trans HB1.out (Nat.pow_le_pow_right (by decide) (by omega : k + 1 ≤ 7))
        have x1 : IntKind.i64.wrap ((n : Int) * 16) = (n : Int) * 16 := IntWalk.i64_in _ (by omega)
        have x2 : IntKind.i64.wrap ((n : Int) * 16 + (d : Int)) = (n : Int) * 16 + d := IntWalk.i64_in _ (by omega)
        have t1 : decide ((d : Int) < 0) = false := decide_eq_false (by omega)
        have t2 : decide ((16 : Int) ≤ (d : Int)) = false := decide_eq_false (by omega)
        have hdb : d < 16 := hd
        clear hst hg hb2 hd
        go_wp2_with (go_at_call 141; refine (refHex_still he _).mono ?_; rintro e wx ⟨rfl, hwx⟩; obtain rfl := hwx)
        go_roundw
        case rel => exact ⟨k + 1, n * 16 + d, by omega, by go_num, by first | rfl | simp, HB1, HN, by first | exact trivial | exact hide rfl⟩
        case measure => simp [intOf]; omega
      ·
        obtain ⟨he, hg⟩ := h
        rw [hg] at hst
        have HV : Hid (digsI 16 6 s.data.toList = -1) := hide (by unfold digsI; rw [if_neg (by rw [toList_length]; omega), ← hst])
        clear hst hg
        go_wp2_with (go_at_call 141; refine (refHex_still he _).mono ?_; rintro e wx ⟨rfl, hwx⟩; obtain rfl := hwx)
        go_ret
        exact ⟨by rw [HV.out] <;> rfl, rfl⟩
      ·
        obtain ⟨d, hd, hd2, he, hg⟩ := h
        rw [hg] at hst
        have HV : Hid (digsI 16 6 s.data.toList = -1) := hide (by unfold digsI; rw [if_neg (by rw [toList_length]; omega), ← hst])
        have t1 : decide ((d : Int) < 0) = false := decide_eq_false (by omega)
        have t2 : decide ((16 : Int) ≤ (d : Int)) = true := decide_eq_true (by omega)
        clear hst hg hd hd2
        go_wp2_with (go_at_call 141; refine (refHex_still he _).mono ?_; rintro e wx ⟨rfl, hwx⟩; obtain rfl := hwx)
        go_ret
        exact ⟨by rw [HV.out] <;> rfl, rfl⟩
    · have hst := HG.out
      rw [drop_nil s k (by omega), parseB] at hst
      have HV : Hid (digsI 16 6 s.data.toList = n) := hide (by unfold digsI; rw [if_neg (by rw [toList_length]; have := HS0.out; omega), ← hst])
      clear hst
      go_wp2_with fail
      go_ret
      exact ⟨by rw [HV.out] <;> rfl, rfl⟩
theorem rune_bad {n : Int} (h : n < 0 ∨ (55296 ≤ n ∧ n ≤ 57343) ∨ 1114111 < n) : runeL n = runeL 65533 := by
  rw [show runeL n = bad from runeL_bad h]; decide
set_option maxHeartbeats 4000000 in
theorem sign_big (n : Nat) (w : World) (hn : 1114111 < n) (hb : n ≤ 16777216) :
    Calls Tryz.prog 143 #[.int .i64 n] w fun e w' => e = .returned (.string (str (runeL n))) ∧ Below w.heap.size w w' := by
  have t1 : decide ((n : Int) < 0) = false := decide_eq_false (by omega)
  have t2 : decide ((1114111 : Int) < n) = true := decide_eq_true (by omega)
  have HB : Hid (runeL (n : Int) = bad) := hide (runeL_bad (by omega))
  clear hn hb
  go_enter Tryz.func143, Tryz.ntmps143
  go_wp2
  go_ret
  exact ⟨ret_str (by rw [HB.out]; rfl), Below.refl _ _⟩
theorem sign_all (n : Nat) (w : World) (hb : n ≤ 16777216) :
    Calls Tryz.prog 143 #[.int .i64 n] w fun e w' => e = .returned (.string (str (runeL n))) ∧ Below w.heap.size w w' := by
  by_cases h : n ≤ 1114111
  · exact sign_any n w h
  · exact sign_big n w (by omega) hb
set_option maxHeartbeats 4000000 in
theorem refNumbered_any (n : Nat) (w : World) (hb : n ≤ 16777216) :
    Calls Tryz.prog 117 #[.int .i64 n] w fun e w' => e = .returned (.string (str (runeL (signN n)))) ∧ Below w.heap.size w w' := by
  by_cases h0 : n = 0
  · subst h0
    have HV : Hid (str (runeL (signN 0)) = ⟨#[239, 191, 189]⟩) := hide (by decide)
    go_enter Tryz.func117, Tryz.ntmps117
    go_wp2_with fail
    go_ret
    exact ⟨by rw [HV.out] <;> rfl, Below.refl _ _⟩
  have t0 : ((n : Int) == 0) = false := beq_eq_false_iff_ne.2 (by omega)
  by_cases h1 : 128 ≤ n ∧ n ≤ 159
  · have t1 : decide ((128 : Int) ≤ n) = true := decide_eq_true (by omega)
    have t2 : decide ((n : Int) ≤ 159) = true := decide_eq_true (by omega)
    have w1 : IntKind.u8.wrap (n : Int) = n := IntWalk.u8_in _ (by omega)
    have hcv := conv1
    have HV : Hid (winL (strOfNums [(n : Int)]).data.toList = runeL (signN n)) := hide (by
      rw [nums_list, List.map_cons, List.map_nil, Int.toNat_natCast, winL_cons, signN_window h1.1 h1.2]
      show _ ++ [] = _
      rw [List.append_nil])
    have HD := hide (fun (w : World) => refDec2 ⟨#[119, 105, 110, 100, 111, 119, 115, 45, 49, 50, 53, 50]⟩ (strOfNums [(n : Int)]) w (by decide) (by rw [← toList_length, nums_list]; simp) kind_win)
    rw [HV.out] at HD
    clear h0 h1 hb
    go_enter Tryz.func117, Tryz.ntmps117
    go_wp2_with (go_at_call 142; refine (HD.out _).mono ?_; rintro e w3 ⟨rfl, hb3⟩)
    go_ret
    exact ⟨rfl, ((Below.refl _ w).alloc (Nat.le_refl _) _).trans (hb3.mono (by rw [World.size_alloc]; omega))⟩
  · have HV : Hid (runeL (signN n) = runeL n) := hide (by
      by_cases hx : n = 0 ∨ 1114111 < n ∨ (55296 ≤ n ∧ n ≤ 57343)
      · rw [signN_bad hx, rune_bad (n := (n : Int)) (by omega)]
      · rw [signN_own hx h1])
    have tt : (decide ((128 : Int) ≤ n) = false) ∨ (decide ((128 : Int) ≤ n) = true ∧ decide ((n : Int) ≤ 159) = false) := by
      by_cases g : 128 ≤ n
      · exact .inr ⟨decide_eq_true (by omega), decide_eq_false (by omega)⟩
      · exact .inl (decide_eq_false (by omega))
    have HS := hide (fun (w : World) => sign_all n w hb)
    clear h0 h1 hb
    rcases tt with t1 | ⟨t1, t2⟩
    all_goals
      go_enter Tryz.func117, Tryz.ntmps117
      go_wp2_with (go_at_call 143; refine (HS.out _).mono ?_; rintro e w3 ⟨rfl, hb3⟩)
      go_ret
      exact ⟨by rw [HV.out] <;> rfl, hb3⟩
end Go.Proofs.YtgokefodmjhhiaaGreatDoor

/- WALK of the reference's One, layer 12. No statement is proved here. -/
namespace Go.Proofs.YtgokefodmjhhiaaGreatDoor
open Go.RowKit
set_option linter.unusedVariables false
set_option linter.unusedSimpArgs false
set_option maxRecDepth 100000
/-- what One answers at a sign and a number of bytes behind the `&` -/
def onRV (o : Int × Nat) : Value := if 0 < o.2 then .tuple #[.string (str (runeL o.1)), .int .i64 (o.2 + 1 : Nat)] else .tuple #[.string ⟨#[]⟩, .int .i64 0]
def noneV : Value := .tuple #[.string ⟨#[]⟩, .int .i64 0]
def onRL : List UInt8 → Value
  | 38 :: r => onRV (refN r)
  | _ => noneV
theorem onRV_some (x : Int) (n : Nat) : onRV (x, n + 1) = .tuple #[.string (str (runeL x)), .int .i64 (n + 1 + 1 : Nat)] := by
  unfold onRV; rw [if_pos (Nat.succ_pos _)]
theorem name_two {l : List UInt8} {x : Int} (h : nameN l = some x) : 2 ≤ l.length := by
  have ha : ∀ y ∈ namesL, 2 ≤ y.length := by decide
  exact ha l (name_mem l x h)
theorem name_hash (r : List UInt8) : nameN (35 :: r) = none := by
  cases e : nameN (35 :: r) with
  | none => rfl
  | some x =>
    have ha : ∀ y ∈ namesL, y.head? ≠ some 35 := by decide
    exact absurd rfl (ha _ (name_mem _ x e))
theorem rune_ne (x : Int) : (str (runeL x)).toList.isEmpty = false := by
  rw [str_list]
  have := (runeL_length x).1
  cases h : runeL x with
  | nil => rw [h] at this; simp at this
  | cons a r => rfl
set_option maxHeartbeats 4000000 in
/-- no reference's begin -/
theorem refOnR_no (s : ByteArray) (w : World) (h : ∀ r, s.data.toList ≠ 38 :: r) :
    Calls Tryz.prog 74 #[.string s] w fun e w' => e = .returned (onRL s.data.toList) ∧ Below w.heap.size w w' := by
  have HV : Hid (onRL s.data.toList = noneV) := hide (by
    unfold onRL
    split
    · rename_i r e; exact absurd e (h r)
    · rfl)
  by_cases h0 : s.size = 0
  · obtain ⟨z1, z2⟩ := size0 (t := s) h0
    clear h
    go_enter Tryz.func74, Tryz.ntmps74
    go_wp2_with fail
    go_ret2
    exact ⟨by rw [HV.out] <;> rfl, Below.refl _ _⟩
  · have hp : 0 < s.size := by omega
    have h38 : s[0] ≠ 38 := by
      intro e
      have := drop_cons s 0 hp
      rw [List.drop_zero, e] at this
      exact h _ this
    have t0 : ((s[0].toNat : Int) == 38) = false := tF 38 h38 (by omega)
    have z2 := (sizeP h0).2
    clear h h38
    go_enter Tryz.func74, Tryz.ntmps74
    go_wp2_with fail
    go_ret2
    exact ⟨by rw [HV.out] <;> rfl, Below.refl _ _⟩
def sgnV (k : List UInt8) : Option Int → Value
  | some x => onRV (x, k.length + 1)
  | none => noneV
set_option maxHeartbeats 8000000 in
theorem refOnR_yes (s : ByteArray) (w : World) (r : List UInt8) (hs : s.data.toList = 38 :: r) (hsz : s.size ≤ 1048576) :
    Calls Tryz.prog 74 #[.string s] w fun e w' => e = .returned (onRL s.data.toList) ∧ Below w.heap.size w w' := by
  have hp : 0 < s.size := by rw [← toList_length, hs]; exact Nat.succ_pos _
  have h38 : s[0] = 38 := by
    have := drop_cons s 0 hp
    rw [List.drop_zero, hs] at this
    injection this with e _; exact e.symm
  have hr : s.data.toList.drop 1 = r := by rw [hs]; rfl
  have t0 : ((s[0].toNat : Int) == 38) = true := tT 38 h38 (by omega)
  have t0n : ((s[0].toNat : Int) != 38) = false := by rw [bne, t0]; rfl
  have z2 : s.toList.isEmpty = false := (sizeP (by omega)).2
  have HS := hide hs
  have HR := hide hr
  clear hs hr h38
  go_enter Tryz.func74, Tryz.ntmps74
  go_wp2_with fail
  clear t0 t0n z2
  go_loopw [4] (fun iv wr => ∃ k : Nat, 1 ≤ k ∧ k ≤ s.size ∧ iv = .int .i64 k ∧ Hid ((r.take (k - 1)).all isRB = true) ∧ Hid (wr = w)) (fun iv _ => s.size - (intOf iv).toNat)
  case atStart => exact ⟨1, Nat.le_refl _, hp, rfl, hide rfl, hide rfl⟩
  case round =>
    obtain ⟨k, k1, hk, rfl, HA, HW⟩ := hrel
    obtain rfl := HW.out
    by_cases hlt : k < s.size
    · have hdk : r.drop (k - 1) = s[k] :: s.data.toList.drop (k + 1) := by
        rw [← HR.out, List.drop_drop, show 1 + (k - 1) = k by omega]
        exact drop_cons s k hlt
      have hsnoc : r.take (k + 1 - 1) = r.take (k - 1) ++ [s[k]] := by
        have hl : k - 1 < r.length := by
          have := congrArg List.length HS.out
          rw [toList_length, List.length_cons] at this; omega
        rw [show k + 1 - 1 = (k - 1) + 1 by omega, List.take_add_one, List.getElem?_eq_getElem hl]
        have := List.drop_eq_getElem_cons hl
        rw [hdk] at this
        injection this with e _
        rw [← e]; rfl
      by_cases hl : letterB s[k] = true
      · have HA2 : Hid ((r.take (k + 1 - 1)).all isRB = true) := hide (by rw [hsnoc, List.all_append, HA.out]; simp [isRB, hl])
        have HL := hide hl
        clear hdk hsnoc hl
        go_wp2_with (go_at_call 114; refine (letter_any _ _).mono ?_; rintro e wx ⟨rfl, hwx⟩; obtain rfl := hwx; rw [HL.out])
        go_roundw
        case rel => exact ⟨k + 1, by omega, by omega, by go_num, HA2, by first | exact trivial | exact hide rfl⟩
        case measure => simp [intOf]; omega
      have hl0 : letterB s[k] = false := by simpa using hl
      by_cases hd : digitB s[k] = true
      · have HA2 : Hid ((r.take (k + 1 - 1)).all isRB = true) := hide (by rw [hsnoc, List.all_append, HA.out]; simp [isRB, hd])
        have HL := hide hl0
        have HD := hide hd
        clear hdk hsnoc hl hl0 hd
        go_wp2_with (first | (go_at_call 114; refine (letter_any _ _).mono ?_; rintro e wx ⟨rfl, hwx⟩; obtain rfl := hwx; rw [HL.out]) | (go_at_call 115; refine (digit03_any _ _).mono ?_; rintro e wx ⟨rfl, hwx⟩; obtain rfl := hwx; rw [HD.out]))
        go_roundw
        case rel => exact ⟨k + 1, by omega, by omega, by go_num, HA2, by first | exact trivial | exact hide rfl⟩
        case measure => simp [intOf]; omega
      have hd0 : digitB s[k] = false := by simpa using hd
      by_cases h35 : s[k] = 35
      · have HA2 : Hid ((r.take (k + 1 - 1)).all isRB = true) := hide (by rw [hsnoc, List.all_append, HA.out]; simp [isRB, h35])
        have HL := hide hl0
        have HD := hide hd0
        have t35 : ((s[k].toNat : Int) == 35) = true := tT 35 h35 (by omega)
        clear hdk hsnoc hl hl0 hd hd0 h35
        go_wp2_with (first | (go_at_call 114; refine (letter_any _ _).mono ?_; rintro e wx ⟨rfl, hwx⟩; obtain rfl := hwx; rw [HL.out]) | (go_at_call 115; refine (digit03_any _ _).mono ?_; rintro e wx ⟨rfl, hwx⟩; obtain rfl := hwx; rw [HD.out]))
        go_roundw
        case rel => exact ⟨k + 1, by omega, by omega, by go_num, HA2, by first | exact trivial | exact hide rfl⟩
        case measure => simp [intOf]; omega
      have t35 : ((s[k].toNat : Int) == 35) = false := tF 35 h35 (by omega)
      have hrun := refN_run (r := r) (k := r.take (k - 1)) (q := s[k] :: s.data.toList.drop (k + 1)) (by rw [← hdk, List.take_append_drop]) HA.out (by
        intro c t e
        injection e with e _
        subst e
        simp [isRB, hl0, hd0, h35])
      have HL := hide hl0
      have HD := hide hd0
      have kne : ((k : Int) == (s.size : Int)) = false := beq_eq_false_iff_ne.2 (by omega)
      have kne2 : (k == s.size) = false := beq_eq_false_iff_ne.2 (by omega)
      by_cases h59 : s[k] = 59
      · have t59 : ((s[k].toNat : Int) == 59) = true := tT 59 h59 (by omega)
        rw [h59] at hrun
        have HONE0 : Hid (onRL s.data.toList = sgnV (r.take (k - 1)) (sgn (r.take (k - 1)))) := hide (by
          rw [HS.out]
          show onRV (refN r) = _
          rw [hrun, runV_semi]
          cases sgn (r.take (k - 1)) <;> rfl)
        have hTl : (s.extract 1 k).data.toList = r.take (k - 1) := by
          rw [extract_list, ← HR.out, List.drop_take]
        have hTz : (s.extract 1 k).size = k - 1 := by rw [ByteArray.size_extract]; omega
        rw [← hTl] at HONE0
        have HTL0 : Hid ((s.extract 1 k).data.toList.length + 1 + 1 = k + 1) := hide (by rw [toList_length, hTz]; omega)
        clear hl hl0 hd hd0 h35 h59 hrun hdk hsnoc hTl
        have kk1 : (1 : Int) ≤ k := by omega
        have kk2 : (k : Int) ≤ s.size := by omega
        go_upto_region 9 with (first | (go_at_call 114; refine (letter_any _ _).mono ?_; rintro e wx ⟨rfl, hwx⟩; obtain rfl := hwx; rw [HL.out]) | (go_at_call 115; refine (digit03_any _ _).mono ?_; rintro e wx ⟨rfl, hwx⟩; obtain rfl := hwx; rw [HD.out]))
        generalize hT : s.extract 1 k = T at HONE0 HTL0 hTz
        have HONE := hide HONE0.out
        have HTL := hide HTL0.out
        clear HONE0 HTL0 hT kne kne2 t35 t59
        have tz : T.data.toList.length = T.size := toList_length T
        by_cases hz : 1 < T.size
        · have z1 : (1 : Int) < T.size := by omega
          have z0 : 0 < T.size := by omega
          have zd : decide ((1 : Int) < T.size) = true := decide_eq_true z1
          have z3 : (2 : Int) ≤ T.size := by omega
          have z4 : (1 : Int) ≤ T.size := by omega
          have hT0 := drop_cons T 0 z0
          have hT1 := drop_cons T 1 hz
          rw [List.drop_zero] at hT0
          rw [hT1] at hT0
          by_cases g0 : T[0] = 35
          · have e0 : ((T[0].toNat : Int) == 35) = true := tT 35 g0 (by omega)
            rw [g0] at hT0
            have HTH := hide hT0
            by_cases g1 : T[1] = 120
            · have e1 : ((T[1].toNat : Int) == 120) = true := tT 120 g1 (by omega)
              have HSG : Hid (sgn T.data.toList = numAt 16 6 (T.data.toList.drop 2)) := hide (by rw [hT0, sgn_num, byN_x _ _ (.inl g1)]; rfl)
              clear hT0 hT1 g0 g1 tz hTz
              have HNM : Hid (namedB T.data.toList = ⟨#[]⟩) := hide (by unfold namedB; rw [HTH.out, name_hash])
              have hD : (T.extract 2 T.size).data.toList = T.data.toList.drop 2 := extract_end T 2
              have hdig := refDigs16 (T.extract 2 T.size)
              rw [hD] at hdig
              rcases digs_num (b := 16) (m := 6) (by decide) (T.data.toList.drop 2) with ⟨n, hn1, hn2, hn3, hn4⟩ | ⟨hn1, hn2⟩
              · rw [hn1] at hdig
                have hnb : n ≤ 16777216 := by
                  have := Nat.pow_le_pow_right (n := 16) (by decide) hn4
                  omega
                have HDG := hide hdig
                have HNU := hide (fun (w : World) => refNumbered_any n w hnb)
                have HV : Hid (onRL s.data.toList = .tuple #[.string (str (runeL (signN n))), .int .i64 (k + 1 : Nat)]) := hide (by rw [HONE.out, HSG.out, hn2]; show onRV (signN n, T.data.toList.length + 1) = _; rw [onRV_some, HTL.out])
                have n0 : decide ((0 : Int) ≤ n) = true := decide_eq_true (by omega)
                clear hdig hD hn1 hn2 hn3 hn4
                go_wp2_with (first
                  | (go_at_call 116; refine (HDG.out _).mono ?_; rintro e wd ⟨rfl, hwd⟩; obtain rfl := hwd)
                  | (go_at_call 117; refine (HNU.out _).mono ?_; rintro e wn ⟨rfl, hbn⟩))
                go_ret2
                exact ⟨by rw [HV.out] <;> rfl, hbn⟩
              · rw [hn1] at hdig
                have HDG := hide hdig
                have HV : Hid (onRL s.data.toList = noneV) := hide (by rw [HONE.out, HSG.out, hn2]; rfl)
                clear hdig hD hn1 hn2
                go_wp2_with (first
                  | (go_at_call 116; refine (HDG.out _).mono ?_; rintro e wd ⟨rfl, hwd⟩; obtain rfl := hwd)
                  | (go_at_call 118; refine (refNamed_any _ _).mono ?_; rintro e wn ⟨rfl, hbn⟩; rw [HNM.out]))
                go_ret2
                exact ⟨by rw [HV.out] <;> rfl, hbn⟩
            by_cases g2 : T[1] = 88
            · have e1 : ((T[1].toNat : Int) == 120) = false := tF 120 g1 (by omega)
              have e2 : ((T[1].toNat : Int) == 88) = true := tT 88 g2 (by omega)
              have HSG : Hid (sgn T.data.toList = numAt 16 6 (T.data.toList.drop 2)) := hide (by rw [hT0, sgn_num, byN_x _ _ (.inr g2)]; rfl)
              clear hT0 hT1 g0 g1 g2 tz hTz
              have HNM : Hid (namedB T.data.toList = ⟨#[]⟩) := hide (by unfold namedB; rw [HTH.out, name_hash])
              have hD : (T.extract 2 T.size).data.toList = T.data.toList.drop 2 := extract_end T 2
              have hdig := refDigs16 (T.extract 2 T.size)
              rw [hD] at hdig
              rcases digs_num (b := 16) (m := 6) (by decide) (T.data.toList.drop 2) with ⟨n, hn1, hn2, hn3, hn4⟩ | ⟨hn1, hn2⟩
              · rw [hn1] at hdig
                have hnb : n ≤ 16777216 := by
                  have := Nat.pow_le_pow_right (n := 16) (by decide) hn4
                  omega
                have HDG := hide hdig
                have HNU := hide (fun (w : World) => refNumbered_any n w hnb)
                have HV : Hid (onRL s.data.toList = .tuple #[.string (str (runeL (signN n))), .int .i64 (k + 1 : Nat)]) := hide (by rw [HONE.out, HSG.out, hn2]; show onRV (signN n, T.data.toList.length + 1) = _; rw [onRV_some, HTL.out])
                have n0 : decide ((0 : Int) ≤ n) = true := decide_eq_true (by omega)
                clear hdig hD hn1 hn2 hn3 hn4
                go_wp2_with (first
                  | (go_at_call 116; refine (HDG.out _).mono ?_; rintro e wd ⟨rfl, hwd⟩; obtain rfl := hwd)
                  | (go_at_call 117; refine (HNU.out _).mono ?_; rintro e wn ⟨rfl, hbn⟩))
                go_ret2
                exact ⟨by rw [HV.out] <;> rfl, hbn⟩
              · rw [hn1] at hdig
                have HDG := hide hdig
                have HV : Hid (onRL s.data.toList = noneV) := hide (by rw [HONE.out, HSG.out, hn2]; rfl)
                clear hdig hD hn1 hn2
                go_wp2_with (first
                  | (go_at_call 116; refine (HDG.out _).mono ?_; rintro e wd ⟨rfl, hwd⟩; obtain rfl := hwd)
                  | (go_at_call 118; refine (refNamed_any _ _).mono ?_; rintro e wn ⟨rfl, hbn⟩; rw [HNM.out]))
                go_ret2
                exact ⟨by rw [HV.out] <;> rfl, hbn⟩
            · have e1 : ((T[1].toNat : Int) == 120) = false := tF 120 g1 (by omega)
              have e2 : ((T[1].toNat : Int) == 88) = false := tF 88 g2 (by omega)
              have HSG : Hid (sgn T.data.toList = numAt 10 7 (T.data.toList.drop 1)) := hide (by
                rw [hT0, sgn_num, byN_d]
                · rfl
                · intro c' r' e; injection e with e3 _; subst e3; exact fun e => e.elim g1 g2)
              clear hT0 hT1 g0 g1 g2 tz hTz
              have HNM : Hid (namedB T.data.toList = ⟨#[]⟩) := hide (by unfold namedB; rw [HTH.out, name_hash])
              have hD : (T.extract 1 T.size).data.toList = T.data.toList.drop 1 := extract_end T 1
              have hdig := refDigs10 (T.extract 1 T.size)
              rw [hD] at hdig
              rcases digs_num (b := 10) (m := 7) (by decide) (T.data.toList.drop 1) with ⟨n, hn1, hn2, hn3, hn4⟩ | ⟨hn1, hn2⟩
              · rw [hn1] at hdig
                have hnb : n ≤ 16777216 := by
                  have := Nat.pow_le_pow_right (n := 10) (by decide) hn4
                  omega
                have HDG := hide hdig
                have HNU := hide (fun (w : World) => refNumbered_any n w hnb)
                have HV : Hid (onRL s.data.toList = .tuple #[.string (str (runeL (signN n))), .int .i64 (k + 1 : Nat)]) := hide (by rw [HONE.out, HSG.out, hn2]; show onRV (signN n, T.data.toList.length + 1) = _; rw [onRV_some, HTL.out])
                have n0 : decide ((0 : Int) ≤ n) = true := decide_eq_true (by omega)
                clear hdig hD hn1 hn2 hn3 hn4
                go_wp2_with (first
                  | (go_at_call 116; refine (HDG.out _).mono ?_; rintro e wd ⟨rfl, hwd⟩; obtain rfl := hwd)
                  | (go_at_call 117; refine (HNU.out _).mono ?_; rintro e wn ⟨rfl, hbn⟩))
                go_ret2
                exact ⟨by rw [HV.out] <;> rfl, hbn⟩
              · rw [hn1] at hdig
                have HDG := hide hdig
                have HV : Hid (onRL s.data.toList = noneV) := hide (by rw [HONE.out, HSG.out, hn2]; rfl)
                clear hdig hD hn1 hn2
                go_wp2_with (first
                  | (go_at_call 116; refine (HDG.out _).mono ?_; rintro e wd ⟨rfl, hwd⟩; obtain rfl := hwd)
                  | (go_at_call 118; refine (refNamed_any _ _).mono ?_; rintro e wn ⟨rfl, hbn⟩; rw [HNM.out]))
                go_ret2
                exact ⟨by rw [HV.out] <;> rfl, hbn⟩
          · have e0 : ((T[0].toNat : Int) == 35) = false := tF 35 g0 (by omega)
            have HSG : Hid (sgn T.data.toList = nameN T.data.toList) := hide (sgn_name _ (by intro q e; rw [hT0] at e; injection e with e _; exact g0 e))
            clear hT0 hT1 g0 tz hTz
            cases hnm : nameN T.data.toList with
            | none =>
              have HNM : Hid (namedB T.data.toList = ⟨#[]⟩) := hide (by unfold namedB; rw [hnm])
              have HV : Hid (onRL s.data.toList = noneV) := hide (by rw [HONE.out, HSG.out, hnm]; rfl)
              clear hnm
              go_wp2_with (go_at_call 118; refine (refNamed_any _ _).mono ?_; rintro e wn ⟨rfl, hbn⟩; rw [HNM.out])
              go_ret2
              exact ⟨by rw [HV.out] <;> rfl, hbn⟩
            | some x =>
              obtain ⟨V, hV⟩ : ∃ V, V = str (runeL x) := ⟨_, rfl⟩
              have HNM : Hid (namedB T.data.toList = V) := hide (by unfold namedB; rw [hnm, hV])
              have HV : Hid (onRL s.data.toList = .tuple #[.string V, .int .i64 (k + 1 : Nat)]) := hide (by rw [HONE.out, HSG.out, hnm]; show onRV (x, T.data.toList.length + 1) = _; rw [onRV_some, HTL.out, ← hV])
              have ve : V.toList.isEmpty = false := by rw [hV]; exact rune_ne x
              clear hnm hV
              go_wp2_with (go_at_call 118; refine (refNamed_any _ _).mono ?_; rintro e wn ⟨rfl, hbn⟩; rw [HNM.out])
              go_ret2
              exact ⟨by rw [HV.out] <;> rfl, hbn⟩
        · have z1 : ¬ (1 : Int) < T.size := by omega
          have zd : decide ((1 : Int) < T.size) = false := decide_eq_false z1
          have HSG : Hid (sgn T.data.toList = nameN T.data.toList) := hide (by
            have h1 : sgn T.data.toList = none := by
              cases e : sgn T.data.toList with
              | none => rfl
              | some x => have := sgn_two e; omega
            have h2 : nameN T.data.toList = none := by
              cases e : nameN T.data.toList with
              | none => rfl
              | some x => have := name_two e; omega
            rw [h1, h2])
          clear hz tz hTz
          cases hnm : nameN T.data.toList with
          | none =>
            have HNM : Hid (namedB T.data.toList = ⟨#[]⟩) := hide (by unfold namedB; rw [hnm])
            have HV : Hid (onRL s.data.toList = noneV) := hide (by rw [HONE.out, HSG.out, hnm]; rfl)
            clear hnm
            go_wp2_with (go_at_call 118; refine (refNamed_any _ _).mono ?_; rintro e wn ⟨rfl, hbn⟩; rw [HNM.out])
            go_ret2
            exact ⟨by rw [HV.out] <;> rfl, hbn⟩
          | some x =>
            obtain ⟨V, hV⟩ : ∃ V, V = str (runeL x) := ⟨_, rfl⟩
            have HNM : Hid (namedB T.data.toList = V) := hide (by unfold namedB; rw [hnm, hV])
            have HV : Hid (onRL s.data.toList = .tuple #[.string V, .int .i64 (k + 1 : Nat)]) := hide (by rw [HONE.out, HSG.out, hnm]; show onRV (x, T.data.toList.length + 1) = _; rw [onRV_some, HTL.out, ← hV])
            have ve : V.toList.isEmpty = false := by rw [hV]; exact rune_ne x
            clear hnm hV
            go_wp2_with (go_at_call 118; refine (refNamed_any _ _).mono ?_; rintro e wn ⟨rfl, hbn⟩; rw [HNM.out])
            go_ret2
            exact ⟨by rw [HV.out] <;> rfl, hbn⟩
      · have t59 : ((s[k].toNat : Int) == 59) = false := tF 59 h59 (by omega)
        have HV : Hid (onRL s.data.toList = noneV) := hide (by
          rw [HS.out]
          show onRV (refN r) = _
          rw [hrun, runV_no (fun X e => by injection e with e _; exact absurd e h59)]
          rfl)
        clear hl hl0 hd hd0 h35 h59 hrun hdk hsnoc
        go_wp2_with (first | (go_at_call 114; refine (letter_any _ _).mono ?_; rintro e wx ⟨rfl, hwx⟩; obtain rfl := hwx; rw [HL.out]) | (go_at_call 115; refine (digit03_any _ _).mono ?_; rintro e wx ⟨rfl, hwx⟩; obtain rfl := hwx; rw [HD.out]))
        go_ret2
        exact ⟨by rw [HV.out] <;> rfl, Below.refl _ _⟩
    · have hks : k = s.size := by omega
      have hrun := refN_run (r := r) (k := r.take (k - 1)) (q := []) (by
        have hl : r.length = k - 1 := by
          have := congrArg List.length HS.out
          rw [toList_length, List.length_cons] at this; omega
        rw [List.append_nil, List.take_of_length_le (by omega)]) HA.out (by intro c t e; cases e)
      have HV : Hid (onRL s.data.toList = noneV) := hide (by
        rw [HS.out]
        show onRV (refN r) = _
        rw [hrun]; rfl)
      have kne : ((k : Int) == (s.size : Int)) = true := beq_iff_eq.2 (by omega)
      have kne2 : (k == s.size) = true := beq_iff_eq.2 (by omega)
      clear hrun hks
      go_wp2_with fail
      go_ret2
      exact ⟨by rw [HV.out] <;> rfl, Below.refl _ _⟩
theorem refOnR_any (s : ByteArray) (w : World) (hsz : s.size ≤ 1048576) :
    Calls Tryz.prog 74 #[.string s] w fun e w' => e = .returned (onRL s.data.toList) ∧ Below w.heap.size w w' := by
  by_cases h : ∃ r, s.data.toList = 38 :: r
  · obtain ⟨r, hr⟩ := h
    exact refOnR_yes s w r hr hsz
  · exact refOnR_no s w (fun r e => h ⟨r, e⟩)
end Go.Proofs.YtgokefodmjhhiaaGreatDoor

/- WALK of the reference's Decode, layer 12. No statement is proved here. -/
namespace Go.Proofs.YtgokefodmjhhiaaGreatDoor
open Go.RowKit
set_option linter.unusedVariables false
set_option linter.unusedSimpArgs false
set_option maxRecDepth 100000
theorem decE_onRL (l : List UInt8) (c : UInt8) (t : List UInt8) (h : l = c :: t) : (onRL l = noneV ∧ decE l = c :: decE t) ∨ ∃ (x : Int) (n : Nat), 0 < n ∧ n ≤ t.length ∧ onRL l = .tuple #[.string (str (runeL x)), .int .i64 (n + 1 : Nat)] ∧ decE l = runeL x ++ decE (t.drop n) := by
  subst h
  by_cases hc : c = 38
  · subst hc
    show (onRV (refN t) = _ ∧ _) ∨ _
    rw [decE_amp]
    by_cases hn : 0 < (refN t).2
    · refine .inr ⟨(refN t).1, (refN t).2, hn, (refN_ok t).2, ?_, by rw [if_pos hn]⟩
      show onRV (refN t) = _
      unfold onRV; rw [if_pos hn]
    · refine .inl ⟨?_, by rw [if_neg hn]⟩
      unfold onRV; rw [if_neg hn]; rfl
  · refine .inl ⟨?_, decE_cons hc t⟩
    unfold onRL
    split
    · rename_i e; injection e with e _; exact absurd e hc
    · rfl
set_option maxHeartbeats 4000000 in
theorem refDecode12_any (s : ByteArray) (w : World) (hs : s.size ≤ 1048576) :
    Calls Tryz.prog 36 #[.string s] w fun e w' => e = .returned (.string (str (decE s.data.toList))) ∧ Below w.heap.size w w' := by
  have hb0 : Buf w.heap.size (.slice none 0 0) [] w w := Buf.nil (Below.refl _ _) (Nat.le_refl _)
  have HB0 := hide hb0
  clear hb0
  go_enter Tryz.func36, Tryz.ntmps36
  go_wp2_with fail
  go_loopw [3, 4] (fun v i wr => ∃ (k : Nat) (acc : List UInt8), k ≤ s.size ∧ i = .int .i64 k ∧ Hid (Buf w.heap.size v acc w wr) ∧ Hid (acc.length ≤ 4 * k) ∧ Hid (acc ++ decE (s.data.toList.drop k) = decE s.data.toList)) (fun _ i _ => s.size - (intOf i).toNat)
  case atStart => exact ⟨0, [], Nat.zero_le _, rfl, HB0, hide (Nat.le_refl _), hide rfl⟩
  case round =>
    obtain ⟨k, acc, hk, rfl, HB, HL, HG⟩ := hrel
    by_cases hlt : k < s.size
    · have HO := hide (fun (w : World) => refOnR_any (s.extract k s.size) w (by rw [ByteArray.size_extract]; omega))
      rw [extract_end] at HO
      have hG := HG.out
      have hL := HL.out
      rcases decE_onRL (s.data.toList.drop k) s[k] (s.data.toList.drop (k + 1)) (drop_cons s k hlt) with ⟨o1, o2⟩ | ⟨x, n, n0, n1, o1, o2⟩
      · rw [o1, show noneV = .tuple #[.string ⟨#[]⟩, .int .i64 0] from rfl] at HO
        rw [o2] at hG
        have HGN : Hid ((acc ++ [s[k]]) ++ decE (s.data.toList.drop (k + 1)) = decE s.data.toList) := hide (by rw [← hG]; simp)
        have k1 : (k : Int) ≤ s.size := by omega
        have HLN : Hid (acc.length + 1 ≤ 140737488355328) := hide (by omega)
        clear o1 o2 hG hL
        go_wp2_with (first
          | (go_at_call 74; refine (HO.out _).mono ?_; rintro e w3 ⟨rfl, hb3⟩; have HB3 := hide (HB.out.kept hb3); clear hb3)
          | (refine wpList_buf_byte rfl _ _ rfl w.heap.size u3 acc rfl w _ s[k] HB3.out rfl (by first | exact HLN.out | (have := HLN.out; omega)) ?_; intro v2 w2 hb2; have HB2 := hide hb2; clear hb2))
        go_roundw
        case rel => exact ⟨k + 1, _, by omega, by go_num, HB2, hide (by have := HL.out; simp; omega), HGN⟩
        case measure => simp [intOf]; omega
      · rw [o1] at HO
        rw [o2, List.drop_drop] at hG
        rw [List.length_drop, toList_length] at n1
        have hrl := (runeL_length x).2.1
        obtain ⟨V, hV⟩ : ∃ V, V = str (runeL x) := ⟨_, rfl⟩
        rw [← hV] at HO
        have hVl : V.data.toList = runeL x := by rw [hV, str_toList]
        have HGN : Hid ((acc ++ V.data.toList) ++ decE (s.data.toList.drop (k + (n + 1))) = decE s.data.toList) := hide (by rw [← hG, hVl, show k + (n + 1) = k + 1 + n by omega]; simp)
        have HLV : Hid ((acc ++ V.data.toList).length ≤ 4 * (k + (n + 1))) := hide (by rw [List.length_append, hVl]; omega)
        have HLN : Hid (acc.length + V.size ≤ 140737488355328) := hide (by rw [← toList_length, hVl]; omega)
        have k1 : (k : Int) ≤ s.size := by omega
        have nn : (((n : Int) + 1) == 0) = false := beq_eq_false_iff_ne.2 (by omega)
        have q1 : IntKind.i64.wrap ((k : Int) + ((n : Int) + 1)) = ((k + (n + 1) : Nat) : Int) := by rw [IntWalk.i64_in _ (by omega)]; omega
        clear o1 o2 hG hL hrl hV hVl
        go_wp2_with (first
          | (go_at_call 74; refine (HO.out _).mono ?_; rintro e w3 ⟨rfl, hb3⟩; have HB3 := hide (HB.out.kept hb3); clear hb3)
          | (refine wpList_buf_text rfl _ _ rfl w.heap.size u3 acc rfl w HB3.out V rfl HLN.out ?_; intro v2 w2 hb2; have HB2 := hide hb2; clear hb2))
        go_roundw
        case rel => exact ⟨k + (n + 1), _, by omega, by go_num, HB2, HLV, HGN⟩
        case measure => simp [intOf]; omega
    · have hcv := HB.out.convert
      have hG := HG.out
      rw [drop_nil s k (by omega), decE_nil, List.append_nil] at hG
      have HR := hide hG
      clear hG
      go_wp2_with fail
      go_ret
      exact ⟨by rw [HR.out] <;> rfl, HB.out.below⟩
end Go.Proofs.YtgokefodmjhhiaaGreatDoor

