/- PLAIN MATHEMATICS of a date's text: tokens, numbers, times, zones; what a date is read to. No statement is proved here. -/
import Derived.Test.YtiojfknphpnlhaaDoorStampP
import Derived.Test.YtiojfknphpnlhaaDoorLow
namespace Go.Proofs.YtiojfknphpnlhaaDoor
set_option linter.unusedVariables false

/-! ### tokens -/
def isSep (c : UInt8) : Bool := c == 32 || c == 9 || c == 44
def tokB (cur : List UInt8) : List UInt8 → List (List UInt8)
  | [] => if cur.isEmpty then [] else [cur]
  | c :: r => if isSep c then (if cur.isEmpty then tokB [] r else cur :: tokB [] r) else tokB (cur ++ [c]) r
def notRem (t : List UInt8) : Bool := t.head? != some 40
def toksL (l : List UInt8) : List (List UInt8) := (tokB [] (lowL l)).takeWhile notRem
theorem tokB_run (x : List UInt8) (h : x.all (fun c => !isSep c) = true) : ∀ (cur r : List UInt8), tokB cur (x ++ r) = tokB (cur ++ x) r := by
  induction x with
  | nil => intro cur r; simp
  | cons a x ih =>
    intro cur r
    simp only [List.all_cons, Bool.and_eq_true, Bool.not_eq_true'] at h
    rw [List.cons_append, tokB, h.1, if_neg (by simp), ih h.2]; simp
theorem tokB_sep (cur : List UInt8) (c : UInt8) (r : List UInt8) (hc : isSep c = true) (hn : cur ≠ []) : tokB cur (c :: r) = cur :: tokB [] r := by
  rw [tokB, if_pos hc, if_neg (by simpa using hn)]
theorem tokB_sep0 (c : UInt8) (r : List UInt8) (hc : isSep c = true) : tokB [] (c :: r) = tokB [] r := by rw [tokB, if_pos hc]; rfl
theorem tokB_end (cur : List UInt8) (hn : cur ≠ []) : tokB cur [] = [cur] := by rw [tokB, if_neg (by simpa using hn)]
/-- a word, a sign between, and more -/
theorem tokB_word (x : List UInt8) (c : UInt8) (r : List UInt8) (h : x.all (fun c => !isSep c) = true) (hn : x ≠ []) (hc : isSep c = true) : tokB [] (x ++ c :: r) = x :: tokB [] r := by
  rw [tokB_run x h, List.nil_append, tokB_sep x c r hc hn]
theorem tokB_last (x : List UInt8) (h : x.all (fun c => !isSep c) = true) (hn : x ≠ []) : tokB [] x = [x] := by
  have := tokB_run x h [] []
  rw [List.append_nil] at this
  rw [this, List.nil_append, tokB_end x hn]
theorem lowC_sep (c : UInt8) : isSep (lowC c) = isSep c := u8_all (p := fun c => isSep (lowC c) = isSep c) (by decide +kernel) c
theorem lowC_rem (c : UInt8) : (lowC c == 40) = (c == 40) := u8_all (p := fun c => (lowC c == 40) = (c == 40)) (by decide +kernel) c
theorem tokB_low : ∀ (l cur : List UInt8), tokB (lowL cur) (lowL l) = (tokB cur l).map lowL
  | [], cur => by
    cases cur <;> rfl
  | c :: r, cur => by
    have h0 := tokB_low r []
    have h1 := tokB_low r (cur ++ [c])
    rw [show lowL (c :: r) = lowC c :: lowL r from rfl, tokB, tokB, lowC_sep]
    cases isSep c
    · rw [if_neg (by simp), if_neg (by simp), ← h1]; simp [lowL]
    · rw [if_pos rfl, if_pos rfl]
      cases cur with
      | nil => exact h0
      | cons a cur =>
        show (if (lowL (a :: cur)).isEmpty = true then _ else _) = _
        rw [if_neg (by simp [lowL]), if_neg (by simp), List.map_cons, ← h0]; rfl
theorem notRem_low (t : List UInt8) : notRem (lowL t) = notRem t := by
  cases t with
  | nil => rfl
  | cons a t =>
    have h : (lowC a == 40) = (a == 40) := lowC_rem a
    show (!(lowC a == 40)) = (!(a == 40))
    rw [h]
theorem toksL_low (l : List UInt8) : toksL l = ((tokB [] l).takeWhile notRem).map lowL := by
  unfold toksL
  have := tokB_low l []
  rw [show lowL [] = [] from rfl] at this
  rw [this]
  generalize tokB [] l = T
  induction T with
  | nil => rfl
  | cons a T ih =>
    rw [List.map_cons, List.takeWhile_cons, List.takeWhile_cons, notRem_low]
    cases notRem a
    · rfl
    · simp [ih]

/-! ### numbers -/
def digB (l : List UInt8) : Bool := l.all fun c => decide (48 ≤ c.toNat) && decide (c.toNat ≤ 57)
def valL (l : List UInt8) : Int := l.foldl (fun (n : Int) (c : UInt8) => n * 10 + ((c.toNat : Int) - 48)) 0
def numB (l : List UInt8) : Bool := decide (1 ≤ l.length) && (decide (l.length ≤ 4) && digB l)
theorem valL_snoc (l : List UInt8) (c : UInt8) : valL (l ++ [c]) = valL l * 10 + ((c.toNat : Int) - 48) := by simp [valL]
theorem digB_snoc (l : List UInt8) (c : UInt8) : digB (l ++ [c]) = (digB l && (decide (48 ≤ c.toNat) && decide (c.toNat ≤ 57))) := by simp [digB]
theorem digB_take (l : List UInt8) (k : Nat) (h : digB l = true) : digB (l.take k) = true := by
  unfold digB at h ⊢
  rw [List.all_eq_true] at h ⊢
  exact fun x hx => h x (List.mem_of_mem_take hx)
theorem valL_bd : ∀ (k : Nat) (l : List UInt8), l.length = k → digB l = true → 0 ≤ valL l ∧ valL l < (10 : Int) ^ k := by
  intro k
  induction k with
  | zero => intro l h _; obtain rfl := List.eq_nil_of_length_eq_zero h; exact ⟨by decide, by decide⟩
  | succ k ih =>
    intro l h hd
    have hne : l ≠ [] := by intro e; subst e; simp at h
    obtain ⟨a, c, rfl⟩ : ∃ a c, l = a ++ [c] := ⟨l.dropLast, l.getLast hne, (List.dropLast_concat_getLast hne).symm⟩
    rw [digB_snoc, Bool.and_eq_true, Bool.and_eq_true, decide_eq_true_eq, decide_eq_true_eq] at hd
    have := ih a (by simpa using h) hd.1
    rw [valL_snoc, Int.pow_succ]
    omega
theorem valL_bd4 (l : List UInt8) (h : l.length ≤ 4) (hd : digB l = true) : 0 ≤ valL l ∧ valL l ≤ 9999 := by
  have := valL_bd l.length l rfl hd
  have h2 : l.length = 0 ∨ l.length = 1 ∨ l.length = 2 ∨ l.length = 3 ∨ l.length = 4 := by omega
  rcases h2 with e | e | e | e | e <;> rw [e] at this <;> omega

/-! ### what the tokens tell -/
def dayNam : List (List UInt8) := [[116, 104, 117], [102, 114, 105], [115, 97, 116], [115, 117, 110], [109, 111, 110], [116, 117, 101], [119, 101, 100]]
def monNam : List (List UInt8) := [[106, 97, 110], [102, 101, 98], [109, 97, 114], [97, 112, 114], [109, 97, 121], [106, 117, 110], [106, 117, 108], [97, 117, 103], [115, 101, 112], [111, 99, 116], [110, 111, 118], [100, 101, 99]]
/-- 1 to 12; 0: it is none -/
def findV (t : List UInt8) : List (List UInt8) → Int → Int
  | [], _ => 0
  | a :: r, k => if a = t then k + 1 else findV t r (k + 1)
def monV (t : List UInt8) : Int := findV t monNam 0
def isDayN (t : List UInt8) : Bool := decide (0 < findV t dayNam 0)
theorem findV_step (t : List UInt8) (L : List (List UInt8)) (k : Nat) (h : k < L.length) : findV t (L.drop k) k = if L.getD k [] = t then (k : Int) + 1 else findV t (L.drop (k + 1)) ((k + 1 : Nat) : Int) := by
  rw [List.drop_eq_getElem_cons h, findV, List.getD_eq_getElem?_getD, List.getElem?_eq_getElem h]; rfl
theorem findV_end (t : List UInt8) (L : List (List UInt8)) (k : Nat) (h : L.length ≤ k) : findV t (L.drop k) k = 0 := by rw [List.drop_eq_nil_of_le h]; rfl
theorem findV_bd (t : List UInt8) : ∀ (L : List (List UInt8)) (k : Int), 0 ≤ k → 0 ≤ findV t L k ∧ findV t L k ≤ k + L.length
  | [], k, h => by simp [findV]; exact h
  | a :: r, k, h => by
    have ih := findV_bd t r (k + 1) (by omega)
    unfold findV
    simp only [List.length_cons]
    split <;> constructor <;> omega
theorem monV_bd (t : List UInt8) : 0 ≤ monV t ∧ monV t ≤ 12 := findV_bd t monNam 0 (by omega)
def yearV (t : List UInt8) : Option Int :=
  if numB t then (if t.length = 4 then some (valL t) else if t.length = 2 then (if valL t < 50 then some (2000 + valL t) else some (1900 + valL t)) else none) else none
def shortB (a : List UInt8) : Bool := numB a && decide (a.length ≤ 2)
def dayV (a b c : List UInt8) : Option Int :=
  if shortB a then (match yearV c with | some y => if mayB y (monV b) (valL a) then some (daysZ y (monV b) (valL a)) else none | none => none) else none
def belowB (s : List UInt8) (k : Int) : Bool := digB s && (decide (s.length = 2) && decide (valL s < k))
def clockB (h m s : List UInt8) : Bool := belowB h 24 && (belowB m 60 && belowB s 60)
def clockZ (h m s : List UInt8) : Int := valL h * 3600 + valL m * 60 + valL s
def clockV (h m s : List UInt8) : Option Int := if clockB h m s then some (clockZ h m s) else none
def timeV : List UInt8 → Option Int
  | [a, b, x, c, d] => if x = 58 then clockV [a, b] [c, d] [48, 48] else none
  | [a, b, x, c, d, y, e, f] => if x = 58 ∧ y = 58 then clockV [a, b] [c, d] [e, f] else none
  | _ => none
def zonNam : List (List UInt8 × Int) := [([117, 116], 0), ([117, 116, 99], 0), ([103, 109, 116], 0), ([122], 0), ([101, 115, 116], -5), ([101, 100, 116], -4), ([99, 115, 116], -6), ([99, 100, 116], -5), ([109, 115, 116], -7), ([109, 100, 116], -6), ([112, 115, 116], -8), ([112, 100, 116], -7)]
def signV : List UInt8 → Option Int
  | [g, a, b, c, d] => if g = 43 then clockV [a, b] [c, d] [48, 48] else if g = 45 then (clockV [a, b] [c, d] [48, 48]).map (fun x => -x) else none
  | _ => none
def zoneV (t : List UInt8) : Option Int := match zonNam.lookup t with | some h => some (h * 3600) | none => signV t
def fin : Option Int → Option Int → Option Int → Option Int
  | some a, some b, some c => some (a * 86400 + b - c)
  | _, _, _ => none
def readT : List (List UInt8) → Option Int
  | [a, b, c, t] => fin (dayV a b c) (timeV t) (some 0)
  | [a, b, c, t, z] => fin (dayV a b c) (timeV t) (zoneV z)
  | _ => none
def dropDay : List (List UInt8) → List (List UInt8)
  | [] => []
  | a :: r => if isDayN a then r else a :: r
def parseO (l : List UInt8) : Option Int := readT (dropDay (toksL l))

/-! ### what is written -/
def dayUp (n : Int) : List UInt8 := [[84, 104, 117], [70, 114, 105], [83, 97, 116], [83, 117, 110], [77, 111, 110], [84, 117, 101], [87, 101, 100]].getD (n % 7).toNat []
def monUp (m : Int) : List UInt8 := [[74, 97, 110], [70, 101, 98], [77, 97, 114], [65, 112, 114], [77, 97, 121], [74, 117, 110], [74, 117, 108], [65, 117, 103], [83, 101, 112], [79, 99, 116], [78, 111, 118], [68, 101, 99]].getD (m - 1).toNat []
def timeL (t : Int) : List UInt8 := two (t / 3600) ++ 58 :: two (t / 60 % 60) ++ 58 :: two (t % 60)
def dateL (n y m d : Int) : List UInt8 := dayUp n ++ [44, 32] ++ two d ++ [32] ++ monUp m ++ [32] ++ four y
def textL (n y m d t : Int) : List UInt8 := dateL n y m d ++ [32] ++ timeL t ++ [32, 43, 48, 48, 48, 48]
end Go.Proofs.YtiojfknphpnlhaaDoor
