/- More of the first texts of this claim in one: each with its own head. No statement is proved here. -/
import Derived.Test.YtgokefodmjhhiaaGreatDoorBaseO
import Derived.Test.YtgokefodmjhhiaaGreatDoorBaseN
import Derived.Test.YtgokefodmjhhiaaGreatDoorBaseM
import Derived.Test.YtgokefodmjhhiaaGreatDoorShelf
import Derived.Deep.QuietTactic
import Derived.BigQuiet
/- WALK of htok's reader: mark. No statement is proved here. Own work of the verifier. -/
namespace Go.Proofs.YtgokefodmjhhiaaGreatDoor
open Go.RowKit
set_option linter.unusedVariables false
set_option linter.unusedSimpArgs false
set_option maxRecDepth 100000
theorem mark_47E {dec : List UInt8 → List UInt8} (q : List UInt8) : markL dec (47 :: 62 :: q) = (none, [], q) := rfl
theorem mark_47R {dec : List UInt8 → List UInt8} {d : UInt8} (q : List UInt8) (h1 : letterB d = false) (h2 : d ≠ 62) : markL dec (47 :: d :: q) = remL (d :: q) := by
  show (if letterB d = true then endL dec (d :: q) else if d = 62 then (none, [], q) else remL (d :: q)) = _
  rw [if_neg (by rw [h1]; exact Bool.false_ne_true), if_neg h2]
theorem mark_33L {dec : List UInt8 → List UInt8} (b : List UInt8) : markL dec (33 :: 45 :: 45 :: b) = longL b := rfl
theorem mark_33R {dec : List UInt8 → List UInt8} {t : List UInt8} (h : Lib.hasPrefix (33 :: t) [33, 45, 45] = false) : markL dec (33 :: t) = remL t := by
  unfold markL
  simp only
  split
  · simp [Lib.hasPrefix] at h
  · rfl
theorem mark_63 {dec : List UInt8 → List UInt8} (t : List UInt8) : markL dec (63 :: t) = remL (63 :: t) := rfl
theorem mark_S {dec : List UInt8 → List UInt8} {c : UInt8} {t : List UInt8} (h1 : c ≠ 47) (h2 : c ≠ 33) (h3 : c ≠ 63) : markL dec (c :: t) = startL dec (c :: t) := by
  unfold markL
  split
  · rename_i e; exact absurd (List.cons.inj e).1 h1
  · rename_i e; exact absurd (List.cons.inj e).1 h2
  · rename_i e; exact absurd (List.cons.inj e).1 h3
  · rfl
theorem bang_yes {l : List UInt8} (h : Lib.hasPrefix l [33, 45, 45] = true) : ∃ r, l = 33 :: 45 :: 45 :: r ∧ Lib.trimPrefix l [33, 45, 45] = r := by
  have h' := h
  unfold Lib.hasPrefix at h
  obtain ⟨r, hr⟩ := List.isPrefixOf_iff_prefix.1 h
  refine ⟨r, hr.symm, ?_⟩
  unfold Lib.trimPrefix
  rw [h', ← hr]
  rfl
theorem isMark_cases {l : List UInt8} (h : isMarkB l = true) : ∃ c t, l = 60 :: c :: t ∧ (c = 33 ∨ c = 63 ∨ (c = 47 ∧ t ≠ []) ∨ (c ≠ 33 ∧ c ≠ 63 ∧ c ≠ 47)) := by
  match l, h with
  | a :: c :: t, h =>
    by_cases ha : a = 60
    · subst ha
      refine ⟨c, t, rfl, ?_⟩
      rw [isMark_mk] at h
      by_cases h1 : c = 33
      · exact .inl h1
      · by_cases h2 : c = 63
        · exact .inr (.inl h2)
        · by_cases h3 : c = 47
          · rw [if_neg (by rintro (e | e); exact h1 e; exact h2 e), if_pos h3] at h
            refine .inr (.inr (.inl ⟨h3, fun e => ?_⟩))
            rw [e] at h
            cases h
          · exact .inr (.inr (.inr ⟨h1, h2, h3⟩))
    · rw [isMark_head ha] at h; cases h
  | [a], h => rw [isMark_len (by simp)] at h; cases h
  | [], h => rw [isMark_len (by simp)] at h; cases h
set_option maxHeartbeats 8000000 in
theorem mark_any (B b : Nat) (o : Value) (vs : List TokV) (x : List UInt8) (W0 w : World) (s : ByteArray) (m : Int) (h : Rdr B b o vs x W0 w) (hn : vs.length ≤ 1099511627776) (hs : s.size ≤ 16777216) (hE : EnvE w) (hm : w.cell? ⟨0, 0, none⟩ = some (.int .i64 m)) (hmk : isMarkB s.data.toList = true) :
    Calls Tryz.prog 47 #[.pointer (some ⟨b, 0, none⟩), .string s] w fun e w' => e = .returned (.string (str (markL decE (s.data.toList.drop 1)).2.2)) ∧ MarkP B b vs x W0 (markL decE (s.data.toList.drop 1)) w' := by
  obtain ⟨c, t, hl, hc⟩ := isMark_cases hmk
  have hlen := toList_length s
  rw [hl] at hlen
  simp only [List.length_cons] at hlen
  have hd1 : s.data.toList.drop 1 = c :: t := by rw [hl]; rfl
  rw [hd1]
  obtain ⟨RS, hRS⟩ : ∃ RS, s.extract 1 s.size = RS := ⟨_, rfl⟩
  have hRl : RS.data.toList = c :: t := by rw [← hRS, extract_end]; exact hd1
  have hRz : RS.size = t.length + 1 := by rw [← toList_length, hRl]; rfl
  have hR0 : 0 < RS.size := by omega
  have hRc : RS[0] = c := by
    have e := drop_cons RS 0 hR0
    rw [List.drop_zero, hRl] at e
    exact (List.cons.inj e).1.symm
  have hRs : RS.size ≤ 16777216 := by omega
  have r0 : (1 : Int) ≤ s.size := by omega
  clear hmk hl hd1
  rcases hc with hc | hc | ⟨hc, ht⟩ | ⟨h33, h63, h47⟩
  · subst hc
    have t33 : ((RS[0].toNat : Int) == 33) = true := tT 33 hRc (by omega)
    have t47 : ((RS[0].toNat : Int) == 47) = false := tF 47 (by rw [hRc]; decide) (by omega)
    cases hp : Lib.hasPrefix (33 :: t) [33, 45, 45] with
    | true =>
      obtain ⟨q, hq, htr⟩ := bang_yes hp
      obtain ⟨T, hT⟩ : ∃ T : ByteArray, T = str q := ⟨_, rfl⟩
      have HP : Hid (Lib.hasPrefix RS.data.toList (⟨#[33, 45, 45]⟩ : ByteArray).data.toList = true) := hide (by rw [hRl]; exact hp)
      have HT : Hid ((⟨(Lib.trimPrefix RS.data.toList (⟨#[33, 45, 45]⟩ : ByteArray).data.toList).toArray⟩ : ByteArray) = T) := hide (by
        rw [hRl, hT]
        exact congrArg str htr)
      have hql := congrArg List.length hq
      simp only [List.length_cons] at hql
      have hlc := longComment_any B b o vs x W0 w T m h hn (by rw [hT, str_size]; omega) hm
      rw [hT, str_toList, ← hT] at hlc
      obtain ⟨M, hM⟩ : ∃ M : MarkR, M = longL q := ⟨_, rfl⟩
      rw [← hM] at hlc
      have HC := hide hlc
      have HV : Hid (markL decE (33 :: t) = M) := hide (by rw [hq, hM]; exact mark_33L q)
      clear hM
      clear hlc h hE hm hRz hlen hRl hRc hp hq htr hT hql
      go_enter Tryz.func47, Tryz.ntmps47
      go_wp2_with fail
      refine (Tryz.strings_CutPrefix _ _ _).mono ?_
      rintro e w1 ⟨rfl, hw⟩
      subst hw
      rw [HP.out, HT.out]
      go_wp2_with fail
      refine HC.out.mono ?_
      rintro e w2 ⟨rfl, hb⟩
      have HB := hide hb
      clear hb
      go_wp2_with fail
      go_ret
      exact ⟨by rw [HV.out]; rfl, by rw [HV.out]; exact HB.out⟩
    | false =>
      have HP : Hid (Lib.hasPrefix RS.data.toList (⟨#[33, 45, 45]⟩ : ByteArray).data.toList = false) := hide (by rw [hRl]; exact hp)
      obtain ⟨DS, hDS⟩ : ∃ DS, RS.extract 1 RS.size = DS := ⟨_, rfl⟩
      have hDl : DS.data.toList = t := by rw [← hDS, extract_end, hRl]; rfl
      have r1 : (1 : Int) ≤ RS.size := by omega
      have hcm := comment_any B b o vs x W0 w DS h hn (by rw [← toList_length, hDl]; omega)
      rw [hDl] at hcm
      have hv := mark_33R (dec := decE) hp
      obtain ⟨M, hM⟩ : ∃ M : MarkR, M = remL t := ⟨_, rfl⟩
      rw [← hM] at hcm hv
      have HC := hide hcm
      have HV := hide hv
      clear hv hM
      clear hcm h hE hm hRz hlen hRl hRc hp hDl
      go_enter Tryz.func47, Tryz.ntmps47
      go_wp2_with fail
      refine (Tryz.strings_CutPrefix _ _ _).mono ?_
      rintro e w1 ⟨rfl, hw⟩
      subst hw
      rw [HP.out]
      go_wp2_with fail
      refine HC.out.mono ?_
      rintro e w2 ⟨rfl, hb⟩
      have HB := hide hb
      clear hb
      go_wp2_with fail
      go_ret
      exact ⟨by rw [HV.out]; rfl, by rw [HV.out]; exact HB.out⟩
  · subst hc
    have t33 : ((RS[0].toNat : Int) == 33) = false := tF 33 (by rw [hRc]; decide) (by omega)
    have t47 : ((RS[0].toNat : Int) == 47) = false := tF 47 (by rw [hRc]; decide) (by omega)
    have t63 : ((RS[0].toNat : Int) == 63) = true := tT 63 hRc (by omega)
    have hcm := comment_any B b o vs x W0 w RS h hn hRs
    rw [hRl] at hcm
    have hv := mark_63 (dec := decE) t
    obtain ⟨M, hM⟩ : ∃ M : MarkR, M = remL (63 :: t) := ⟨_, rfl⟩
    rw [← hM] at hcm hv
    have HC := hide hcm
    have HV := hide hv
    clear hv hM
    clear hcm h hE hm hRz hlen hRl hRc
    go_enter Tryz.func47, Tryz.ntmps47
    go_wp2_with fail
    refine HC.out.mono ?_
    rintro e w2 ⟨rfl, hb⟩
    have HB := hide hb
    clear hb
    go_wp2_with fail
    go_ret
    exact ⟨by rw [HV.out]; rfl, by rw [HV.out]; exact HB.out⟩
  · subst hc
    have t47 : ((RS[0].toNat : Int) == 47) = true := tT 47 hRc (by omega)
    cases t with
    | nil => exact absurd rfl ht
    | cons d q =>
      have hR1 : 1 < RS.size := by rw [hRz]; simp
      have hRd : RS[1] = d := by
        have e := drop_cons RS 1 hR1
        rw [hRl] at e
        exact (List.cons.inj e).1.symm
      have r1 : (1 : Int) ≤ RS.size := by omega
      obtain ⟨DS, hDS⟩ : ∃ DS, RS.extract 1 RS.size = DS := ⟨_, rfl⟩
      have hDl : DS.data.toList = d :: q := by rw [← hDS, extract_end, hRl]; rfl
      have hDz : DS.size ≤ 16777216 := by
        rw [← toList_length, hDl]
        simp only [List.length_cons] at hRz ⊢
        omega
      have HL := hide (fun w2 => letterW_any RS[1] w2)
      rw [hRd] at HL
      cases hle : letterB d with
      | true =>
        rw [hle] at HL
        have hen := end_any B b o vs x W0 w DS h hn hDz hE
        rw [hDl] at hen
        have hv := markL_end (dec := decE) hle q
        obtain ⟨M, hM⟩ : ∃ M : MarkR, M = endL decE (d :: q) := ⟨_, rfl⟩
        rw [← hM] at hen hv
        have HC := hide hen
        have HV := hide hv
        clear hv hM
        have HRD := hide hRd
        clear hen h hE hm hRz hlen hRl hRc hDl hle hRd
        go_enter Tryz.func47, Tryz.ntmps47
        go_wp2_with fail
        rw [HRD.out]
        refine (HL.out _).mono ?_
        rintro e w1 ⟨rfl, rfl⟩
        go_wp2_with fail
        refine HC.out.mono ?_
        rintro e w2 ⟨rfl, hb⟩
        have HB := hide hb
        clear hb
        go_wp2_with fail
        go_ret
        exact ⟨by rw [HV.out]; rfl, by rw [HV.out]; exact HB.out⟩
      | false =>
        rw [hle] at HL
        have HRD := hide hRd
        by_cases h62 : d = 62
        · subst h62
          obtain ⟨T, hT⟩ : ∃ T : ByteArray, T = str q := ⟨_, rfl⟩
          have hp : Lib.hasPrefix (62 :: q) [62] = true := by rw [hasPrefix_q]; rfl
          have HP : Hid (Lib.hasPrefix DS.data.toList (⟨#[62]⟩ : ByteArray).data.toList = true) := hide (by rw [hDl]; exact hp)
          have HT : Hid ((⟨(Lib.trimPrefix DS.data.toList (⟨#[62]⟩ : ByteArray).data.toList).toArray⟩ : ByteArray) = T) := hide (by
            rw [hDl, hT]
            unfold Lib.trimPrefix
            rw [show (⟨#[62]⟩ : ByteArray).data.toList = [62] from rfl, hp]
            rfl)
          have HV := hide (mark_47E (dec := decE) q)
          have HTE := hide hT
          have HM := hide (MarkP.none (l := q) h)
          clear h hE hm hRz hlen hRl hRc hDl hle hRd hT hp
          go_enter Tryz.func47, Tryz.ntmps47
          go_wp2_with fail
          rw [HRD.out]
          refine (HL.out _).mono ?_
          rintro e w1 ⟨rfl, rfl⟩
          go_wp2_with fail
          refine (Tryz.strings_CutPrefix _ _ _).mono ?_
          rintro e w1 ⟨rfl, hw⟩
          subst hw
          rw [HP.out, HT.out]
          go_wp2_with fail
          go_ret
          exact ⟨by rw [HV.out, HTE.out]; rfl, by rw [HV.out]; exact HM.out⟩
        · have HP : Hid (Lib.hasPrefix DS.data.toList (⟨#[62]⟩ : ByteArray).data.toList = false) := hide (by rw [hDl, show (⟨#[62]⟩ : ByteArray).data.toList = [62] from rfl, hasPrefix_q]; exact decide_eq_false h62)
          have HP2 : Hid (Lib.hasPrefix RS.data.toList (⟨#[33, 45, 45]⟩ : ByteArray).data.toList = false) := hide (by rw [hRl]; rfl)
          have hcm := comment_any B b o vs x W0 w DS h hn hDz
          rw [hDl] at hcm
          have hv := mark_47R (dec := decE) q hle h62
          obtain ⟨M, hM⟩ : ∃ M : MarkR, M = remL (d :: q) := ⟨_, rfl⟩
          rw [← hM] at hcm hv
          have HC := hide hcm
          have HV := hide hv
          clear hv hM
          clear hcm h hE hm hRz hlen hRl hRc hDl hle hRd
          go_enter Tryz.func47, Tryz.ntmps47
          go_wp2_with fail
          rw [HRD.out]
          refine (HL.out _).mono ?_
          rintro e w1 ⟨rfl, rfl⟩
          go_wp2_with fail
          refine (Tryz.strings_CutPrefix _ _ _).mono ?_
          rintro e w1 ⟨rfl, hw⟩
          subst hw
          rw [HP.out]
          go_wp2_with fail
          refine (Tryz.strings_CutPrefix _ _ _).mono ?_
          rintro e w1 ⟨rfl, hw⟩
          subst hw
          rw [HP2.out]
          go_wp2_with fail
          refine HC.out.mono ?_
          rintro e w2 ⟨rfl, hb⟩
          have HB := hide hb
          clear hb
          go_wp2_with fail
          go_ret
          exact ⟨by rw [HV.out]; rfl, by rw [HV.out]; exact HB.out⟩
  · have t33 : ((RS[0].toNat : Int) == 33) = false := tF 33 (by rw [hRc]; exact h33) (by omega)
    have t47 : ((RS[0].toNat : Int) == 47) = false := tF 47 (by rw [hRc]; exact h47) (by omega)
    have t63 : ((RS[0].toNat : Int) == 63) = false := tF 63 (by rw [hRc]; exact h63) (by omega)
    have hst := start_any B b o vs x W0 w RS h hn hRs hE
    rw [hRl] at hst
    have hv := mark_S (dec := decE) (t := t) h47 h33 h63
    obtain ⟨M, hM⟩ : ∃ M : MarkR, M = startL decE (c :: t) := ⟨_, rfl⟩
    rw [← hM] at hst hv
    have HC := hide hst
    have HV := hide hv
    clear hv hM
    clear hst h hE hm hRz hlen hRl hRc
    go_enter Tryz.func47, Tryz.ntmps47
    go_wp2_with fail
    refine HC.out.mono ?_
    rintro e w2 ⟨rfl, hb⟩
    have HB := hide hb
    clear hb
    go_wp2_with fail
    go_ret
    exact ⟨by rw [HV.out]; rfl, by rw [HV.out]; exact HB.out⟩
end Go.Proofs.YtgokefodmjhhiaaGreatDoor

/- The trie of ent.Text's replacer in memory; WALK of (*strings.genericReplacer).lookup at it. No statement is proved here. -/
namespace Go.Proofs.YtgokefodmjhhiaaGreatDoor
open Go.RowKit
set_option linter.unusedVariables false
set_option linter.unusedSimpArgs false
set_option maxRecDepth 100000
/-- a byte's place in the trie's tables; 5: it has none -/
def mapC (c : UInt8) : Nat := if c = 38 then 0 else if c = 60 then 1 else if c = 62 then 2 else if c = 160 then 3 else if c = 194 then 4 else 5
def ampT : List UInt8 := [38, 97, 109, 112, 59]
def ltT : List UInt8 := [38, 108, 116, 59]
def gtT : List UInt8 := [38, 103, 116, 59]
def nbT : List UInt8 := [38, 110, 98, 115, 112, 59]
/-- a node: value, priority, prefix, next, table -/
def Node (w : World) (b : Nat) (val : ByteArray) (prio : Int) (pre : ByteArray) (nx : Option Addr) (tab : Value) : Prop :=
  w.cell? ⟨b, 0, none⟩ = some (.string val) ∧ w.cell? ⟨b, 1, none⟩ = some (.int .i64 prio) ∧ w.cell? ⟨b, 2, none⟩ = some (.string pre) ∧ w.cell? ⟨b, 3, none⟩ = some (.pointer nx) ∧ w.cell? ⟨b, 4, none⟩ = some tab
/-- the trie in blocks G (the replacer), T (its table), n0 .. n5 (nodes) -/
structure Trie (w : World) (G T n0 n1 n2 n4 n5 : Nat) : Prop where
  root : Node w G ⟨#[]⟩ 0 ⟨#[]⟩ none (.slice (some ⟨T, 0, none⟩) 5 5)
  size : w.cell? ⟨G, 5, none⟩ = some (.int .i64 5)
  map : ∀ c : UInt8, w.cell? ⟨G, 6 + c.toNat, none⟩ = some (.int .u8 (mapC c))
  t0 : w.cell? ⟨T, 0, none⟩ = some (.pointer (some ⟨n0, 0, none⟩))
  t1 : w.cell? ⟨T, 1, none⟩ = some (.pointer (some ⟨n1, 0, none⟩))
  t2 : w.cell? ⟨T, 2, none⟩ = some (.pointer (some ⟨n2, 0, none⟩))
  t3 : w.cell? ⟨T, 3, none⟩ = some (.pointer none)
  t4 : w.cell? ⟨T, 4, none⟩ = some (.pointer (some ⟨n4, 0, none⟩))
  k0 : Node w n0 (str ampT) 8 ⟨#[]⟩ none (.slice none 0 0)
  k1 : Node w n1 (str ltT) 6 ⟨#[]⟩ none (.slice none 0 0)
  k2 : Node w n2 (str gtT) 4 ⟨#[]⟩ none (.slice none 0 0)
  k4 : Node w n4 ⟨#[]⟩ 0 ⟨#[160]⟩ (some ⟨n5, 0, none⟩) (.slice none 0 0)
  k5 : Node w n5 (str nbT) 2 ⟨#[]⟩ none (.slice none 0 0)
/-- what stands for the begin of a text, and how many bytes that has -/
def lookL : List UInt8 → Option (List UInt8 × Nat)
  | 38 :: _ => some (ampT, 1)
  | 60 :: _ => some (ltT, 1)
  | 62 :: _ => some (gtT, 1)
  | 194 :: 160 :: _ => some (nbT, 2)
  | _ => none
theorem below_drewN (w : World) (n : Nat) : Below w.heap.size w (w.drewN n) := ⟨rfl, rfl, rfl, Nat.le_refl _, fun _ _ => rfl⟩
def lookV : Option (List UInt8 × Nat) → Value
  | some (t, n) => .tuple #[.string (str t), .int .i64 n, .bool true]
  | none => .tuple #[.string ⟨#[]⟩, .int .i64 0, .bool false]
def LookP (s : ByteArray) (w : World) (e : Ending) (w' : World) : Prop := e = .returned (lookV (lookL s.data.toList)) ∧ Below w.heap.size w w'
theorem chr_lt (c : UInt8) : c.toNat < 256 := c.toBitVec.isLt
theorem mapC_none {c : UInt8} (ho : c ≠ 38 ∧ c ≠ 60 ∧ c ≠ 62 ∧ c ≠ 160 ∧ c ≠ 194) : mapC c = 5 := by
  obtain ⟨a, b, d, e, f⟩ := ho
  rw [mapC, if_neg a, if_neg b, if_neg d, if_neg e, if_neg f]
theorem look_none {c : UInt8} {r : List UInt8} (ho : c ≠ 38 ∧ c ≠ 60 ∧ c ≠ 62 ∧ c ≠ 160 ∧ c ≠ 194) : lookL (c :: r) = none := by
  obtain ⟨a, b, d, e, f⟩ := ho
  unfold lookL
  split <;> first | rfl | (rename_i h; injection h with h1 h2; exact absurd h1 (by assumption))
theorem look_194n {a : UInt8} {r : List UInt8} (h : a ≠ 160) : lookL (194 :: a :: r) = none := by
  unfold lookL
  split <;> first | rfl | (rename_i h'; injection h' with h1 h2; first | (injection h2 with h3 h4; exact absurd h3 h) | exact absurd h1 (by decide))

set_option maxHeartbeats 4000000 in
theorem look_nil (s : ByteArray) (G T n0 n1 n2 n4 n5 : Nat) (w : World) (h : Trie w G T n0 n1 n2 n4 n5) (hl : s.data.toList = []) :
    Calls Tryz.prog 283 #[.pointer (some ⟨G, 0, none⟩), .string s, .bool false] w (LookP s w) := by
  have HT := hide h
  obtain ⟨r0, r1, r2, r3, r4⟩ := h.root
  have rs := h.size
  clear h
  have z := size0 (t := s) (by rw [← toList_length, hl]; rfl)
  have q1 := z.2
  have HL := hide hl
  clear z hl
  go_enter Tryz.func283, Tryz.ntmps283
  go_wp2_with fail
  go_loop [1, 6, 7, 8, 9, 10, 11] (fun sv a1 a2 a3 bv nd nv => sv = .string s ∧ a1 = .string ⟨#[]⟩ ∧ a2 = .int .i64 0 ∧ a3 = .bool false ∧ bv = .int .i64 0 ∧ nd = .pointer (some ⟨G, 0, none⟩) ∧ nv = .int .i64 0) (fun _ _ _ _ _ _ _ => 0)
  case atStart => exact ⟨rfl, rfl, rfl, rfl, rfl, rfl, rfl⟩
  case round =>
    obtain ⟨rfl, rfl, rfl, rfl, rfl, rfl, rfl⟩ := hrel
    go_wp2_with fail
    go_ret3
    exact ⟨by rw [HL.out]; rfl, Below.refl _ _⟩

set_option maxHeartbeats 4000000 in
theorem look_38 (s : ByteArray) (G T n0 n1 n2 n4 n5 : Nat) (w : World) (h : Trie w G T n0 n1 n2 n4 n5) (r : List UInt8) (hl : s.data.toList = 38 :: r) :
    Calls Tryz.prog 283 #[.pointer (some ⟨G, 0, none⟩), .string s, .bool false] w (LookP s w) := by
  have HT := hide h
  obtain ⟨r0, r1, r2, r3, r4⟩ := h.root
  have rs := h.size
  clear h
  have h0 : 0 < s.size := by rw [← toList_length, hl]; exact Nat.succ_pos _
  have hs0 : s[0] = 38 := by
    have := drop_cons s 0 h0
    rw [List.drop_zero, hl] at this
    injection this with e _; exact e.symm
  have q1 : s.toList.isEmpty = false := by rw [bytes_list, hl]; rfl
  have hm1 : w.cell? ⟨G, 6 + s[0].toNat, none⟩ = some (.int .u8 0) := by rw [HT.out.map s[0], hs0]; rfl
  have b1 : s[0].toNat < 256 := chr_lt _
  have b2 : (s[0].toNat : Int) < 256 := by omega
  have k1 : (1 : Int) ≤ s.size := by omega
  have hd : (s.extract 1 s.size).data.toList = r := by rw [extract_end, hl]; rfl
  have HL := hide hl
  clear hl hs0
  have tj := HT.out.t0
  obtain ⟨p0, p1, p2, p3, p4⟩ := HT.out.k0
  obtain ⟨VT, hVT⟩ : ∃ VT, VT = str ampT := ⟨_, rfl⟩
  rw [← hVT] at p0
  have HVT := hide hVT
  clear hVT hd
  go_enter Tryz.func283, Tryz.ntmps283
  go_wp2_with fail
  go_loopw [1, 6, 7, 8, 9, 10, 11] (fun sv a1 a2 a3 bv nd nv wr => (a1 = .string ⟨#[]⟩ ∧ a2 = .int .i64 0 ∧ a3 = .bool false ∧ bv = .int .i64 0) ∧ (∃ m, Hid (wr = w.drewN m)) ∧ ((sv = .string s ∧ nd = .pointer (some ⟨G, 0, none⟩) ∧ nv = .int .i64 0) ∨ (sv = .string (s.extract 1 s.size) ∧ nd = .pointer (some ⟨n0, 0, none⟩) ∧ nv = .int .i64 1))) (fun _ _ _ _ _ _ nv _ => 3 - (intOf nv).toNat)
  case atStart => exact ⟨⟨rfl, rfl, rfl, rfl⟩, ⟨0, hide rfl⟩, .inl ⟨rfl, rfl, rfl⟩⟩
  case round =>
    obtain ⟨⟨rfl, rfl, rfl, rfl⟩, ⟨m, HW⟩, ⟨rfl, rfl, rfl⟩ | ⟨rfl, rfl, rfl⟩⟩ := hrel
    · have hw := HW.out
      clear HW
      subst hw
      go_wp2_with fail
      go_quiet (fail)
      go_wp2_with fail
      go_roundw
      case rel => exact ⟨⟨rfl, rfl, rfl, rfl⟩, ⟨_, hide rfl⟩, .inr ⟨rfl, rfl, rfl⟩⟩
      case measure => simp [intOf]
    · have hw := HW.out
      clear HW
      subst hw
      cases hz : (s.extract 1 s.size).toList.isEmpty
      · go_wp2_with fail
        go_ret3
        exact ⟨by rw [HL.out, HVT.out]; rfl, below_drewN _ _⟩
      · go_wp2_with fail
        go_ret3
        exact ⟨by rw [HL.out, HVT.out]; rfl, below_drewN _ _⟩

set_option maxHeartbeats 4000000 in
theorem look_60 (s : ByteArray) (G T n0 n1 n2 n4 n5 : Nat) (w : World) (h : Trie w G T n0 n1 n2 n4 n5) (r : List UInt8) (hl : s.data.toList = 60 :: r) :
    Calls Tryz.prog 283 #[.pointer (some ⟨G, 0, none⟩), .string s, .bool false] w (LookP s w) := by
  have HT := hide h
  obtain ⟨r0, r1, r2, r3, r4⟩ := h.root
  have rs := h.size
  clear h
  have h0 : 0 < s.size := by rw [← toList_length, hl]; exact Nat.succ_pos _
  have hs0 : s[0] = 60 := by
    have := drop_cons s 0 h0
    rw [List.drop_zero, hl] at this
    injection this with e _; exact e.symm
  have q1 : s.toList.isEmpty = false := by rw [bytes_list, hl]; rfl
  have hm1 : w.cell? ⟨G, 6 + s[0].toNat, none⟩ = some (.int .u8 1) := by rw [HT.out.map s[0], hs0]; rfl
  have b1 : s[0].toNat < 256 := chr_lt _
  have b2 : (s[0].toNat : Int) < 256 := by omega
  have k1 : (1 : Int) ≤ s.size := by omega
  have hd : (s.extract 1 s.size).data.toList = r := by rw [extract_end, hl]; rfl
  have HL := hide hl
  clear hl hs0
  have tj := HT.out.t1
  obtain ⟨p0, p1, p2, p3, p4⟩ := HT.out.k1
  obtain ⟨VT, hVT⟩ : ∃ VT, VT = str ltT := ⟨_, rfl⟩
  rw [← hVT] at p0
  have HVT := hide hVT
  clear hVT hd
  go_enter Tryz.func283, Tryz.ntmps283
  go_wp2_with fail
  go_loopw [1, 6, 7, 8, 9, 10, 11] (fun sv a1 a2 a3 bv nd nv wr => (a1 = .string ⟨#[]⟩ ∧ a2 = .int .i64 0 ∧ a3 = .bool false ∧ bv = .int .i64 0) ∧ (∃ m, Hid (wr = w.drewN m)) ∧ ((sv = .string s ∧ nd = .pointer (some ⟨G, 0, none⟩) ∧ nv = .int .i64 0) ∨ (sv = .string (s.extract 1 s.size) ∧ nd = .pointer (some ⟨n1, 0, none⟩) ∧ nv = .int .i64 1))) (fun _ _ _ _ _ _ nv _ => 3 - (intOf nv).toNat)
  case atStart => exact ⟨⟨rfl, rfl, rfl, rfl⟩, ⟨0, hide rfl⟩, .inl ⟨rfl, rfl, rfl⟩⟩
  case round =>
    obtain ⟨⟨rfl, rfl, rfl, rfl⟩, ⟨m, HW⟩, ⟨rfl, rfl, rfl⟩ | ⟨rfl, rfl, rfl⟩⟩ := hrel
    · have hw := HW.out
      clear HW
      subst hw
      go_wp2_with fail
      go_quiet (fail)
      go_wp2_with fail
      go_roundw
      case rel => exact ⟨⟨rfl, rfl, rfl, rfl⟩, ⟨_, hide rfl⟩, .inr ⟨rfl, rfl, rfl⟩⟩
      case measure => simp [intOf]
    · have hw := HW.out
      clear HW
      subst hw
      cases hz : (s.extract 1 s.size).toList.isEmpty
      · go_wp2_with fail
        go_ret3
        exact ⟨by rw [HL.out, HVT.out]; rfl, below_drewN _ _⟩
      · go_wp2_with fail
        go_ret3
        exact ⟨by rw [HL.out, HVT.out]; rfl, below_drewN _ _⟩

set_option maxHeartbeats 4000000 in
theorem look_62 (s : ByteArray) (G T n0 n1 n2 n4 n5 : Nat) (w : World) (h : Trie w G T n0 n1 n2 n4 n5) (r : List UInt8) (hl : s.data.toList = 62 :: r) :
    Calls Tryz.prog 283 #[.pointer (some ⟨G, 0, none⟩), .string s, .bool false] w (LookP s w) := by
  have HT := hide h
  obtain ⟨r0, r1, r2, r3, r4⟩ := h.root
  have rs := h.size
  clear h
  have h0 : 0 < s.size := by rw [← toList_length, hl]; exact Nat.succ_pos _
  have hs0 : s[0] = 62 := by
    have := drop_cons s 0 h0
    rw [List.drop_zero, hl] at this
    injection this with e _; exact e.symm
  have q1 : s.toList.isEmpty = false := by rw [bytes_list, hl]; rfl
  have hm1 : w.cell? ⟨G, 6 + s[0].toNat, none⟩ = some (.int .u8 2) := by rw [HT.out.map s[0], hs0]; rfl
  have b1 : s[0].toNat < 256 := chr_lt _
  have b2 : (s[0].toNat : Int) < 256 := by omega
  have k1 : (1 : Int) ≤ s.size := by omega
  have hd : (s.extract 1 s.size).data.toList = r := by rw [extract_end, hl]; rfl
  have HL := hide hl
  clear hl hs0
  have tj := HT.out.t2
  obtain ⟨p0, p1, p2, p3, p4⟩ := HT.out.k2
  obtain ⟨VT, hVT⟩ : ∃ VT, VT = str gtT := ⟨_, rfl⟩
  rw [← hVT] at p0
  have HVT := hide hVT
  clear hVT hd
  go_enter Tryz.func283, Tryz.ntmps283
  go_wp2_with fail
  go_loopw [1, 6, 7, 8, 9, 10, 11] (fun sv a1 a2 a3 bv nd nv wr => (a1 = .string ⟨#[]⟩ ∧ a2 = .int .i64 0 ∧ a3 = .bool false ∧ bv = .int .i64 0) ∧ (∃ m, Hid (wr = w.drewN m)) ∧ ((sv = .string s ∧ nd = .pointer (some ⟨G, 0, none⟩) ∧ nv = .int .i64 0) ∨ (sv = .string (s.extract 1 s.size) ∧ nd = .pointer (some ⟨n2, 0, none⟩) ∧ nv = .int .i64 1))) (fun _ _ _ _ _ _ nv _ => 3 - (intOf nv).toNat)
  case atStart => exact ⟨⟨rfl, rfl, rfl, rfl⟩, ⟨0, hide rfl⟩, .inl ⟨rfl, rfl, rfl⟩⟩
  case round =>
    obtain ⟨⟨rfl, rfl, rfl, rfl⟩, ⟨m, HW⟩, ⟨rfl, rfl, rfl⟩ | ⟨rfl, rfl, rfl⟩⟩ := hrel
    · have hw := HW.out
      clear HW
      subst hw
      go_wp2_with fail
      go_quiet (fail)
      go_wp2_with fail
      go_roundw
      case rel => exact ⟨⟨rfl, rfl, rfl, rfl⟩, ⟨_, hide rfl⟩, .inr ⟨rfl, rfl, rfl⟩⟩
      case measure => simp [intOf]
    · have hw := HW.out
      clear HW
      subst hw
      cases hz : (s.extract 1 s.size).toList.isEmpty
      · go_wp2_with fail
        go_ret3
        exact ⟨by rw [HL.out, HVT.out]; rfl, below_drewN _ _⟩
      · go_wp2_with fail
        go_ret3
        exact ⟨by rw [HL.out, HVT.out]; rfl, below_drewN _ _⟩

set_option maxHeartbeats 4000000 in
theorem look_160 (s : ByteArray) (G T n0 n1 n2 n4 n5 : Nat) (w : World) (h : Trie w G T n0 n1 n2 n4 n5) (r : List UInt8) (hl : s.data.toList = 160 :: r) :
    Calls Tryz.prog 283 #[.pointer (some ⟨G, 0, none⟩), .string s, .bool false] w (LookP s w) := by
  have HT := hide h
  obtain ⟨r0, r1, r2, r3, r4⟩ := h.root
  have rs := h.size
  clear h
  have h0 : 0 < s.size := by rw [← toList_length, hl]; exact Nat.succ_pos _
  have hs0 : s[0] = 160 := by
    have := drop_cons s 0 h0
    rw [List.drop_zero, hl] at this
    injection this with e _; exact e.symm
  have q1 : s.toList.isEmpty = false := by rw [bytes_list, hl]; rfl
  have hm1 : w.cell? ⟨G, 6 + s[0].toNat, none⟩ = some (.int .u8 3) := by rw [HT.out.map s[0], hs0]; rfl
  have b1 : s[0].toNat < 256 := chr_lt _
  have b2 : (s[0].toNat : Int) < 256 := by omega
  have k1 : (1 : Int) ≤ s.size := by omega
  have hd : (s.extract 1 s.size).data.toList = r := by rw [extract_end, hl]; rfl
  have HL := hide hl
  clear hl hs0
  have tj := HT.out.t3
  clear hd
  go_enter Tryz.func283, Tryz.ntmps283
  go_wp2_with fail
  go_loopw [1, 6, 7, 8, 9, 10, 11] (fun sv a1 a2 a3 bv nd nv wr => (a1 = .string ⟨#[]⟩ ∧ a2 = .int .i64 0 ∧ a3 = .bool false ∧ bv = .int .i64 0) ∧ (∃ m, Hid (wr = w.drewN m)) ∧ ((sv = .string s ∧ nd = .pointer (some ⟨G, 0, none⟩) ∧ nv = .int .i64 0) ∨ (sv = .string (s.extract 1 s.size) ∧ nd = .pointer none ∧ nv = .int .i64 1))) (fun _ _ _ _ _ _ nv _ => 3 - (intOf nv).toNat)
  case atStart => exact ⟨⟨rfl, rfl, rfl, rfl⟩, ⟨0, hide rfl⟩, .inl ⟨rfl, rfl, rfl⟩⟩
  case round =>
    obtain ⟨⟨rfl, rfl, rfl, rfl⟩, ⟨m, HW⟩, ⟨rfl, rfl, rfl⟩ | ⟨rfl, rfl, rfl⟩⟩ := hrel
    · have hw := HW.out
      clear HW
      subst hw
      go_wp2_with fail
      go_quiet (fail)
      go_wp2_with fail
      go_roundw
      case rel => exact ⟨⟨rfl, rfl, rfl, rfl⟩, ⟨_, hide rfl⟩, .inr ⟨rfl, rfl, rfl⟩⟩
      case measure => simp [intOf]
    · have hw := HW.out
      clear HW
      subst hw
      go_wp2_with fail
      go_ret3
      exact ⟨by rw [HL.out]; rfl, below_drewN _ _⟩

set_option maxHeartbeats 4000000 in
theorem look_other (s : ByteArray) (G T n0 n1 n2 n4 n5 : Nat) (w : World) (h : Trie w G T n0 n1 n2 n4 n5) (c : UInt8) (r : List UInt8) (hl : s.data.toList = c :: r) (ho : c ≠ 38 ∧ c ≠ 60 ∧ c ≠ 62 ∧ c ≠ 160 ∧ c ≠ 194) :
    Calls Tryz.prog 283 #[.pointer (some ⟨G, 0, none⟩), .string s, .bool false] w (LookP s w) := by
  have HT := hide h
  obtain ⟨r0, r1, r2, r3, r4⟩ := h.root
  have rs := h.size
  clear h
  have h0 : 0 < s.size := by rw [← toList_length, hl]; exact Nat.succ_pos _
  have hs0 : s[0] = c := by
    have := drop_cons s 0 h0
    rw [List.drop_zero, hl] at this
    injection this with e _; exact e.symm
  have q1 : s.toList.isEmpty = false := by rw [bytes_list, hl]; rfl
  have hm1 : w.cell? ⟨G, 6 + s[0].toNat, none⟩ = some (.int .u8 5) := by rw [HT.out.map s[0], hs0]; rw [mapC_none ho]; rfl
  have b1 : s[0].toNat < 256 := chr_lt _
  have b2 : (s[0].toNat : Int) < 256 := by omega
  have k1 : (1 : Int) ≤ s.size := by omega
  have hd : (s.extract 1 s.size).data.toList = r := by rw [extract_end, hl]; rfl
  have HL := hide hl
  clear hl hs0
  clear hd
  go_enter Tryz.func283, Tryz.ntmps283
  go_wp2_with fail
  go_loopw [1, 6, 7, 8, 9, 10, 11] (fun sv a1 a2 a3 bv nd nv wr => (sv = .string s ∧ nd = .pointer (some ⟨G, 0, none⟩) ∧ nv = .int .i64 0) ∧ (a1 = .string ⟨#[]⟩ ∧ a2 = .int .i64 0 ∧ a3 = .bool false ∧ bv = .int .i64 0) ∧ Hid (wr = w)) (fun _ _ _ _ _ _ _ _ => 0)
  case atStart => exact ⟨⟨rfl, rfl, rfl⟩, ⟨rfl, rfl, rfl, rfl⟩, hide rfl⟩
  case round =>
    obtain ⟨⟨rfl, rfl, rfl⟩, ⟨rfl, rfl, rfl, rfl⟩, HW⟩ := hrel
    have hw := HW.out
    clear HW
    subst hw
    go_wp2_with fail
    go_quiet (fail)
    go_wp2_with fail
    go_ret3
    exact ⟨by rw [HL.out, look_none ho]; rfl, below_drewN _ _⟩

set_option maxHeartbeats 4000000 in
theorem look_194 (s : ByteArray) (G T n0 n1 n2 n4 n5 : Nat) (w : World) (h : Trie w G T n0 n1 n2 n4 n5) (r : List UInt8) (hl : s.data.toList = 194 :: r) :
    Calls Tryz.prog 283 #[.pointer (some ⟨G, 0, none⟩), .string s, .bool false] w (LookP s w) := by
  have HT := hide h
  obtain ⟨r0, r1, r2, r3, r4⟩ := h.root
  have rs := h.size
  clear h
  have h0 : 0 < s.size := by rw [← toList_length, hl]; exact Nat.succ_pos _
  have hs0 : s[0] = 194 := by
    have := drop_cons s 0 h0
    rw [List.drop_zero, hl] at this
    injection this with e _; exact e.symm
  have q1 : s.toList.isEmpty = false := by rw [bytes_list, hl]; rfl
  have hm1 : w.cell? ⟨G, 6 + s[0].toNat, none⟩ = some (.int .u8 4) := by rw [HT.out.map s[0], hs0]; rfl
  have b1 : s[0].toNat < 256 := chr_lt _
  have b2 : (s[0].toNat : Int) < 256 := by omega
  have k1 : (1 : Int) ≤ s.size := by omega
  have hd : (s.extract 1 s.size).data.toList = r := by rw [extract_end, hl]; rfl
  have HL := hide hl
  clear hl hs0
  have tj := HT.out.t4
  obtain ⟨p0, p1, p2, p3, p4⟩ := HT.out.k4
  obtain ⟨o0, o1, o2, o3, o4⟩ := HT.out.k5
  obtain ⟨VT, hVT⟩ : ∃ VT, VT = str nbT := ⟨_, rfl⟩
  rw [← hVT] at o0
  have HVT := hide hVT
  obtain ⟨S1, hS1⟩ : ∃ S1, S1 = s.extract 1 s.size := ⟨_, rfl⟩
  have hd1 : S1.data.toList = r := by rw [hS1]; exact hd
  cases hp : Lib.hasPrefix S1.data.toList [160] with
  | true =>
    obtain ⟨r1, hr1⟩ : ∃ r1, r = 160 :: r1 := by
      rw [hd1] at hp
      cases r with
      | nil => simp [Lib.hasPrefix] at hp
      | cons a r1 => exact ⟨r1, by simp [Lib.hasPrefix] at hp; rw [hp]⟩
    have q2 : S1.toList.isEmpty = false := by rw [bytes_list, hd1, hr1]; rfl
    have k2 : (1 : Int) ≤ S1.size := by
      have : 0 < S1.size := by rw [← toList_length, hd1, hr1]; exact Nat.succ_pos _
      omega
    have HR := hide hr1
    have HC := hide (Tryz.strings_HasPrefix S1 ⟨#[160]⟩)
    have HP := hide hp
    have HS := hide hS1
    clear hVT hd hr1 hd1 hp hS1
    go_enter Tryz.func283, Tryz.ntmps283
    go_wp2_with fail
    go_loopw [1, 6, 7, 8, 9, 10, 11] (fun sv a1 a2 a3 bv nd nv wr => (a1 = .string ⟨#[]⟩ ∧ a2 = .int .i64 0 ∧ a3 = .bool false ∧ bv = .int .i64 0) ∧ (∃ m, Hid (wr = w.drewN m)) ∧ ((sv = .string s ∧ nd = .pointer (some ⟨G, 0, none⟩) ∧ nv = .int .i64 0) ∨ (sv = .string S1 ∧ nd = .pointer (some ⟨n4, 0, none⟩) ∧ nv = .int .i64 1) ∨ (∃ S2, sv = .string S2 ∧ nd = .pointer (some ⟨n5, 0, none⟩) ∧ nv = .int .i64 2))) (fun _ _ _ _ _ _ nv _ => 3 - (intOf nv).toNat)
    case atStart => exact ⟨⟨rfl, rfl, rfl, rfl⟩, ⟨0, hide rfl⟩, .inl ⟨rfl, rfl, rfl⟩⟩
    case round =>
      obtain ⟨⟨rfl, rfl, rfl, rfl⟩, ⟨m, HW⟩, ⟨rfl, rfl, rfl⟩ | ⟨rfl, rfl, rfl⟩ | ⟨S2, rfl, rfl, rfl⟩⟩ := hrel
      · have hw := HW.out
        clear HW
        subst hw
        go_wp2_with fail
        go_quiet (fail)
        go_wp2_with fail
        go_roundw
        case rel => exact ⟨⟨rfl, rfl, rfl, rfl⟩, ⟨_, hide rfl⟩, .inr (.inl ⟨by rw [← HS.out], rfl, rfl⟩)⟩
        case measure => simp [intOf]
      · have hw := HW.out
        clear HW
        subst hw
        go_wp2_with (refine (HC.out _).mono ?_; rintro e w1 ⟨rfl, rfl⟩; rw [show Lib.hasPrefix S1.data.toList (⟨#[160]⟩ : ByteArray).data.toList = true from HP.out])
        go_roundw
        case rel => exact ⟨⟨rfl, rfl, rfl, rfl⟩, ⟨_, hide rfl⟩, .inr (.inr ⟨_, rfl, rfl, rfl⟩)⟩
        case measure => simp [intOf]
      · have hw := HW.out
        clear HW
        subst hw
        cases hz : S2.toList.isEmpty
        · go_wp2_with fail
          go_ret3
          exact ⟨by rw [HL.out, HVT.out, HR.out]; rfl, below_drewN _ _⟩
        · go_wp2_with fail
          go_ret3
          exact ⟨by rw [HL.out, HVT.out, HR.out]; rfl, below_drewN _ _⟩
  | false =>
    have hR : lookL (194 :: r) = none := by
      rw [hd1] at hp
      cases r with
      | nil => rfl
      | cons a r1 => exact look_194n (by rintro rfl; simp [Lib.hasPrefix] at hp)
    have HR := hide hR
    have HC := hide (Tryz.strings_HasPrefix S1 ⟨#[160]⟩)
    have HP := hide hp
    have HS := hide hS1
    clear hVT hd hd1 hp hR hS1
    go_enter Tryz.func283, Tryz.ntmps283
    go_wp2_with fail
    go_loopw [1, 6, 7, 8, 9, 10, 11] (fun sv a1 a2 a3 bv nd nv wr => (a1 = .string ⟨#[]⟩ ∧ a2 = .int .i64 0 ∧ a3 = .bool false ∧ bv = .int .i64 0) ∧ (∃ m, Hid (wr = w.drewN m)) ∧ ((sv = .string s ∧ nd = .pointer (some ⟨G, 0, none⟩) ∧ nv = .int .i64 0) ∨ (sv = .string S1 ∧ nd = .pointer (some ⟨n4, 0, none⟩) ∧ nv = .int .i64 1))) (fun _ _ _ _ _ _ nv _ => 3 - (intOf nv).toNat)
    case atStart => exact ⟨⟨rfl, rfl, rfl, rfl⟩, ⟨0, hide rfl⟩, .inl ⟨rfl, rfl, rfl⟩⟩
    case round =>
      obtain ⟨⟨rfl, rfl, rfl, rfl⟩, ⟨m, HW⟩, ⟨rfl, rfl, rfl⟩ | ⟨rfl, rfl, rfl⟩⟩ := hrel
      · have hw := HW.out
        clear HW
        subst hw
        go_wp2_with fail
        go_quiet (fail)
        go_wp2_with fail
        go_roundw
        case rel => exact ⟨⟨rfl, rfl, rfl, rfl⟩, ⟨_, hide rfl⟩, .inr ⟨by rw [← HS.out], rfl, rfl⟩⟩
        case measure => simp [intOf]
      · have hw := HW.out
        clear HW
        subst hw
        cases hz : S1.toList.isEmpty
        · go_wp2_with (refine (HC.out _).mono ?_; rintro e w1 ⟨rfl, rfl⟩; rw [show Lib.hasPrefix S1.data.toList (⟨#[160]⟩ : ByteArray).data.toList = false from HP.out])
          go_ret3
          exact ⟨by rw [HL.out, HR.out]; rfl, below_drewN _ _⟩
        · go_wp2_with fail
          go_ret3
          exact ⟨by rw [HL.out, HR.out]; rfl, below_drewN _ _⟩

theorem look_any (s : ByteArray) (G T n0 n1 n2 n4 n5 : Nat) (w : World) (h : Trie w G T n0 n1 n2 n4 n5) :
    Calls Tryz.prog 283 #[.pointer (some ⟨G, 0, none⟩), .string s, .bool false] w (LookP s w) := by
  cases hl : s.data.toList with
  | nil => exact look_nil s G T n0 n1 n2 n4 n5 w h hl
  | cons c r =>
    by_cases e1 : c = 38
    · subst e1; exact look_38 s G T n0 n1 n2 n4 n5 w h r hl
    by_cases e2 : c = 60
    · subst e2; exact look_60 s G T n0 n1 n2 n4 n5 w h r hl
    by_cases e3 : c = 62
    · subst e3; exact look_62 s G T n0 n1 n2 n4 n5 w h r hl
    by_cases e4 : c = 160
    · subst e4; exact look_160 s G T n0 n1 n2 n4 n5 w h r hl
    by_cases e5 : c = 194
    · subst e5; exact look_194 s G T n0 n1 n2 n4 n5 w h r hl
    exact look_other s G T n0 n1 n2 n4 n5 w h c r hl ⟨e1, e2, e3, e4, e5⟩
end Go.Proofs.YtgokefodmjhhiaaGreatDoor

/- WALKS of (*strings.appendSliceWriter).WriteString and strings.getStringWriter. No statement is proved here. -/
namespace Go.Proofs.YtgokefodmjhhiaaGreatDoor
open Go.RowKit
set_option linter.unusedVariables false
set_option linter.unusedSimpArgs false
set_option maxRecDepth 100000
/-- an appendSliceWriter in block b that has gathered the bytes l -/
def WBuf (B b : Nat) (l : List UInt8) (W0 w : World) : Prop := B ≤ b ∧ ∃ v, Box w b 279 v ∧ Buf B v l W0 w
theorem WBuf.drewN {B b : Nat} {l : List UInt8} {W0 w : World} (h : WBuf B b l W0 w) (n : Nat) : WBuf B b l W0 (w.drewN n) := by
  obtain ⟨hB, v, h1, h2⟩ := h
  exact ⟨hB, v, h1.drewN n, h2.drewN n⟩
theorem WBuf.below {B b : Nat} {l : List UInt8} {W0 w : World} (h : WBuf B b l W0 w) : Below B W0 w := by
  obtain ⟨hB, v, h1, h2⟩ := h
  exact h2.below
theorem WBuf.kept {B b : Nat} {l : List UInt8} {W0 w w' : World} (h : WBuf B b l W0 w) (hb : Below w.heap.size w w') : WBuf B b l W0 w' := by
  obtain ⟨hB, v, h1, h2⟩ := h
  exact ⟨hB, v, h1.below hb h1.lt, h2.kept hb⟩
/-- append of a text to a row of a named type -/
theorem wpList_wbuf_text {ops : Array Oper} {rest : List Oper} {o : Oper} {a : Act} {Q : Exit → Act → World → Prop} {w : World} (hgd : o.guard = none) (sl x : Operand)
    (ho : o.op = .call { callee := .builtin .append, args := #[sl, x], argTypes := #[279, 9] })
    (B : Nat) (v : Value) (l : List UInt8) (hs : a.eval sl = v) (W0 : World) (hb : Buf B v l W0 w) (s : ByteArray) (hx : a.eval x = .string s) (hlen : l.length + s.size ≤ 140737488355328)
    (h : ∀ v' w', Buf B v' (l ++ s.data.toList) W0 w' → w.grownBy w' v.ownBlock → wpList Tryz.prog ops Q rest (a.put o.dst v') w') : wpList Tryz.prog ops Q (o :: rest) a w := by
  obtain ⟨i0, hi, hz0, hz1, hz2⟩ := info_parts info_u8
  refine Lib.wpList_append_own_string w hgd sl x 279 9 ho B 5 i0 Tryz.underlying279 Tryz.underlying9 hi hz0 hz1 hz2 v l.length (cellsOf l) hs hb.1 s hx (by unfold maxLen; omega) hlen hb.2.2 ?_
  intro v' w' ho' hg _
  refine h v' w' (hb.grown (l' := l ++ s.data.toList) ?_ hg) hg
  rw [List.length_append, toList_length, cellsOf, List.map_append]
  exact ho'
set_option maxHeartbeats 1000000 in
theorem appender_any (B b : Nat) (l : List UInt8) (s : ByteArray) (W0 w : World) (h : WBuf B b l W0 w) (hlen : l.length + s.size ≤ 140737488355328) :
    Calls Tryz.prog 293 #[.pointer (some ⟨b, 0, none⟩), .string s] w fun e w' => e = .returned (.tuple #[.int .i64 s.size, .nilIface]) ∧ WBuf B b (l ++ s.data.toList) W0 w' := by
  obtain ⟨hB, v, hbx, hbf⟩ := h
  have c0 := hbx.cell
  have HBX := hide hbx
  have HBF := hide hbf
  clear hbx hbf
  go_enter Tryz.func293, Tryz.ntmps293
  go_wp2_with (refine wpList_wbuf_text rfl _ _ rfl B v l rfl W0 HBF.out s rfl hlen ?_; intro v' w2 hbf2 hgr; have hbx2 : Box w2 b 279 v := (kept_own HBF.out hgr) b _ v (by decide) HBX.out; have f2 := hbx2.free; have d2 := hbx2.cell; have HF2 := hide hbf2; have HX2 := hide hbx2; clear hbf2 hgr hbx2; obtain ⟨A, n, c, rfl⟩ := HF2.out.slice)
  go_ret2
  exact ⟨rfl, hB, _, HX2.out.set _, HF2.out.setBox HX2.out (by decide) hB _⟩
theorem assert_writer (a : Addr) (w : World) : (Instr.typeAssert (.iface 280 (.pointer (some a))) 282 284 true).run Tryz.prog w = .ok (.tuple #[.iface 280 (.pointer (some a)), .bool true]) w := by kernel_rfl
set_option maxHeartbeats 1000000 in
theorem getWriter_any (b : Nat) (w : World) :
    Calls Tryz.prog 282 #[.iface 280 (.pointer (some ⟨b, 0, none⟩))] w fun e w' => e = .returned (.iface 280 (.pointer (some ⟨b, 0, none⟩))) ∧ w' = w := by
  have hta := assert_writer
  go_enter Tryz.func282, Tryz.ntmps282
  go_wp2_with fail
  go_ret
  exact ⟨rfl, rfl⟩
theorem meth_append (a : Addr) (w : World) : (method 392 280 (.pointer (some a)) "WriteString").run Tryz.prog w = .ok (293, .pointer (some a)) w := by kernel_rfl
end Go.Proofs.YtgokefodmjhhiaaGreatDoor

/- WALK of (*strings.genericReplacer).WriteString at the trie of ent.Text. No statement is proved here. -/
namespace Go.Proofs.YtgokefodmjhhiaaGreatDoor
open Go.RowKit
set_option linter.unusedVariables false
set_option linter.unusedSimpArgs false
set_option maxRecDepth 100000
/-- a text with its four signs written as entities -/
def escG : List UInt8 → List UInt8
  | [] => []
  | c :: r => match lookL (c :: r) with
    | some (t, n) => t ++ escG (r.drop (n - 1))
    | none => c :: escG r
termination_by l => l.length
decreasing_by all_goals simp; try omega
theorem lookL_some {l : List UInt8} {t : List UInt8} {n : Nat} (h : lookL l = some (t, n)) : 1 ≤ n ∧ n ≤ 2 ∧ n ≤ l.length ∧ t.length ≤ 6 ∧ t ≠ [] := by
  unfold lookL at h
  split at h <;> first | (injection h with h; injection h with h1 h2; subst h1 h2; refine ⟨by omega, by omega, by simp, by decide, by decide⟩) | cases h
theorem escG_some {l : List UInt8} {t : List UInt8} {n : Nat} (h : lookL l = some (t, n)) : escG l = t ++ escG (l.drop n) := by
  have hp := lookL_some h
  cases l with
  | nil => simp [lookL] at h
  | cons c r =>
    rw [escG, h]
    obtain ⟨k, rfl⟩ : ∃ k, n = k + 1 := ⟨n - 1, by omega⟩
    rfl
theorem escG_none {c : UInt8} {r : List UInt8} (h : lookL (c :: r) = none) : escG (c :: r) = c :: escG r := by
  rw [escG, h]
theorem escG_len : ∀ (k : Nat) (l : List UInt8), l.length ≤ k → (escG l).length ≤ 6 * l.length
  | 0, l, h => by
    have : l = [] := List.eq_nil_of_length_eq_zero (by omega)
    subst this; rw [escG]; simp
  | k + 1, [], h => by rw [escG]; simp
  | k + 1, c :: r, h => by
    cases e : lookL (c :: r) with
    | none =>
      rw [escG_none e]
      have := escG_len k r (by simp at h; omega)
      simp only [List.length_cons]; omega
    | some p =>
      obtain ⟨t, n⟩ := p
      have hp := lookL_some e
      rw [escG_some e]
      have := escG_len k ((c :: r).drop n) (by rw [List.length_drop]; simp at h ⊢; omega)
      rw [List.length_append]
      rw [List.length_drop] at this
      omega
theorem Trie.below {w w' : World} {G T n0 n1 n2 n4 n5 B : Nat} (h : Trie w G T n0 n1 n2 n4 n5) (hb : Below B w w') (hB : G < B ∧ T < B ∧ n0 < B ∧ n1 < B ∧ n2 < B ∧ n4 < B ∧ n5 < B) : Trie w' G T n0 n1 n2 n4 n5 := by
  have key : ∀ (b o : Nat), b < B → w'.cell? ⟨b, o, none⟩ = w.cell? ⟨b, o, none⟩ := fun b o hb' => hb.cell (p := ⟨b, o, none⟩) hb'
  have kn : ∀ {b val prio pre nx tab}, b < B → Node w b val prio pre nx tab → Node w' b val prio pre nx tab := by
    intro b val prio pre nx tab hb' ⟨a0, a1, a2, a3, a4⟩
    exact ⟨(key _ _ hb').trans a0, (key _ _ hb').trans a1, (key _ _ hb').trans a2, (key _ _ hb').trans a3, (key _ _ hb').trans a4⟩
  obtain ⟨b0, b1, b2, b3, b4, b5, b6⟩ := hB
  exact ⟨kn b0 h.root, (key _ _ b0).trans h.size, fun c => (key _ _ b0).trans (h.map c), (key _ _ b1).trans h.t0, (key _ _ b1).trans h.t1, (key _ _ b1).trans h.t2, (key _ _ b1).trans h.t3, (key _ _ b1).trans h.t4, kn b2 h.k0, kn b3 h.k1, kn b4 h.k2, kn b5 h.k4, kn b6 h.k5⟩
theorem Trie.drewN {w : World} {G T n0 n1 n2 n4 n5 : Nat} (h : Trie w G T n0 n1 n2 n4 n5) (n : Nat) : Trie (w.drewN n) G T n0 n1 n2 n4 n5 := ⟨h.1, h.2, h.3, h.4, h.5, h.6, h.7, h.8, h.9, h.10, h.11, h.12, h.13⟩
/-- where the table leads on -/
theorem Trie.on {w : World} {G T n0 n1 n2 n4 n5 : Nat} (h : Trie w G T n0 n1 n2 n4 n5) {c : UInt8} (hc : c = 38 ∨ c = 60 ∨ c = 62 ∨ c = 194) :
    ∃ j nx : Nat, j < 5 ∧ w.cell? ⟨G, 6 + c.toNat, none⟩ = some (.int .u8 (j : Int)) ∧ w.cell? ⟨T, j, none⟩ = some (.pointer (some ⟨nx, 0, none⟩)) := by
  rcases hc with rfl | rfl | rfl | rfl
  · exact ⟨0, n0, by omega, h.map 38, h.t0⟩
  · exact ⟨1, n1, by omega, h.map 60, h.t1⟩
  · exact ⟨2, n2, by omega, h.map 62, h.t2⟩
  · exact ⟨4, n4, by omega, h.map 194, h.t4⟩
theorem look_off {c : UInt8} {r : List UInt8} (hc : ¬(c = 38 ∨ c = 60 ∨ c = 62 ∨ c = 194)) : lookL (c :: r) = none := by
  unfold lookL
  split <;> first | rfl | (rename_i h; injection h with h1 h2; exact absurd h1 (by intro e; exact hc (by simp [e])))
/-- i bytes are seen, acc is written for the first m of them -/
def WInv (L : List UInt8) (i m : Nat) (acc : List UInt8) : Prop := m ≤ i ∧ i ≤ L.length + 1 ∧ m ≤ L.length ∧ acc ++ (L.take i).drop m ++ escG (L.drop i) = escG L
theorem WInv.skip {L : List UInt8} {i m : Nat} {acc : List UInt8} (h : WInv L i m acc) (hi : i < L.length) (hn : lookL (L.drop i) = none) : WInv L (i + 1) m acc := by
  obtain ⟨h1, h2, h3, h4⟩ := h
  refine ⟨by omega, by omega, h3, ?_⟩
  rw [← h4]
  have e : L.drop i = L[i] :: L.drop (i + 1) := List.drop_eq_getElem_cons hi
  rw [e] at hn ⊢
  rw [escG_none hn, List.take_add_one, List.getElem?_eq_getElem hi, List.drop_append_of_le_length (by rw [List.length_take]; omega)]
  simp
theorem WInv.last {L : List UInt8} {m : Nat} {acc : List UInt8} (h : WInv L L.length m acc) : WInv L (L.length + 1) m acc := by
  obtain ⟨h1, h2, h3, h4⟩ := h
  refine ⟨by omega, by omega, h3, ?_⟩
  rw [← h4, List.take_of_length_le (Nat.le_succ _), List.take_length, List.drop_length, List.drop_eq_nil_of_le (Nat.le_succ _)]
theorem WInv.hit {L : List UInt8} {i m n : Nat} {acc t : List UInt8} (h : WInv L i m acc) (hn : lookL (L.drop i) = some (t, n)) : i + n ≤ L.length ∧ WInv L (i + n) (i + n) (acc ++ (L.take i).drop m ++ t) := by
  obtain ⟨h1, h2, h3, h4⟩ := h
  have hp := lookL_some hn
  rw [List.length_drop] at hp
  refine ⟨by omega, by omega, by omega, by omega, ?_⟩
  rw [← h4, escG_some hn, List.drop_drop, show (L.take (i + n)).drop (i + n) = [] from List.drop_eq_nil_of_le (by rw [List.length_take]; omega)]
  simp
theorem WInv.len {L : List UInt8} {i m : Nat} {acc : List UInt8} (h : WInv L i m acc) : acc.length ≤ 6 * L.length := by
  have := escG_len L.length L (Nat.le_refl _)
  rw [← h.2.2.2] at this
  simp only [List.length_append] at this
  omega
theorem WInv.fin {L : List UInt8} {m : Nat} {acc : List UInt8} (h : WInv L (L.length + 1) m acc) : acc ++ L.drop m = escG L := by
  obtain ⟨h1, h2, h3, h4⟩ := h
  rw [← h4, List.take_of_length_le (Nat.le_succ _), show L.drop (L.length + 1) = [] from List.drop_eq_nil_of_le (Nat.le_succ _)]
  simp [escG]
end Go.Proofs.YtgokefodmjhhiaaGreatDoor

/- What ent.Text and ent.Value write, as lists, and what ent.Decode reads of it. No statement is proved here. -/
namespace Go.Proofs.YtgokefodmjhhiaaGreatDoor
open Go.RowKit
set_option linter.unusedVariables false
set_option linter.unusedSimpArgs false
set_option maxRecDepth 100000
def quT : List UInt8 := [38, 113, 117, 111, 116, 59]
/-- a text written; q: as a value -/
def escQ (q : Bool) : List UInt8 → List UInt8
  | [] => []
  | c :: r => if q = true ∧ c = 34 then quT ++ escQ q r else match lookL (c :: r) with
    | some (t, n) => t ++ escQ q (r.drop (n - 1))
    | none => c :: escQ q r
termination_by l => l.length
decreasing_by all_goals simp; try omega
theorem look_forms {l t : List UInt8} {n : Nat} (h : lookL l = some (t, n)) : ∃ r, (l = 38 :: r ∧ t = ampT ∧ n = 1) ∨ (l = 60 :: r ∧ t = ltT ∧ n = 1) ∨ (l = 62 :: r ∧ t = gtT ∧ n = 1) ∨ (l = 194 :: 160 :: r ∧ t = nbT ∧ n = 2) := by
  unfold lookL at h
  split at h <;> first
    | (rename_i r; injection h with h; injection h with h1 h2; subst h1 h2; exact ⟨r, by simp⟩)
    | cases h
theorem escQ_nil (q : Bool) : escQ q [] = [] := by rw [escQ]
theorem escQ_quote (r : List UInt8) : escQ true (34 :: r) = quT ++ escQ true r := by rw [escQ, if_pos ⟨rfl, rfl⟩]
theorem escQ_some {q : Bool} {l t : List UInt8} {n : Nat} (h : lookL l = some (t, n)) : escQ q l = t ++ escQ q (l.drop n) := by
  obtain ⟨r, ⟨rfl, rfl, rfl⟩ | ⟨rfl, rfl, rfl⟩ | ⟨rfl, rfl, rfl⟩ | ⟨rfl, rfl, rfl⟩⟩ := look_forms h
  all_goals
    rw [escQ, if_neg (by intro e; exact absurd e.2 (by decide)), h]
    rfl
theorem escQ_none {q : Bool} {c : UInt8} {r : List UInt8} (h : lookL (c :: r) = none) (hq : ¬(q = true ∧ c = 34)) : escQ q (c :: r) = c :: escQ q r := by
  rw [escQ, if_neg hq, h]
theorem esc_ind (q : Bool) {P : List UInt8 → Prop} (h0 : P []) (hq : q = true → ∀ r, P r → P (34 :: r)) (hs : ∀ l t n, lookL l = some (t, n) → P (l.drop n) → P l) (hn : ∀ c r, lookL (c :: r) = none → ¬(q = true ∧ c = 34) → P r → P (c :: r)) : ∀ (k : Nat) (l : List UInt8), l.length ≤ k → P l
  | _, [], _ => h0
  | 0, c :: r, h => absurd h (by simp)
  | k + 1, c :: r, h => by
    by_cases e : q = true ∧ c = 34
    · obtain ⟨e1, rfl⟩ := e
      exact hq e1 r (esc_ind q h0 hq hs hn k r (by simpa using h))
    · cases hl : lookL (c :: r) with
      | none => exact hn c r hl e (esc_ind q h0 hq hs hn k r (by simpa using h))
      | some p =>
        obtain ⟨t, n⟩ := p
        have hp := lookL_some hl
        exact hs _ t n hl (esc_ind q h0 hq hs hn k _ (by rw [List.length_drop]; simp only [List.length_cons] at h ⊢; omega))
theorem escG_Q (l : List UInt8) : escG l = escQ false l := by
  refine esc_ind false (P := fun l => escG l = escQ false l) ?_ ?_ ?_ ?_ l.length l (Nat.le_refl _)
  · rw [escQ_nil, escG]
  · intro h; cases h
  · intro l t n h ih
    rw [escQ_some h, escG_some h, ih]
  · intro c r h hq ih
    rw [escQ_none h hq, escG_none h, ih]
theorem look_off38 {c : UInt8} {r : List UInt8} (h : lookL (c :: r) = none) : c ≠ 38 ∧ c ≠ 60 ∧ c ≠ 62 := by
  refine ⟨?_, ?_, ?_⟩ <;> (rintro rfl; cases h)
/-! ### reading -/
theorem before_app {c : UInt8} {k : List UInt8} (hk : c ∉ k) (X : List UInt8) : beforeC c (k ++ c :: X) = k ∧ afterC c (k ++ c :: X) = X ∧ hasC c (k ++ c :: X) = true := by
  refine ⟨?_, ?_, by simp [hasC]⟩
  · induction k with
    | nil => simp [beforeC]
    | cons a k ih =>
      have h1 : (a != c) = true := by rw [bne_iff_ne]; rintro rfl; exact hk (by simp)
      have h2 := ih (fun h => hk (List.mem_cons_of_mem _ h))
      unfold beforeC at h2 ⊢
      rw [List.cons_append, List.takeWhile_cons, h1]
      simp only [if_true]
      rw [h2]
  · induction k with
    | nil => simp [afterC]
    | cons a k ih =>
      have h1 : (a != c) = true := by rw [bne_iff_ne]; rintro rfl; exact hk (by simp)
      have h2 := ih (fun h => hk (List.mem_cons_of_mem _ h))
      unfold afterC at h2 ⊢
      rw [List.cons_append, List.dropWhile_cons, h1]
      simp only [if_true]
      exact h2
theorem cons_off {c : UInt8} (hc : c ≠ 38) (r : List UInt8) : beforeC 38 (c :: r) = c :: beforeC 38 r ∧ afterC 38 (c :: r) = afterC 38 r ∧ hasC 38 (c :: r) = hasC 38 r := by
  have h1 : (c != 38) = true := by rw [bne_iff_ne]; exact hc
  refine ⟨?_, ?_, ?_⟩
  · unfold beforeC; rw [List.takeWhile_cons, h1]; rfl
  · unfold afterC; rw [List.dropWhile_cons, h1]; rfl
  · unfold hasC
    congr 1
    rw [List.mem_cons, eq_iff_iff]
    exact ⟨fun h => h.elim (fun e => absurd e.symm hc) id, .inr⟩
theorem decE_nil : decE [] = [] := decE_no rfl
theorem decE_cons {c : UInt8} (hc : c ≠ 38) (r : List UInt8) : decE (c :: r) = c :: decE r := by
  obtain ⟨e1, e2, e3⟩ := cons_off hc r
  cases h : hasC 38 r with
  | false => rw [decE_no h, decE_no (e3.trans h)]
  | true => rw [decE_yes h, decE_yes (e3.trans h), e1, e2, List.cons_append]
theorem decE_amp (r : List UInt8) : decE (38 :: r) = if 0 < (refN r).2 then runeL (refN r).1 ++ decE (r.drop (refN r).2) else 38 :: decE r := by
  have e1 : beforeC 38 (38 :: r) = [] := by simp [beforeC]
  have e2 : afterC 38 (38 :: r) = r := by simp [afterC]
  rw [decE_yes (by simp [hasC]), e1, e2, List.nil_append]
theorem refN_at {k : List UInt8} (hk : (59 : UInt8) ∉ k) (hl : k.length ≤ 8) (X : List UInt8) : refN (k ++ 59 :: X) = match sgn k with | some x => (x, k.length + 1) | none => (0, 0) := by
  have e : (k ++ 59 :: X).take 9 = k ++ 59 :: X.take (8 - k.length) := by
    rw [List.take_append, List.take_of_length_le (by omega)]
    obtain ⟨m, hm⟩ : ∃ m, 9 - k.length = m + 1 := ⟨8 - k.length, by omega⟩
    rw [hm, List.take_succ_cons, show m = 8 - k.length by omega]
  obtain ⟨e1, e2, e3⟩ := before_app hk (X.take (8 - k.length))
  unfold refN
  rw [e, e1, e3]
  cases sgn k <;> rfl
theorem dec_ref {k : List UInt8} {x : Int} (hk : (59 : UInt8) ∉ k) (hl : k.length ≤ 8) (hs : sgn k = some x) (X : List UInt8) : decE (38 :: (k ++ 59 :: X)) = runeL x ++ decE X := by
  rw [decE_amp, refN_at hk hl, hs]
  simp only
  rw [if_pos (Nat.succ_pos _), show (k ++ 59 :: X).drop (k.length + 1) = X by rw [List.drop_append]; simp]
theorem dec_esc (q : Bool) (l : List UInt8) : decE (escQ q l) = l := by
  refine esc_ind q (P := fun l => decE (escQ q l) = l) ?_ ?_ ?_ ?_ l.length l (Nat.le_refl _)
  · rw [escQ_nil, decE_nil]
  · rintro rfl r ih
    rw [escQ_quote]
    have := dec_ref (k := [113, 117, 111, 116]) (x := 34) (by decide) (by decide) (by decide) (escQ true r)
    rw [ih] at this
    exact this
  · intro l t n h ih
    rw [escQ_some h]
    obtain ⟨r, ⟨rfl, rfl, rfl⟩ | ⟨rfl, rfl, rfl⟩ | ⟨rfl, rfl, rfl⟩ | ⟨rfl, rfl, rfl⟩⟩ := look_forms h
    · have := dec_ref (k := [97, 109, 112]) (x := 38) (by decide) (by decide) (by decide) (escQ q r)
      exact this.trans (congrArg _ ih)
    · have := dec_ref (k := [108, 116]) (x := 60) (by decide) (by decide) (by decide) (escQ q r)
      exact this.trans (congrArg _ ih)
    · have := dec_ref (k := [103, 116]) (x := 62) (by decide) (by decide) (by decide) (escQ q r)
      exact this.trans (congrArg _ ih)
    · have := dec_ref (k := [110, 98, 115, 112]) (x := 160) (by decide) (by decide) (by decide) (escQ q r)
      exact this.trans (congrArg _ ih)
  · intro c r h hq ih
    rw [escQ_none h hq, decE_cons (look_off38 h).1, ih]
theorem esc_inj (q : Bool) {a b : List UInt8} (h : escQ q a = escQ q b) : a = b := by rw [← dec_esc q a, h, dec_esc]
/-! ### the size of what is read -/
theorem name_one (c : UInt8) : nameN [c] = none := u8_all (p := fun c => nameN [c] = none) (by decide +kernel) c
theorem sgn_two {k : List UInt8} {x : Int} (h : sgn k = some x) : 2 ≤ k.length := by
  match k, h with
  | [], h => rw [show sgn [] = none by decide] at h; cases h
  | [c], h =>
    by_cases hc : c = 35
    · subst hc
      rw [show sgn [35] = none by decide] at h; cases h
    · unfold sgn at h
      split at h
      · rename_i hp
        have : 35 = c := by simpa [Lib.hasPrefix] using hp
        exact absurd this.symm hc
      · rw [name_one] at h; cases h
  | _ :: _ :: _, _ => simp
theorem refN_three {l : List UInt8} (h : 0 < (refN l).2) : 3 ≤ (refN l).2 := by
  unfold refN at h ⊢
  split
  · rename_i x h1 h2
    have := sgn_two h1
    show 3 ≤ _ + 1
    omega
  · rename_i hno
    split at h
    · rename_i x h1 h2
      exact absurd h2 (by intro h2; exact hno x h1 h2)
    · exact absurd h (by decide)
theorem decE_len : ∀ (k : Nat) (l : List UInt8), l.length ≤ k → (decE l).length ≤ l.length
  | _, [], _ => by rw [decE_nil]; exact Nat.le_refl _
  | 0, c :: r, h => absurd h (by simp)
  | k + 1, c :: r, h => by
    by_cases hc : c = 38
    · subst hc
      rw [decE_amp]
      split
      · rename_i hn
        have h3 := refN_three hn
        have hle := (refN_ok r).2
        have hr := (runeL_length (refN r).1).2.1
        have := decE_len k (r.drop (refN r).2) (by rw [List.length_drop]; simp only [List.length_cons] at h; omega)
        rw [List.length_drop] at this
        rw [List.length_append, List.length_cons]
        omega
      · have := decE_len k r (by simpa using h)
        simp only [List.length_cons]; omega
    · have := decE_len k r (by simpa using h)
      rw [decE_cons hc]
      simp only [List.length_cons]; omega
/-! ### one behind the other -/
theorem look_app {c : UInt8} {r : List UInt8} (h : lookL (c :: r) = none) (hr : c ≠ 194 ∨ r ≠ []) (b : List UInt8) : lookL (c :: (r ++ b)) = none := by
  obtain ⟨h1, h2, h3⟩ := look_off38 h
  by_cases hc : c = 194
  · subst hc
    match r, hr with
    | a :: r, _ =>
      refine look_194n ?_
      rintro rfl
      cases h
  · exact look_off (by rintro (e | e | e | e) <;> first | exact h1 e | exact h2 e | exact h3 e | exact hc e)
theorem look_app_some {l t : List UInt8} {n : Nat} (h : lookL l = some (t, n)) (b : List UInt8) : lookL (l ++ b) = some (t, n) := by
  obtain ⟨r, ⟨rfl, rfl, rfl⟩ | ⟨rfl, rfl, rfl⟩ | ⟨rfl, rfl, rfl⟩ | ⟨rfl, rfl, rfl⟩⟩ := look_forms h
  all_goals rfl
theorem esc_app (q : Bool) (a b : List UInt8) : a.getLast? ≠ some 194 → escQ q (a ++ b) = escQ q a ++ escQ q b := by
  refine esc_ind q (P := fun a => a.getLast? ≠ some 194 → escQ q (a ++ b) = escQ q a ++ escQ q b) ?_ ?_ ?_ ?_ a.length a (Nat.le_refl _)
  · intro _
    rw [escQ_nil]; rfl
  · rintro rfl r ih hl
    rw [List.cons_append, escQ_quote, escQ_quote, ih ?_, List.append_assoc]
    intro e; apply hl
    rw [List.getLast?_cons, e]; rfl
  · intro l t n h ih hl
    have hp := lookL_some h
    rw [escQ_some h, escQ_some (look_app_some h b), List.drop_append_of_le_length hp.2.2.1, ih ?_, List.append_assoc]
    intro e; apply hl
    have hd : l = l.take n ++ l.drop n := (List.take_append_drop n l).symm
    rw [hd, List.getLast?_append, e]; rfl
  · intro c r h hq ih hl
    have hr : c ≠ 194 ∨ r ≠ [] := by
      by_cases hc : c = 194
      · refine .inr ?_
        rintro rfl
        exact hl (by rw [hc]; rfl)
      · exact .inl hc
    rw [List.cons_append, escQ_none (look_app h hr b) hq, escQ_none h hq, ih ?_]
    · rfl
    intro e; apply hl
    rw [List.getLast?_cons, e]; rfl
/-! ### what stands in it -/
theorem esc_no (q : Bool) (l : List UInt8) : ∀ c ∈ escQ q l, c ≠ 60 ∧ c ≠ 62 ∧ (q = true → c ≠ 34) := by
  refine esc_ind q (P := fun l => ∀ c ∈ escQ q l, c ≠ 60 ∧ c ≠ 62 ∧ (q = true → c ≠ 34)) ?_ ?_ ?_ ?_ l.length l (Nat.le_refl _)
  · intro c h; rw [escQ_nil] at h; cases h
  · rintro rfl r ih c h
    rw [escQ_quote, List.mem_append] at h
    rcases h with h | h
    · have : ∀ c ∈ quT, c ≠ 60 ∧ c ≠ 62 ∧ c ≠ 34 := by decide
      obtain ⟨a1, a2, a3⟩ := this c h
      exact ⟨a1, a2, fun _ => a3⟩
    · exact ih c h
  · intro l t n h ih c hc
    rw [escQ_some h, List.mem_append] at hc
    rcases hc with hc | hc
    · have : ∀ c ∈ t, c ≠ 60 ∧ c ≠ 62 ∧ c ≠ 34 := by
        obtain ⟨r, ⟨rfl, rfl, rfl⟩ | ⟨rfl, rfl, rfl⟩ | ⟨rfl, rfl, rfl⟩ | ⟨rfl, rfl, rfl⟩⟩ := look_forms h <;> decide
      obtain ⟨a1, a2, a3⟩ := this c hc
      exact ⟨a1, a2, fun _ => a3⟩
    · exact ih c hc
  · intro c r h hq ih x hx
    rw [escQ_none h hq, List.mem_cons] at hx
    rcases hx with rfl | hx
    · obtain ⟨h1, h2, h3⟩ := look_off38 h
      exact ⟨h2, h3, fun e => fun e' => hq ⟨e, e'⟩⟩
    · exact ih x hx
/-- what stands behind a reference's sign that was written -/
def GoodR (r : List UInt8) : Prop := ∃ k X, r = k ++ 59 :: X ∧ (k = [97, 109, 112] ∨ k = [108, 116] ∨ k = [103, 116] ∨ k = [110, 98, 115, 112] ∨ k = [113, 117, 111, 116])
theorem good_app {k : List UInt8} (hk : k = [97, 109, 112] ∨ k = [108, 116] ∨ k = [103, 116] ∨ k = [110, 98, 115, 112] ∨ k = [113, 117, 111, 116]) {E : List UInt8} (ih : ∀ i r, E.drop i = 38 :: r → GoodR r) : ∀ i r, (38 :: (k ++ 59 :: E)).drop i = 38 :: r → GoodR r := by
  intro i r h
  cases i with
  | zero =>
    injection h with _ h
    exact ⟨k, E, h.symm, hk⟩
  | succ i =>
    rw [List.drop_succ_cons] at h
    by_cases hi : i < (k ++ [59]).length
    · exfalso
      have e : k ++ 59 :: E = (k ++ [59]) ++ E := by simp
      rw [e, List.drop_append_of_le_length (Nat.le_of_lt hi)] at h
      have h0 := List.drop_eq_getElem_cons hi
      rw [h0] at h
      injection h with h1 _
      have hm : (38 : UInt8) ∈ k ++ [59] := h1 ▸ List.getElem_mem hi
      rcases hk with rfl | rfl | rfl | rfl | rfl <;> exact absurd hm (by decide)
    · have e : k ++ 59 :: E = (k ++ [59]) ++ E := by simp
      rw [e, List.drop_append, List.drop_eq_nil_of_le (by omega), List.nil_append] at h
      exact ih _ r h
theorem esc_good (q : Bool) (l : List UInt8) : ∀ i r, (escQ q l).drop i = 38 :: r → GoodR r := by
  refine esc_ind q (P := fun l => ∀ i r, (escQ q l).drop i = 38 :: r → GoodR r) ?_ ?_ ?_ ?_ l.length l (Nat.le_refl _)
  · intro i r h; rw [escQ_nil] at h; simp at h
  · rintro rfl r ih
    rw [escQ_quote]
    exact good_app (.inr (.inr (.inr (.inr rfl)))) ih
  · intro l t n h ih
    rw [escQ_some h]
    obtain ⟨r, ⟨rfl, rfl, rfl⟩ | ⟨rfl, rfl, rfl⟩ | ⟨rfl, rfl, rfl⟩ | ⟨rfl, rfl, rfl⟩⟩ := look_forms h
    · exact good_app (.inl rfl) ih
    · exact good_app (.inr (.inl rfl)) ih
    · exact good_app (.inr (.inr (.inl rfl))) ih
    · exact good_app (.inr (.inr (.inr (.inl rfl)))) ih
  · intro c r h hq ih i x hx
    rw [escQ_none h hq] at hx
    cases i with
    | zero => injection hx with hx _; exact absurd hx (look_off38 h).1
    | succ i => exact ih i x hx
theorem esc_len (q : Bool) (l : List UInt8) : (escQ q l).length ≤ 6 * l.length := by
  refine esc_ind q (P := fun l => (escQ q l).length ≤ 6 * l.length) ?_ ?_ ?_ ?_ l.length l (Nat.le_refl _)
  · rw [escQ_nil]; exact Nat.le_refl _
  · rintro rfl r ih
    rw [escQ_quote, List.length_append, show quT.length = 6 from rfl, List.length_cons]; omega
  · intro l t n h ih
    have hp := lookL_some h
    rw [List.length_drop] at ih
    rw [escQ_some h, List.length_append]; omega
  · intro c r h hq ih
    rw [escQ_none h hq, List.length_cons, List.length_cons]; omega
/-! ### strings.ReplaceAll of one sign -/
theorem repK_one (c : UInt8) (new : List UInt8) : ∀ l : List UInt8, Lib.replaceK [c] new (Lib.count l [c]) l = l.flatMap (fun x => if x = c then new else [x])
  | [] => by
    rw [Lib.count_one]
    rfl
  | b :: r => by
    have ih := repK_one c new r
    by_cases hb : b = c
    · subst hb
      rw [Lib.count_cons_eq, Nat.add_comm, Lib.replaceK_hit [b] new _ _ 0 (by rw [Lib.index_one]; simp [Lib.indexByte])]
      rw [List.flatMap_cons, if_pos rfl]
      show [] ++ new ++ Lib.replaceK [b] new (Lib.count r [b]) r = _
      rw [ih, List.nil_append]
    · rw [Lib.count_cons_ne b c r hb, List.flatMap_cons, if_neg hb, ← ih]
      cases hn : Lib.count r [c] with
      | zero => rfl
      | succ k =>
        obtain ⟨i, hi⟩ := Lib.index_of_count (s := r) (old := [c]) (by rw [hn]; exact Nat.succ_pos _)
        have hi2 : Lib.index (b :: r) [c] = ((i + 1 : Nat) : Int) := by
          rw [Lib.index_one] at hi ⊢
          have h1 : (b == c) = false := by simp [hb]
          have h2 : ((i : Int) == -1) = false := by rw [beq_eq_false_iff_ne]; omega
          simp [Lib.indexByte, h1, hi, h2]
        rw [Lib.replaceK_hit [c] new k _ _ hi2, Lib.replaceK_hit [c] new k _ _ hi]
        simp [Nat.add_right_comm]
theorem repAll_one (c : UInt8) (new : List UInt8) (hne : ([c] == new) = false) (l : List UInt8) : Lib.replaceAll l [c] new = l.flatMap (fun x => if x = c then new else [x]) := by
  unfold Lib.replaceAll Lib.replace Lib.replaceNum
  rw [hne, if_neg (by decide), if_pos (.inl (by decide)), repK_one]
theorem escQ_value (l : List UInt8) : escQ true l = Lib.replaceAll (escQ false l) [34] quT := by
  rw [repAll_one 34 quT (by decide)]
  refine esc_ind true (P := fun l => escQ true l = (escQ false l).flatMap (fun x => if x = 34 then quT else [x])) ?_ ?_ ?_ ?_ l.length l (Nat.le_refl _)
  · rw [escQ_nil, escQ_nil]; rfl
  · intro _ r ih
    rw [escQ_quote, escQ_none (q := false) (c := 34) (r := r) rfl (by intro e; cases e.1), List.flatMap_cons, if_pos rfl, ih]
  · intro l t n h ih
    rw [escQ_some h, escQ_some h, List.flatMap_append, ← ih]
    congr 1
    obtain ⟨r, ⟨rfl, rfl, rfl⟩ | ⟨rfl, rfl, rfl⟩ | ⟨rfl, rfl, rfl⟩ | ⟨rfl, rfl, rfl⟩⟩ := look_forms h <;> decide
  · intro c r h hq ih
    rw [escQ_none h hq, escQ_none h (by intro e; cases e.1), List.flatMap_cons, if_neg (by intro e; exact hq ⟨rfl, e⟩), ← ih]
    rfl
end Go.Proofs.YtgokefodmjhhiaaGreatDoor

/- WALK of htok.Scan. No statement is proved here. Own work of the verifier. -/
namespace Go.Proofs.YtgokefodmjhhiaaGreatDoor
open Go.RowKit
set_option linter.unusedVariables false
set_option linter.unusedSimpArgs false
set_option maxRecDepth 100000
theorem startL_len2 (dec : List UInt8 → List UInt8) (l : List UInt8) : (startL dec l).2.1.length + (startL dec l).2.2.length ≤ l.length := by
  unfold startL
  cases h : tagL dec l with
  | none => exact Nat.zero_le _
  | some p =>
    obtain ⟨n, A, b⟩ := p
    have := tagL_len h
    simp only
    split
    · show (b.take _).length + (b.drop _).length ≤ _
      rw [List.length_drop, List.length_take]; omega
    · show ([] : List UInt8).length + b.length ≤ _
      simp only [List.length_nil]; omega
theorem endL_nil (dec : List UInt8 → List UInt8) (l : List UInt8) : (endL dec l).2.1 = [] := by
  unfold endL
  cases h : tagL dec l with
  | none => rfl
  | some p => rfl
theorem longL_nil (l : List UInt8) : (longL l).2.1 = [] := by
  unfold longL
  split <;> rfl
theorem markL_len2 (dec : List UInt8 → List UInt8) (l : List UInt8) : (markL dec l).2.1.length + (markL dec l).2.2.length ≤ l.length := by
  have h := markL_len dec l
  by_cases hs : (markL dec l).2.1 = []
  · rw [hs]; simpa using h
  · have : markL dec l = startL dec l := by
      unfold markL at hs ⊢
      split at hs
      · split at hs
        · exact absurd rfl hs
        · split at hs
          · exact absurd (endL_nil _ _) hs
          · split at hs
            · exact absurd rfl hs
            · exact absurd rfl hs
      · split at hs
        · exact absurd (longL_nil _) hs
        · exact absurd rfl hs
      · exact absurd rfl hs
      · rfl
    rw [this]
    exact startL_len2 dec l
theorem addT_len (L : List TokL) (x : List UInt8) (m : MarkR) : (addT L x m).2.length ≤ x.length + m.2.1.length := by
  unfold addT
  cases m.1 with
  | none => show (x ++ m.2.1).length ≤ _; rw [List.length_append]; exact Nat.le_refl _
  | some t => exact Nat.le_add_left _ _
theorem rdr_new (w : World) : Rdr w.heap.size w.heap.size (.slice none 0 0) [] [] w (w.alloc (.cells #[.slice none 0 0, .pointer none, .slice none 0 0] 52)) :=
  ⟨⟨.pointer none, .slice none 0 0, by show (w.heap.push _)[w.heap.size]? = _; exact Array.getElem?_push_size, .inl rfl, World.ownsRow_nil _ _ _ 1, by simp [Value.ownBlock]⟩, TRow.nil _ _, Nat.le_refl _, (Below.refl _ _).alloc (Nat.le_refl _) _, by rw [World.size_alloc]; exact Nat.le_succ _⟩
set_option maxHeartbeats 8000000 in
theorem scan_any (s : ByteArray) (m : Int) (w : World) (hs : s.size ≤ 16777216) (hE : EnvE w) (hm : w.cell? ⟨0, 0, none⟩ = some (.int .i64 m)) :
    Calls Tryz.prog 17 #[.string s] w fun e w' => ∃ v vs, e = .returned v ∧ TRow w.heap.size v vs w' ∧ vs.map Prod.fst = scanL decE [] [] s.data.toList ∧ Below w.heap.size w w' := by
  have HN := hide (rdr_new w)
  have HE := hide hE
  have hmlt := World.block_lt_of_cell? _ _ hm
  have HM := hide (fun w' (hb : Below w.heap.size w w') => (hb.cell (p := ⟨0, 0, none⟩) hmlt).trans hm)
  clear hE hm hmlt
  go_enter Tryz.func17, Tryz.ntmps17
  go_wp2_with fail
  go_loopw [0] (fun sv wr => ∃ (S : ByteArray) (o : Value) (vs : List TokV) (x : List UInt8), sv = .string S ∧ S.size ≤ 16777216 ∧ Hid (Rdr w.heap.size w.heap.size o vs x w wr) ∧ Hid (scanL decE (vs.map Prod.fst) x S.data.toList = scanL decE [] [] s.data.toList) ∧ Hid (vs.length + 2 * S.size ≤ 2 * s.size ∧ x.length + S.size ≤ s.size)) (fun sv _ => szStr sv)
  case atStart => exact ⟨s, _, [], [], rfl, hs, HN, hide rfl, hide ⟨by simp, by simp⟩⟩
  case round =>
    obtain ⟨S, o, vs, x, rfl, hS, HR, HG, HZ⟩ := hrel
    have hSl := toList_length S
    cases hl : S.data.toList with
    | nil =>
      have t0 : S.toList.isEmpty = true := by rw [bytes_list, hl]; rfl
      have t1 : S.toList = [] := by rw [bytes_list, hl]
      have HG2 : Hid (flushT (vs.map Prod.fst) x = scanL decE [] [] s.data.toList) := hide (by rw [← HG.out, hl, scanL_nil])
      have HT := hide (endText_any _ _ o vs x w wr HR.out (by have := HZ.out.1; omega))
      clear hSl hl
      go_wp2_with fail
      refine HT.out.mono ?_
      rintro e w1 ⟨rfl, o2, vs2, r2, m2, l2, k2⟩
      obtain ⟨a2, v2, c2⟩ := r2.cell
      have d2 := c2.cell0
      have HB := hide r2.below
      have HT2 := hide r2.toks
      have HM2 := hide m2
      clear r2 m2 l2 k2 c2
      go_wp2_with fail
      go_ret
      exact ⟨o2, vs2, rfl, HT2.out, HM2.out.trans HG2.out, HB.out⟩
    | cons c r =>
      have t0 : S.toList.isEmpty = false := by rw [bytes_list, hl]; rfl
      have hSz : S.size = r.length + 1 := by rw [← hSl, hl]; rfl
      have hf := firstMark_any S wr hS
      rw [hl] at hf
      have hle := markN_le (c :: r)
      obtain ⟨K, hK⟩ : ∃ K, K = markN (c :: r) := ⟨_, rfl⟩
      rw [← hK] at hf hle
      have HF := hide hf
      by_cases h0 : 0 < K
      · have q0 : (0 : Int) ≤ K := by omega
        have q1 : (K : Int) ≤ S.size := by rw [hSz]; simp only [List.length_cons] at hle; omega
        obtain ⟨P, hP⟩ : ∃ P, S.extract 0 K = P := ⟨_, rfl⟩
        obtain ⟨Q, hQ⟩ : ∃ Q, S.extract K S.size = Q := ⟨_, rfl⟩
        have hPl : P.data.toList = (c :: r).take K := by rw [← hP, extract_list, List.drop_zero, hl]
        have hQl : Q.data.toList = (c :: r).drop K := by rw [← hQ, extract_end, hl]
        have hPz : P.size = K := by rw [← toList_length, hPl, List.length_take]; omega
        have hQz : Q.size = S.size - K := by rw [← toList_length, hQl, List.length_drop, hSz]; rfl
        have hstep := HG.out
        rw [hl, scanL_text decE _ _ (by rw [← hK]; exact h0), ← hK, ← hPl, ← hQl] at hstep
        have hdl := decE_len _ P.data.toList (Nat.le_refl _)
        rw [toList_length] at hdl
        have hdec := fun w2 h => entDecode_any P w2 (by omega) h
        obtain ⟨D, hD⟩ : ∃ D, D = decE P.data.toList := ⟨_, rfl⟩
        rw [← hD] at hstep hdl hdec
        have HD := hide hdec
        have HST := hide hstep
        have HZ2 : Hid (vs.length + 2 * Q.size ≤ 2 * s.size ∧ (x ++ D).length + Q.size ≤ s.size) := hide (by
          have := HZ.out
          rw [List.length_append]
          omega)
        have HW := hide (fun w2 (h2 : Rdr w.heap.size w.heap.size o vs x w w2) => writeR_any _ _ o vs x (str D) w w2 h2 (by rw [str_size]; have := HZ.out; omega))
        rw [str_toList] at HW
        have hQS : Q.size < S.size := by omega
        have HQS := hide hQS
        have HQ6 : Hid (Q.size ≤ 16777216) := hide (by omega)
        clear hSl hl hSz hf hle hK hPl hQl hPz hQz hstep hdl hdec hD hQS
        go_wp2_with fail
        refine HF.out.mono ?_
        rintro e w1 ⟨rfl, rfl⟩
        go_wp2_with fail
        all_goals first | (exact absurd h0 ‹_›) | skip
        refine (HD.out _ (HE.out.kept HR.out.below)).mono ?_
        rintro e w2 ⟨rfl, hb2⟩
        have HR2 := hide (HR.out.kept hb2)
        clear hb2
        go_wp2_with fail
        refine (HW.out _ HR2.out).mono ?_
        rintro e w3 ⟨rfl, r3⟩
        have HR3 := hide r3
        clear r3
        go_wp2_with fail
        go_roundw
        case rel => exact ⟨Q, o, vs, x ++ D, rfl, HQ6.out, HR3, HST, HZ2⟩
        case measure => exact HQS.out
      · have hK0 : K = 0 := by omega
        have hmk : isMarkB S.data.toList = true := by rw [hl]; exact markN_zero (by rw [← hK]; exact hK0)
        have hMK := mark_any _ _ o vs x w wr S m HR.out (by have := HZ.out; omega) hS (HE.out.kept HR.out.below) (HM.out _ HR.out.below) hmk
        have hstep := HG.out
        rw [hl] at hmk hstep hMK
        rw [scanL_mark decE _ _ hmk] at hstep
        rw [show (c :: r).drop 1 = r from rfl] at hMK
        have hl2 := markL_len2 decE r
        obtain ⟨M, hM⟩ : ∃ M, M = markL decE r := ⟨_, rfl⟩
        rw [← hM] at hstep hMK hl2
        have ha := addT_len (vs.map Prod.fst) x M
        have HMK := hide hMK
        have HST : Hid (scanL decE (addT (vs.map Prod.fst) x M).1 (addT (vs.map Prod.fst) x M).2 (str M.2.2).data.toList = scanL decE [] [] s.data.toList) := hide (by rw [str_toList]; exact hstep)
        have HZ2 : Hid (vs.length + 2 + 2 * (str M.2.2).size ≤ 2 * s.size ∧ (addT (vs.map Prod.fst) x M).2.length + (str M.2.2).size ≤ s.size) := hide (by
          have := HZ.out
          rw [str_size]
          omega)
        have HQS : Hid ((str M.2.2).size < S.size) := hide (by rw [str_size]; omega)
        have HQ6 : Hid ((str M.2.2).size ≤ 16777216) := hide (by rw [str_size]; omega)
        clear hSl hl hSz hf hle hK hstep hMK hl2 hM ha hmk
        subst hK0
        go_wp2_with fail
        refine HF.out.mono ?_
        rintro e w1 ⟨rfl, rfl⟩
        go_wp2_with fail
        refine HMK.out.mono ?_
        rintro e w2 ⟨rfl, o2, vs2, r2, m2, l2⟩
        have HR2 := hide r2
        have HST2 : Hid (scanL decE (vs2.map Prod.fst) (addT (vs.map Prod.fst) x M).2 (str M.2.2).data.toList = scanL decE [] [] s.data.toList) := hide (by rw [m2]; exact HST.out)
        have HZ3 : Hid (vs2.length + 2 * (str M.2.2).size ≤ 2 * s.size ∧ (addT (vs.map Prod.fst) x M).2.length + (str M.2.2).size ≤ s.size) := hide ⟨by have := HZ2.out.1; omega, HZ2.out.2⟩
        clear r2 m2 l2
        go_wp2_with fail
        go_roundw
        case rel => exact ⟨str M.2.2, o2, vs2, _, rfl, HQ6.out, HR2, HST2, HZ3⟩
        case measure => exact HQS.out
end Go.Proofs.YtgokefodmjhhiaaGreatDoor

/- Rows of api.Token that are given, each with a row of its attributes. No statement is proved here. Own work of the verifier. -/
namespace Go.Proofs.YtgokefodmjhhiaaGreatDoor
open Go.RowKit
set_option linter.unusedVariables false
set_option linter.unusedSimpArgs false
set_option maxRecDepth 100000
/-- a []api.Attr that is given -/
def AttrsIn (w : World) (v : Value) (l : List AtL) : Prop :=
  (v = .slice none 0 0 ∧ l = []) ∨ ∃ a cap, v = .slice (some a) l.length cap ∧ l.length ≤ cap ∧ cap ≤ maxLen ∧
    ∀ j (f : AtL), l[j]? = some f → w.cell? (a.add (j * 2)) = some (.string (str f.1)) ∧ w.cell? (a.add (j * 2 + 1)) = some (.string (str f.2))
theorem AttrsIn.kept {w w' : World} {v : Value} {l : List AtL} (h : AttrsIn w v l) (hb : Below w.heap.size w w') : AttrsIn w' v l := by
  rcases h with h | ⟨a, cap, h1, h2, h3, h4⟩
  · exact .inl h
  · refine .inr ⟨a, cap, h1, h2, h3, fun j f hj => ?_⟩
    obtain ⟨c1, c2⟩ := h4 j f hj
    exact ⟨(hb.cell (World.block_lt_of_cell? _ _ c1)).trans c1, (hb.cell (World.block_lt_of_cell? _ _ c2)).trans c2⟩
theorem AttrsIn.form {w : World} {v : Value} {l : List AtL} (h : AttrsIn w v l) : ∃ a cap, v = .slice a l.length cap := by
  rcases h with ⟨rfl, rfl⟩ | ⟨a, cap, rfl, _⟩
  · exact ⟨_, _, rfl⟩
  · exact ⟨_, _, rfl⟩
theorem AttrsIn.at {w : World} {A : Option Addr} {n cap : Nat} {l : List AtL} (h : AttrsIn w (.slice A n cap) l) (k : Nat) (f : AtL) (hk : l[k]? = some f) :
    ∃ a, A = some a ∧ w.cell? (a.add (k * 2)) = some (.string (str f.1)) ∧ w.cell? { block := (a.add (k * 2)).block, off := (a.add (k * 2)).off + 1 } = some (.string (str f.2)) := by
  rcases h with ⟨_, rfl⟩ | ⟨a, cap', h1, _, _, h4⟩
  · cases hk
  · injection h1 with h1 _ _
    have e3 : ({ block := (a.add (k * 2)).block, off := (a.add (k * 2)).off + 1 } : Addr) = a.add (k * 2 + 1) := by rw [← Addr.add_add]; rfl
    obtain ⟨c1, c2⟩ := h4 k f hk
    exact ⟨a, h1, c1, by rw [e3]; exact c2⟩
theorem attrs_of_row {B : Nat} {w : World} {v : Value} {l : List AtL} (h : w.ownsRow B 32 2 v l.length (atVals l)) : AttrsIn w v l := by
  rcases h.2 with ⟨rfl, h0⟩ | ⟨g, cap, cur, rfl, hg, hh, h1, h2, h3, h4⟩
  · exact .inl ⟨rfl, List.eq_nil_of_length_eq_zero h0⟩
  · refine .inr ⟨⟨g, 0, none⟩, cap, rfl, h1, h2, fun j f hj => ?_⟩
    obtain ⟨c1, c2⟩ := atVals_at hj
    exact ⟨h.cells (g := g) rfl _ _ c1, h.cells (g := g) rfl _ _ c2⟩
/-- a token, of any kind -/
abbrev TokG := Int × TokL
/-- a []api.Token that is given -/
def ToksIn (w : World) (v : Value) (l : List TokG) : Prop :=
  (v = .slice none 0 0 ∧ l = []) ∨ ∃ a cap, v = .slice (some a) l.length cap ∧ l.length ≤ cap ∧ cap ≤ maxLen ∧
    ∀ j (f : TokG), l[j]? = some f → w.cell? (a.add (j * 4)) = some (.int .i64 f.1) ∧ w.cell? (a.add (j * 4 + 1)) = some (.string (str f.2.name)) ∧ w.cell? (a.add (j * 4 + 3)) = some (.string (str f.2.text)) ∧
      ∃ u, w.cell? (a.add (j * 4 + 2)) = some u ∧ AttrsIn w u f.2.attrs
theorem ToksIn.kept {w w' : World} {v : Value} {l : List TokG} (h : ToksIn w v l) (hb : Below w.heap.size w w') : ToksIn w' v l := by
  rcases h with h | ⟨a, cap, h1, h2, h3, h4⟩
  · exact .inl h
  · refine .inr ⟨a, cap, h1, h2, h3, fun j f hj => ?_⟩
    obtain ⟨c1, c2, c3, u, c4, hu⟩ := h4 j f hj
    exact ⟨(hb.cell (World.block_lt_of_cell? _ _ c1)).trans c1, (hb.cell (World.block_lt_of_cell? _ _ c2)).trans c2, (hb.cell (World.block_lt_of_cell? _ _ c3)).trans c3, u, (hb.cell (World.block_lt_of_cell? _ _ c4)).trans c4, hu.kept hb⟩
theorem ToksIn.form {w : World} {v : Value} {l : List TokG} (h : ToksIn w v l) : ∃ a cap, v = .slice a l.length cap := by
  rcases h with ⟨rfl, rfl⟩ | ⟨a, cap, rfl, _⟩
  · exact ⟨_, _, rfl⟩
  · exact ⟨_, _, rfl⟩
theorem ToksIn.at {w : World} {A : Option Addr} {n cap : Nat} {l : List TokG} (h : ToksIn w (.slice A n cap) l) (k : Nat) (f : TokG) (hk : l[k]? = some f) :
    ∃ a d y, A = some a ∧ w.cell? (a.add (k * 4)) = some (.int .i64 f.1) ∧ w.cell? { block := (a.add (k * 4)).block, off := (a.add (k * 4)).off + 1 } = some (.string (str f.2.name)) ∧ w.cell? { block := (a.add (k * 4)).block, off := (a.add (k * 4)).off + 3 } = some (.string (str f.2.text)) ∧
      w.cell? { block := (a.add (k * 4)).block, off := (a.add (k * 4)).off + 2 } = some (.slice d f.2.attrs.length y) ∧ AttrsIn w (.slice d f.2.attrs.length y) f.2.attrs := by
  rcases h with ⟨_, rfl⟩ | ⟨a, cap', h1, _, _, h4⟩
  · cases hk
  · injection h1 with h1 _ _
    have e1 : ({ block := (a.add (k * 4)).block, off := (a.add (k * 4)).off + 1 } : Addr) = a.add (k * 4 + 1) := by rw [← Addr.add_add]; rfl
    have e2 : ({ block := (a.add (k * 4)).block, off := (a.add (k * 4)).off + 2 } : Addr) = a.add (k * 4 + 2) := by rw [← Addr.add_add]; rfl
    have e3 : ({ block := (a.add (k * 4)).block, off := (a.add (k * 4)).off + 3 } : Addr) = a.add (k * 4 + 3) := by rw [← Addr.add_add]; rfl
    obtain ⟨c1, c2, c3, u, c4, hu⟩ := h4 k f hk
    obtain ⟨d, y, rfl⟩ := hu.form
    exact ⟨a, d, y, h1, c1, by rw [e1]; exact c2, by rw [e3]; exact c3, by rw [e2]; exact c4, hu⟩
def gOf (t : TokL) : TokG := ((t.kind : Int), t)
theorem TRow.in {B : Nat} {v : Value} {ls : List TokV} {w : World} (h : TRow B v ls w) : ToksIn w v ((ls.map Prod.fst).map gOf) := by
  rcases h.row.2 with ⟨rfl, h0⟩ | ⟨g, cap, cur, rfl, hg, hh, h1, h2, h3, h4⟩
  · exact .inl ⟨rfl, by rw [List.eq_nil_of_length_eq_zero h0]; rfl⟩
  · refine .inr ⟨⟨g, 0, none⟩, cap, by simp, by simpa using h1, h2, fun j f hj => ?_⟩
    rw [List.map_map, List.getElem?_map] at hj
    obtain ⟨p, hp, rfl⟩ := Option.map_eq_some_iff.1 hj
    obtain ⟨c1, c2, c3, c4⟩ := tokVals_at hp
    have hc : ∀ (i : Nat) (x : Value), (tokVals ls)[i]? = some x → w.cell? ((⟨g, 0, none⟩ : Addr).add i) = some x := fun i x hx => h.row.cells (g := g) rfl _ _ hx
    exact ⟨hc _ _ c1, hc _ _ c2, hc _ _ c4, p.2, hc _ _ c3, attrs_of_row (h.each p (List.mem_of_getElem? hp))⟩
/-- rows that lie whole in a block -/
theorem attrs_lit {w : World} {g : Nat} {T : TypeId} {fz : Nat × Nat} (l : List AtL) (h : w.heap[g]? = some (.cells (atVals l).toArray T fz)) (hl : l.length ≤ maxLen) : AttrsIn w (.slice (some ⟨g, 0, none⟩) l.length l.length) l := by
  refine .inr ⟨⟨g, 0, none⟩, l.length, rfl, Nat.le_refl _, hl, fun j f hj => ?_⟩
  obtain ⟨c1, c2⟩ := atVals_at hj
  have hc : ∀ (i : Nat) (x : Value), (atVals l)[i]? = some x → w.cell? ((⟨g, 0, none⟩ : Addr).add i) = some x := fun i x hx => by
    rw [Addr.add_lit, Lib.cell_of_heap h, List.getElem?_toArray]; simpa using hx
  exact ⟨hc _ _ c1, hc _ _ c2⟩
theorem toks_lit {w : World} {g : Nat} {T : TypeId} {fz : Nat × Nat} {cs : Array Value} (l : List TokG) (h : w.heap[g]? = some (.cells cs T fz)) (hl : l.length ≤ maxLen)
    (he : ∀ j (f : TokG), l[j]? = some f → cs[j * 4]? = some (.int .i64 f.1) ∧ cs[j * 4 + 1]? = some (.string (str f.2.name)) ∧ cs[j * 4 + 3]? = some (.string (str f.2.text)) ∧ ∃ u, cs[j * 4 + 2]? = some u ∧ AttrsIn w u f.2.attrs) :
    ToksIn w (.slice (some ⟨g, 0, none⟩) l.length l.length) l := by
  refine .inr ⟨⟨g, 0, none⟩, l.length, rfl, Nat.le_refl _, hl, fun j f hj => ?_⟩
  obtain ⟨c1, c2, c3, u, c4, hu⟩ := he j f hj
  have hc : ∀ (i : Nat) (x : Value), cs[i]? = some x → w.cell? ((⟨g, 0, none⟩ : Addr).add i) = some x := fun i x hx => by
    rw [Addr.add_lit, Lib.cell_of_heap h]; simpa using hx
  exact ⟨hc _ _ c1, hc _ _ c2, hc _ _ c3, u, hc _ _ c4, hu⟩
theorem attrs_none (w : World) : AttrsIn w (.slice none 0 0) [] := .inl ⟨rfl, rfl⟩
end Go.Proofs.YtgokefodmjhhiaaGreatDoor

/- PURE: tokens written, and read to the same, by any way of writing signs that is read back. No statement is proved here. Own work of the verifier. -/
namespace Go.Proofs.YtgokefodmjhhiaaGreatDoor
set_option linter.unusedVariables false
set_option linter.unusedSimpArgs false
theorem tw_of {p : UInt8 → Bool} {m b : List UInt8} {c : UInt8} (h : ∀ x ∈ m, p x = true) (hc : p c = false) : (m ++ c :: b).takeWhile p = m ∧ (m ++ c :: b).dropWhile p = c :: b := by
  induction m with
  | nil => simp [hc]
  | cons a r ih =>
    have ha := h a (List.mem_cons_self ..)
    have := ih (fun x hx => h x (List.mem_cons_of_mem _ hx))
    simp [ha, this.1, this.2]
def attrW (escV : List UInt8 → List UInt8) (a : AtL) : List UInt8 := 32 :: (a.1 ++ 61 :: 34 :: (escV a.2 ++ [34]))
def attrsW (escV : List UInt8 → List UInt8) (A : List AtL) : List UInt8 := A.flatMap (attrW escV)
def tokW (escT escV : List UInt8 → List UInt8) (t : TokL) : List UInt8 :=
  if t.kind = 1 then escT t.text else if t.kind = 2 then 60 :: (t.name ++ (attrsW escV t.attrs ++ [62])) else if t.kind = 3 then 60 :: 47 :: (t.name ++ [62]) else []
def writeTs (escT escV : List UInt8 → List UInt8) (L : List TokL) : List UInt8 := L.flatMap (tokW escT escV)
/-- a name of letters and digits, that begins with a letter -/
def nameOK (N : List UInt8) : Prop := ∃ c r, N = c :: r ∧ letterB c = true ∧ ∀ x ∈ c :: r, (letterB x || digitB x) = true
theorem alnum_ends (c : UInt8) (h : (letterB c || digitB c) = true) : attrEndB c = false ∧ whs c = false ∧ c ≠ 62 ∧ c ≠ 47 ∧ c ≠ 33 ∧ c ≠ 63 ∧ nameEndB c = false :=
  u8_all (p := fun c => (letterB c || digitB c) = true → (attrEndB c = false ∧ whs c = false ∧ c ≠ 62 ∧ c ≠ 47 ∧ c ≠ 33 ∧ c ≠ 63 ∧ nameEndB c = false)) (by decide +kernel) c h
theorem name_up {N R : List UInt8} {c : UInt8} (h : nameOK N) (hc : nameEndB c = true) : upL nameEndB (N ++ c :: R) = (N, c :: R) := by
  obtain ⟨a, r, rfl, _, h2⟩ := h
  obtain ⟨e1, e2⟩ := tw_of (p := fun c => !nameEndB c) (m := a :: r) (b := R) (c := c) (fun x hx => by simp [(alnum_ends x (h2 x hx)).2.2.2.2.2.2]) (by simp [hc])
  unfold upL
  rw [e1, e2]
/-- what is asked of the ways of writing and reading -/
structure EscOK (dec escT escV : List UInt8 → List UInt8) : Prop where
  t60 : ∀ x, 60 ∉ escT x
  tdec : ∀ x, dec (escT x) = x
  tne : ∀ x, x ≠ [] → escT x ≠ []
  v34 : ∀ x, 34 ∉ escV x
  vdec : ∀ x, dec (escV x) = x
theorem attr_back {dec escT escV : List UInt8 → List UInt8} (E : EscOK dec escT escV) {a : AtL} (h : nameOK a.1) (hl : lowL a.1 = a.1) (R : List UInt8) :
    ∃ c r, (attrW escV a ++ R).dropWhile whs = c :: r ∧ c ≠ 62 ∧ attrL dec (c :: r) = (a, R) := by
  obtain ⟨n, v⟩ := a
  obtain ⟨c, r, hn, h1, h2⟩ := h
  have hn : n = c :: r := hn
  subst hn
  have hc := alnum_ends c (h2 c (List.mem_cons_self ..))
  refine ⟨c, r ++ 61 :: 34 :: (escV v ++ 34 :: R), ?_, hc.2.2.1, ?_⟩
  · unfold attrW
    rw [show (32 :: ((c :: r, v).1 ++ 61 :: 34 :: (escV (c :: r, v).2 ++ [34])) ++ R : List UInt8) = 32 :: c :: (r ++ 61 :: 34 :: (escV v ++ 34 :: R)) by simp]
    rw [List.dropWhile_cons, if_pos (by decide), List.dropWhile_cons, if_neg (by rw [hc.2.1]; decide)]
  · obtain ⟨e1, e2⟩ := tw_of (p := fun c => !attrEndB c) (m := r) (b := 34 :: (escV v ++ 34 :: R)) (c := 61) (fun x hx => by simp [(alnum_ends x (h2 x (List.mem_cons_of_mem _ hx))).1]) (by decide)
    obtain ⟨e3, e4⟩ := tw_of (p := fun x => x != 34) (m := escV v) (b := R) (c := 34) (fun x hx => by
      have : x ≠ 34 := fun e => E.v34 v (by rw [← e]; exact hx)
      simpa using this) (by decide)
    have hu : upL attrEndB (r ++ 61 :: 34 :: (escV v ++ 34 :: R)) = (r, 61 :: 34 :: (escV v ++ 34 :: R)) := by unfold upL; rw [e1, e2]
    have hv : valueL (34 :: (escV v ++ 34 :: R)) = (escV v, R) := by
      unfold valueL
      simp only
      rw [if_pos trivial]
      unfold beforeC afterC
      rw [e3, e4]; rfl
    rw [attrL_val (b := 34 :: (escV v ++ 34 :: R)) (by rw [hu]; show (61 :: _ : List UInt8).dropWhile whB = _; rw [List.dropWhile_cons, if_neg (by decide)]), hu]
    rw [show (34 :: (escV v ++ 34 :: R) : List UInt8).dropWhile whB = 34 :: (escV v ++ 34 :: R) by rw [List.dropWhile_cons, if_neg (by decide)], hv]
    simp only
    rw [E.vdec]
    rw [show lowL (c :: r) = c :: r from hl]
theorem attrs_back {dec escT escV : List UInt8 → List UInt8} (E : EscOK dec escT escV) (R : List UInt8) : ∀ (Bs A : List AtL), (∀ a ∈ Bs, nameOK a.1 ∧ lowL a.1 = a.1) → (A ++ Bs).Pairwise (fun a b => a.1 ≠ b.1) → (A ++ Bs).length ≤ 30 →
    attrsLL dec A (attrsW escV Bs ++ 62 :: R) = some (A ++ Bs, R)
  | [], A, _, _, _ => by
    rw [attrsLL_end (r := R) (by show (62 :: R).dropWhile whs = _; rw [List.dropWhile_cons, if_neg (by decide)]), List.append_nil]
  | a :: Bs, A, h1, h2, h3 => by
    obtain ⟨g1, g2⟩ := h1 a (List.mem_cons_self ..)
    have e : attrsW escV (a :: Bs) ++ 62 :: R = attrW escV a ++ (attrsW escV Bs ++ 62 :: R) := by unfold attrsW; rw [List.flatMap_cons, List.append_assoc]
    obtain ⟨c, r, e1, e2, e3⟩ := attr_back E g1 g2 (attrsW escV Bs ++ 62 :: R)
    rw [e, attrsLL_go e1 e2, e3]
    have hcnt : countsB A a.1 = true := by
      unfold countsB
      rw [Bool.and_eq_true, decide_eq_true_eq, Bool.not_eq_true', List.any_eq_false]
      refine ⟨by rw [List.length_append] at h3; simp at h3; omega, fun x hx => ?_⟩
      have := (List.pairwise_append.1 h2).2.2 x hx a (List.mem_cons_self ..)
      simpa using this
    simp only
    rw [if_pos hcnt]
    have ea : A ++ a :: Bs = (A ++ [a]) ++ Bs := by simp
    rw [ea] at h2 h3 ⊢
    exact attrs_back E R Bs (A ++ [a]) (fun x hx => h1 x (List.mem_cons_of_mem _ hx)) h2 h3
theorem tag_back {dec escT escV : List UInt8 → List UInt8} (E : EscOK dec escT escV) {N R : List UInt8} {A : List AtL} (hN : nameOK N) (h1 : ∀ a ∈ A, nameOK a.1 ∧ lowL a.1 = a.1) (h2 : A.Pairwise (fun a b => a.1 ≠ b.1)) (h3 : A.length ≤ 30) :
    tagL dec (N ++ (attrsW escV A ++ 62 :: R)) = some (lowL N, A, R) := by
  have hu : upL nameEndB (N ++ (attrsW escV A ++ 62 :: R)) = (N, attrsW escV A ++ 62 :: R) := by
    cases A with
    | nil => exact name_up hN (by decide)
    | cons a B => exact name_up hN (by decide)
  unfold tagL
  rw [hu]
  simp only
  rw [attrs_back E R A [] h1 (by simpa using h2) (by simpa using h3)]
  rfl
/-- tokens that may be written and read; the second has the names as they are read -/
def ReadT (u t : TokL) : Prop := u.kind = t.kind ∧ u.attrs = t.attrs ∧ u.text = t.text ∧
  ((t.kind = 1 ∧ t.name = [] ∧ t.attrs = [] ∧ t.text ≠ []) ∨
   (t.kind = 3 ∧ nameOK u.name ∧ lowL u.name = t.name ∧ t.attrs = [] ∧ t.text = []) ∨
   (t.kind = 2 ∧ nameOK u.name ∧ lowL u.name = t.name ∧ t.text = [] ∧ (∀ a ∈ t.attrs, nameOK a.1 ∧ lowL a.1 = a.1) ∧ t.attrs.Pairwise (fun a b => a.1 ≠ b.1) ∧ t.attrs.length ≤ 30 ∧ rawL.contains t.name = false))
/-- row by row -/
inductive TokR : List TokL → List TokL → Prop
  | nil : TokR [] []
  | cons {u t : TokL} {U L : List TokL} : ReadT u t → TokR U L → TokR (u :: U) (t :: L)
theorem markN_upto {R : List UInt8} (hR : R = [] ∨ isMarkB R = true) : ∀ a : List UInt8, 60 ∉ a → markN (a ++ R) = a.length
  | [], _ => by
    cases R with
    | nil => rfl
    | cons c r =>
      show markN (c :: r) = 0
      unfold markN
      rcases hR with h | h
      · cases h
      · rw [if_pos h]
  | c :: a, h => by
    have hc : c ≠ 60 := fun e => h (by rw [e]; exact List.mem_cons_self ..)
    have hm : isMarkB (c :: (a ++ R)) = false := by
      unfold isMarkB
      split
      · rename_i heq; injection heq with h1 h2; exact absurd h1 hc
      · rfl
    rw [List.cons_append]
    unfold markN
    rw [if_neg (by rw [hm]; decide), markN_upto hR a (fun hm => h (List.mem_cons_of_mem _ hm))]; rfl
theorem mark_start {c : UInt8} (h : letterB c = true) (r : List UInt8) : isMarkB (60 :: c :: r) = true := by
  have := alnum_ends c (by rw [h]; rfl)
  unfold isMarkB
  simp only
  rw [if_neg (fun e => e.elim this.2.2.2.2.1 this.2.2.2.2.2.1), if_neg this.2.2.2.1]
  exact h
theorem markL_start {dec : List UInt8 → List UInt8} {c : UInt8} (h : letterB c = true) (r : List UInt8) : markL dec (c :: r) = startL dec (c :: r) := by
  have := alnum_ends c (by rw [h]; rfl)
  unfold markL
  split
  · rename_i q heq; injection heq with h1 h2; exact absurd h1 this.2.2.2.1
  · rename_i q heq; injection heq with h1 h2; exact absurd h1 this.2.2.2.2.1
  · rename_i q heq; injection heq with h1 h2; exact absurd h1 this.2.2.2.2.2.1
  · rfl
/-- what is written begins with a mark, but for characters -/
theorem write_mark {escT escV : List UInt8 → List UInt8} {u t : TokL} (h : ReadT u t) (hk : t.kind ≠ 1) (R : List UInt8) : isMarkB (tokW escT escV u ++ R) = true := by
  obtain ⟨k, _, _, h⟩ := h
  unfold tokW
  rw [k, if_neg hk]
  rcases h with h | h | h
  · exact absurd h.1 hk
  · rw [if_neg (by rw [h.1]; decide), if_pos h.1]
    simp [isMarkB]
  · rw [if_pos h.1]
    obtain ⟨c, r, e, hc, _⟩ := h.2.1
    rw [e]
    exact mark_start hc _
theorem tok_eta {t : TokL} {k : Nat} {n : List UInt8} {A : List AtL} {x : List UInt8} (h1 : t.kind = k) (h2 : t.name = n) (h3 : t.attrs = A) (h4 : t.text = x) : t = ⟨k, n, A, x⟩ := by
  obtain ⟨a, b, c, d⟩ := t
  simp only at h1 h2 h3 h4
  subst h1 h2 h3 h4; rfl
/-- tokens that are written are read to the same -/
theorem scan_write {dec escT escV : List UInt8 → List UInt8} (E : EscOK dec escT escV) : ∀ (U L : List TokL), TokR U L → (∀ (i : Nat) (a b : TokL), L[i]? = some a → L[i + 1]? = some b → ¬ (a.kind = 1 ∧ b.kind = 1)) →
    ∀ (O : List TokL) (x : List UInt8), (x = [] ∨ ∀ t, L.head? = some t → t.kind ≠ 1) → scanL dec O x (writeTs escT escV U) = flushT O x ++ L
  | [], [], _, _, O, x, _ => by
    show scanL dec O x [] = _
    rw [scanL_nil, List.append_nil]
  | u :: U, t :: L, hR, hadj, O, x, hx => by
    obtain ⟨hut, hR2⟩ : ReadT u t ∧ TokR U L := by cases hR with | cons a b => exact ⟨a, b⟩
    have hadj2 : ∀ (i : Nat) (a b : TokL), L[i]? = some a → L[i + 1]? = some b → ¬ (a.kind = 1 ∧ b.kind = 1) := fun i a b ha hb => hadj (i + 1) a b (by simpa using ha) (by simpa using hb)
    have ih := scan_write E U L hR2 hadj2
    have e : writeTs escT escV (u :: U) = tokW escT escV u ++ writeTs escT escV U := by unfold writeTs; rw [List.flatMap_cons]
    have hread := hut
    obtain ⟨k, ka, kt, h⟩ := hut
    rw [e]
    rcases h with ⟨h1, h2, h3, h4⟩ | ⟨h1, h2, h3, h4, h5⟩ | ⟨h1, h2, h3, h4, h5, h6, h7, h8⟩
    · have hx0 : x = [] := hx.resolve_right (fun hh => hh t rfl h1)
      subst hx0
      have ew : tokW escT escV u = escT t.text := by unfold tokW; rw [k, if_pos h1, kt]
      have hnx : ∀ q, L.head? = some q → q.kind ≠ 1 := fun q hq hk => by
        cases L with
        | nil => cases hq
        | cons p L => injection hq with hq; subst hq; exact hadj 0 t p rfl rfl ⟨h1, hk⟩
      have hRm : writeTs escT escV U = [] ∨ isMarkB (writeTs escT escV U) = true := by
        cases hR2 with
        | nil => exact .inl rfl
        | cons hab _ =>
          refine .inr ?_
          unfold writeTs
          rw [List.flatMap_cons]
          exact write_mark hab (hnx _ rfl) _
      rw [ew]
      have hm := markN_upto hRm (escT t.text) (E.t60 _)
      have hne := E.tne _ h4
      obtain ⟨c, r, hcr⟩ : ∃ c r, escT t.text ++ writeTs escT escV U = c :: r := by
        cases hq : escT t.text with
        | nil => exact absurd hq hne
        | cons c r => exact ⟨c, r ++ writeTs escT escV U, rfl⟩
      rw [hcr] at hm ⊢
      rw [scanL_text dec O [] (by rw [hm]; exact List.length_pos_iff.2 hne), hm, ← hcr, List.take_left, List.drop_left, E.tdec, List.nil_append, ih O t.text (.inr hnx)]
      unfold flushT
      rw [if_neg h4, if_pos rfl, List.append_assoc]
      rw [show t = charsT t.text from tok_eta h1 h2 h3 rfl]; rfl
    · have h2' := h2
      obtain ⟨c, r, hN, hc, _⟩ := h2
      have ew : tokW escT escV u ++ writeTs escT escV U = 60 :: 47 :: (u.name ++ (attrsW escV [] ++ 62 :: writeTs escT escV U)) := by
        unfold tokW
        rw [k, if_neg (by rw [h1]; decide), if_neg (by rw [h1]; decide), if_pos h1]; simp [attrsW]
      have hm : markL dec (47 :: (u.name ++ (attrsW escV [] ++ 62 :: writeTs escT escV U))) = (some (endT t.name), [], writeTs escT escV U) := by
        have ht := tag_back E (R := writeTs escT escV U) h2' (A := []) (fun a ha => by cases ha) List.Pairwise.nil (by decide)
        rw [hN] at ht ⊢
        rw [List.cons_append, markL_end hc, ← List.cons_append]
        unfold endL
        rw [ht]
        simp only
        rw [← hN, h3]
      rw [ew, scanL_mark dec O x (by rw [hN]; simp [isMarkB]), hm]
      unfold addT
      simp only
      rw [ih _ [] (.inl rfl)]
      unfold flushT
      rw [if_pos rfl, List.append_assoc]
      rw [show t = endT t.name from tok_eta h1 rfl h4 h5]; rfl
    · have h2' := h2
      obtain ⟨c, r, hN, hc, _⟩ := h2
      have ew : tokW escT escV u ++ writeTs escT escV U = 60 :: (u.name ++ (attrsW escV t.attrs ++ 62 :: writeTs escT escV U)) := by
        unfold tokW
        rw [k, if_neg (by rw [h1]; decide), if_pos h1, ka]; simp
      have hm : markL dec (u.name ++ (attrsW escV t.attrs ++ 62 :: writeTs escT escV U)) = (some (startT t.name t.attrs), [], writeTs escT escV U) := by
        have ht := tag_back E (R := writeTs escT escV U) h2' h5 h6 h7
        rw [hN] at ht ⊢
        rw [List.cons_append, markL_start hc, ← List.cons_append]
        unfold startL
        rw [ht]
        simp only
        rw [← hN, h3, if_neg (by rw [h8]; decide)]
      rw [ew, hN, List.cons_append, scanL_mark dec O x (mark_start hc _), ← List.cons_append, ← hN, hm]
      unfold addT
      simp only
      rw [ih _ [] (.inl rfl)]
      unfold flushT
      rw [if_pos rfl, List.append_assoc]
      rw [show t = startT t.name t.attrs from tok_eta h1 rfl rfl h4]; rfl
end Go.Proofs.YtgokefodmjhhiaaGreatDoor

/- PURE: what the laws of layer 13 ask of tokens: few, clean; that clean ones are read as they were written. No statement is proved here. Own work of the verifier. -/
namespace Go.Proofs.YtgokefodmjhhiaaGreatDoor
set_option linter.unusedVariables false
set_option linter.unusedSimpArgs false
def kindN (z : Int) : Nat := if z = 1 then 1 else if z = 2 then 2 else if z = 3 then 3 else 0
def toL (p : TokG) : TokL := ⟨kindN p.1, p.2.name, p.2.attrs, p.2.text⟩
/-- what htok.Write gives for one token, for all -/
def tokG (p : TokG) : List UInt8 := tokW (escQ false) (escQ true) (toL p)
def writeG (l : List TokG) : List UInt8 := l.flatMap tokG
theorem writeG_L (l : List TokG) : writeG l = writeTs (escQ false) (escQ true) (l.map toL) := by
  unfold writeG writeTs
  rw [List.flatMap_map]; rfl
theorem toL_kind {p : TokG} {n : Nat} (h : kindN p.1 = n) : (toL p).kind = n := h
theorem tokG_chars {p : TokG} (h : p.1 = 1) : tokG p = escQ false p.2.text := by
  have e : (toL p).kind = 1 := toL_kind (by rw [h]; rfl)
  unfold tokG tokW
  rw [if_pos e]; rfl
theorem tokG_start {p : TokG} (h : p.1 = 2) : tokG p = 60 :: (p.2.name ++ (attrsW (escQ true) p.2.attrs ++ [62])) := by
  have e : (toL p).kind = 2 := toL_kind (by rw [h]; rfl)
  unfold tokG tokW
  rw [if_neg (by rw [e]; decide), if_pos e]; rfl
theorem tokG_end {p : TokG} (h : p.1 = 3) : tokG p = 60 :: 47 :: (p.2.name ++ [62]) := by
  have e : (toL p).kind = 3 := toL_kind (by rw [h]; rfl)
  unfold tokG tokW
  rw [if_neg (by rw [e]; decide), if_neg (by rw [e]; decide), if_pos e]; rfl
theorem tokG_none {p : TokG} (h1 : p.1 ≠ 1) (h2 : p.1 ≠ 2) (h3 : p.1 ≠ 3) : tokG p = [] := by
  have e : (toL p).kind = 0 := toL_kind (by unfold kindN; rw [if_neg h1, if_neg h2, if_neg h3])
  unfold tokG tokW
  rw [if_neg (by rw [e]; decide), if_neg (by rw [e]; decide), if_neg (by rw [e]; decide)]
/-- few -/
def fitA (a : AtL) : Bool := decide (a.1.length ≤ 300) && decide (a.2.length ≤ 300)
def fitT (t : TokL) : Bool := decide (t.name.length ≤ 300) && (decide (t.text.length ≤ 300) && (decide (t.attrs.length ≤ 40) && t.attrs.all fitA))
def fewG (l : List TokG) : Bool := decide (l.length ≤ 60) && l.all (fun p => fitT p.2)
theorem fitT_len {t : TokL} (h : fitT t = true) : t.name.length ≤ 300 ∧ t.text.length ≤ 300 ∧ t.attrs.length ≤ 40 ∧ ∀ a ∈ t.attrs, a.1.length ≤ 300 ∧ a.2.length ≤ 300 := by
  unfold fitT at h
  simp only [Bool.and_eq_true, decide_eq_true_eq, List.all_eq_true, fitA] at h
  exact ⟨h.1, h.2.1, h.2.2.1, h.2.2.2⟩
theorem fewG_len {l : List TokG} (h : fewG l = true) : l.length ≤ 60 ∧ ∀ p ∈ l, fitT p.2 = true := by
  unfold fewG at h
  simp only [Bool.and_eq_true, decide_eq_true_eq, List.all_eq_true] at h
  exact h
theorem attrsW_len {A : List AtL} (h : ∀ a ∈ A, a.1.length ≤ 300 ∧ a.2.length ≤ 300) : (attrsW (escQ true) A).length ≤ 2104 * A.length := by
  unfold attrsW
  induction A with
  | nil => simp
  | cons a r ih =>
    have h1 := h a (List.mem_cons_self ..)
    have h2 := ih (fun x hx => h x (List.mem_cons_of_mem _ hx))
    have h3 := esc_len true a.2
    rw [List.flatMap_cons, List.length_append, List.length_cons]
    have e : (attrW (escQ true) a).length = a.1.length + (escQ true a.2).length + 4 := by
      unfold attrW; simp only [List.length_cons, List.length_append, List.length_nil]; omega
    rw [e]; omega
theorem tokG_len {p : TokG} (h : fitT p.2 = true) : (tokG p).length ≤ 84500 := by
  obtain ⟨h1, h2, h3, h4⟩ := fitT_len h
  by_cases k1 : p.1 = 1
  · rw [tokG_chars k1]; have := esc_len false p.2.text; omega
  by_cases k2 : p.1 = 2
  · rw [tokG_start k2]
    have := attrsW_len h4
    simp only [List.length_cons, List.length_append, List.length_nil]; omega
  by_cases k3 : p.1 = 3
  · rw [tokG_end k3]; simp only [List.length_cons, List.length_append, List.length_nil]; omega
  rw [tokG_none k1 k2 k3]; exact Nat.zero_le _
theorem writeG_len {l : List TokG} (h : ∀ p ∈ l, fitT p.2 = true) : (writeG l).length ≤ 84500 * l.length := by
  unfold writeG
  induction l with
  | nil => simp
  | cons p r ih =>
    have h1 := tokG_len (h p (List.mem_cons_self ..))
    have h2 := ih (fun x hx => h x (List.mem_cons_of_mem _ hx))
    rw [List.flatMap_cons, List.length_append, List.length_cons]; omega
instance decTK2 : DecidableEq (List UInt8 × List AtL) := inferInstance
instance decTK1 : DecidableEq (List UInt8 × List UInt8 × List AtL) := inferInstance
instance decTK0 : DecidableEq (Int × List UInt8 × List UInt8 × List AtL) := inferInstance
/-- the same, but for what a kind is called -/
def tokKey (p : TokG) : Int × List UInt8 × List UInt8 × List AtL := (p.1, p.2.name, p.2.text, p.2.attrs)
/-- a name of a letter, and small letters and digits -/
def smallB (c : UInt8) : Bool := decide (97 ≤ c.toNat) && decide (c.toNat ≤ 122)
def plainB (l : List UInt8) : Bool := match l with
  | [] => false
  | c :: r => smallB c && r.all fun x => smallB x || digitB x
theorem small_low (c : UInt8) (h : (smallB c || digitB c) = true) : (letterB c || digitB c) = true ∧ lowC c = c :=
  u8_all (p := fun c => (smallB c || digitB c) = true → ((letterB c || digitB c) = true ∧ lowC c = c)) (by decide +kernel) c h
theorem small_letter (c : UInt8) (h : smallB c = true) : letterB c = true :=
  u8_all (p := fun c => smallB c = true → letterB c = true) (by decide +kernel) c h
theorem low_of {l : List UInt8} (h : ∀ x ∈ l, lowC x = x) : lowL l = l := by
  unfold lowL
  exact (List.map_congr_left h).trans (List.map_id _)
theorem plain_ok {l : List UInt8} (h : plainB l = true) : nameOK l ∧ lowL l = l := by
  cases l with
  | nil => cases h
  | cons c r =>
    unfold plainB at h
    rw [Bool.and_eq_true, List.all_eq_true] at h
    have ha : ∀ x ∈ c :: r, (smallB x || digitB x) = true := fun x hx => by
      rcases List.mem_cons.1 hx with rfl | hx
      · rw [h.1]; rfl
      · exact h.2 x hx
    exact ⟨⟨c, r, rfl, small_letter c h.1, fun x hx => (small_low x (ha x hx)).1⟩, low_of fun x hx => (small_low x (ha x hx)).2⟩
/-- attributes of a clean begin: each name plain, and once -/
def onceB : List AtL → List AtL → Bool
  | _, [] => true
  | A, a :: r => (!(A.any fun b => b.1 == a.1) && plainB a.1) && onceB (A ++ [a]) r
def cleanB (p : TokG) (was : Int) : Bool :=
  if p.1 = 1 then p.2.name.isEmpty && (p.2.attrs.isEmpty && (!p.2.text.isEmpty && !decide (was = 1)))
  else if p.1 = 3 then plainB p.2.name && (p.2.attrs.isEmpty && p.2.text.isEmpty)
  else if p.1 = 2 then onceB [] p.2.attrs && (plainB p.2.name && (!(rawL.contains p.2.name) && (p.2.text.isEmpty && decide (p.2.attrs.length ≤ 30))))
  else false
def cleansB : Int → List TokG → Bool
  | _, [] => true
  | was, p :: r => cleanB p was && cleansB p.1 r
theorem once_ok : ∀ (Bs A : List AtL), onceB A Bs = true → A.Pairwise (fun a b => a.1 ≠ b.1) → (A ++ Bs).Pairwise (fun a b => a.1 ≠ b.1) ∧ ∀ a ∈ Bs, plainB a.1 = true
  | [], A, _, hA => ⟨by rw [List.append_nil]; exact hA, fun a h => by cases h⟩
  | a :: r, A, h, hA => by
    unfold onceB at h
    simp only [Bool.and_eq_true, Bool.not_eq_true', List.any_eq_false] at h
    obtain ⟨⟨h1, h2⟩, h3⟩ := h
    have hA2 : (A ++ [a]).Pairwise (fun a b => a.1 ≠ b.1) := by
      rw [List.pairwise_append]
      refine ⟨hA, List.pairwise_singleton _ _, fun x hx y hy => ?_⟩
      obtain rfl := List.mem_singleton.1 hy
      have := h1 x hx
      simpa using this
    obtain ⟨i1, i2⟩ := once_ok r (A ++ [a]) h3 hA2
    refine ⟨by simpa using i1, fun b hb => ?_⟩
    rcases List.mem_cons.1 hb with rfl | hb
    · exact h2
    · exact i2 b hb
theorem nil_of {α : Type} {l : List α} (h : l.isEmpty = true) : l = [] := by cases l with | nil => rfl | cons _ _ => cases h
theorem clean_read {p : TokG} {was : Int} (h : cleanB p was = true) : ReadT (toL p) (toL p) ∧ (kindN p.1 : Int) = p.1 ∧ (p.1 = 1 → was ≠ 1) := by
  unfold cleanB at h
  by_cases k1 : p.1 = 1
  · rw [if_pos k1] at h
    simp only [Bool.and_eq_true, Bool.not_eq_true', decide_eq_false_iff_not] at h
    obtain ⟨h1, h2, h3, h4⟩ := h
    refine ⟨⟨rfl, rfl, rfl, .inl ⟨by show kindN p.1 = 1; rw [k1]; rfl, nil_of h1, nil_of h2, fun e => ?_⟩⟩, by rw [k1]; rfl, fun _ => h4⟩
    have e2 : p.2.text = [] := e
    rw [e2] at h3; cases h3
  rw [if_neg k1] at h
  by_cases k3 : p.1 = 3
  · rw [if_pos k3] at h
    simp only [Bool.and_eq_true] at h
    obtain ⟨h1, h2, h3⟩ := h
    obtain ⟨n1, n2⟩ := plain_ok h1
    exact ⟨⟨rfl, rfl, rfl, .inr (.inl ⟨by show kindN p.1 = 3; rw [k3]; rfl, n1, n2, nil_of h2, nil_of h3⟩)⟩, by rw [k3]; rfl, fun e => absurd e k1⟩
  rw [if_neg k3] at h
  by_cases k2 : p.1 = 2
  · rw [if_pos k2] at h
    simp only [Bool.and_eq_true, Bool.not_eq_true', decide_eq_true_eq] at h
    obtain ⟨h1, h2, h3, h4, h5⟩ := h
    obtain ⟨n1, n2⟩ := plain_ok h2
    obtain ⟨o1, o2⟩ := once_ok _ _ h1 List.Pairwise.nil
    exact ⟨⟨rfl, rfl, rfl, .inr (.inr ⟨by show kindN p.1 = 2; rw [k2]; rfl, n1, n2, nil_of h4, fun a ha => plain_ok (o2 a ha), o1, h5, h3⟩)⟩, by rw [k2]; rfl, fun e => absurd e k1⟩
  rw [if_neg k2] at h
  cases h
theorem cleans_read : ∀ (l : List TokG) (was : Int), cleansB was l = true → TokR (l.map toL) (l.map toL) ∧ (∀ (i : Nat) (a b : TokL), (l.map toL)[i]? = some a → (l.map toL)[i + 1]? = some b → ¬ (a.kind = 1 ∧ b.kind = 1)) ∧
    (∀ p, l.head? = some p → p.1 = 1 → was ≠ 1) ∧ ∀ p ∈ l, (kindN p.1 : Int) = p.1
  | [], _, _ => ⟨.nil, fun i a b h => by simp at h, fun p h => by simp at h, fun p h => by cases h⟩
  | p :: r, was, h => by
    unfold cleansB at h
    rw [Bool.and_eq_true] at h
    obtain ⟨c1, c2, c3⟩ := clean_read h.1
    obtain ⟨i1, i2, i3, i4⟩ := cleans_read r p.1 h.2
    refine ⟨.cons c1 i1, fun i a b ha hb => ?_, fun q hq => ?_, fun q hq => ?_⟩
    · cases i with
      | zero =>
        simp only [List.map_cons, List.getElem?_cons_zero, Option.some.injEq] at ha
        subst ha
        rintro ⟨k1, k2⟩
        rw [show 0 + 1 = 0 + 1 from rfl, List.map_cons, List.getElem?_cons_succ, List.getElem?_map] at hb
        obtain ⟨q, hq, rfl⟩ := Option.map_eq_some_iff.1 hb
        have hk : ∀ z : TokG, (toL z).kind = 1 → (kindN z.1 : Int) = z.1 → z.1 = 1 := fun z h1 h2 => by
          have h3 : kindN z.1 = 1 := h1
          rw [h3] at h2; exact h2.symm
        have e1 := hk p k1 c2
        have e2 := hk q k2 (i4 q (List.mem_of_getElem? hq))
        exact i3 q (by rw [List.head?_eq_getElem?]; exact hq) e2 e1
      | succ i => exact i2 i a b (by simpa using ha) (by simpa using hb)
    · simp only [List.head?_cons, Option.some.injEq] at hq
      subst hq
      exact c3
    · rcases List.mem_cons.1 hq with rfl | hq
      · exact c2
      · exact i4 q hq
theorem tokKey_toL {l : List TokG} (h : ∀ p ∈ l, (kindN p.1 : Int) = p.1) : ((l.map toL).map gOf).map tokKey = l.map tokKey := by
  rw [List.map_map, List.map_map]
  refine List.map_congr_left fun p hp => ?_
  show tokKey (gOf (toL p)) = tokKey p
  unfold tokKey gOf toL
  simp only
  rw [h p hp]
theorem escOK : EscOK decE (escQ false) (escQ true) := by
  refine ⟨fun x h => (esc_no false x 60 h).1 rfl, dec_esc false, fun x hx e => ?_, fun x h => (esc_no true x 34 h).2.2 rfl rfl, dec_esc true⟩
  apply hx
  rw [← dec_esc false x, e]
  exact decE_nil
/-- tokens that are written are read to the same -/
theorem scan_back {l : List TokG} (h : cleansB 0 l = true) : scanL decE [] [] (writeG l) = l.map toL ∧ ∀ p ∈ l, (kindN p.1 : Int) = p.1 := by
  obtain ⟨h1, h2, _, h4⟩ := cleans_read l 0 h
  refine ⟨?_, h4⟩
  rw [writeG_L, scan_write escOK _ _ h1 h2 [] [] (.inl rfl)]
  rfl
/-- what HtokText asks: a text that is not empty is read to one that is not -/
theorem decE_ne {l : List UInt8} (h : l ≠ []) : decE l ≠ [] := by
  cases l with
  | nil => exact absurd rfl h
  | cons c r =>
    by_cases hc : c = 38
    · subst hc
      rw [decE_amp]
      split
      · intro e
        have := List.append_eq_nil_iff.1 e
        have h2 := (runeL_length (refN r).1).1
        rw [this.1] at h2
        exact absurd h2 (by decide)
      · simp
    · rw [decE_cons hc]; simp
end Go.Proofs.YtgokefodmjhhiaaGreatDoor

