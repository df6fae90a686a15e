import Derived.Test.YtiejmkjpgjbodaaGreatDoorBaseM
namespace Go.Proofs.YtiejmkjpgjbodaaGreatDoor
open Go.RowKit
set_option linter.unusedVariables false
set_option linter.unusedSimpArgs false
def spaceB (c:UInt8):Bool:=whiteSet.contains c
theorem space_case (c:UInt8):(c = 32 /\ spaceB c = true) \/ (c ≠ 32 /\ ((c = 9 /\ spaceB c = true) \/ (c ≠ 9 /\ ((c = 10 /\ spaceB c = true) \/ (c ≠ 10 /\ ((c = 12 /\ spaceB c = true) \/ (c ≠ 12 /\ ((c = 13 /\ spaceB c = true) \/ (c ≠ 13 /\ spaceB c = false))))))))) :=
 u8_all (p:=fun c=>(c = 32 /\ spaceB c = true) \/ (c ≠ 32 /\ ((c = 9 /\ spaceB c = true) \/ (c ≠ 9 /\ ((c = 10 /\ spaceB c = true) \/ (c ≠ 10 /\ ((c = 12 /\ spaceB c = true) \/ (c ≠ 12 /\ ((c = 13 /\ spaceB c = true) \/ (c ≠ 13 /\ spaceB c = false)))))))))) (by decide +kernel) c
set_option maxHeartbeats 1000000 in
theorem space_any (c:UInt8) (w:World) :
  Calls Tryz.prog 153 #[.int .u8 c.toNat] w fun e w'=>e = .returned (.bool (spaceB c)) /\ w = w':=by
 have hcase:=space_case c;generalize spaceB c = sb at hcase;rcases hcase with ⟨h,rfl⟩ | ⟨h1,⟨h,rfl⟩ | ⟨h2,⟨h,rfl⟩ | ⟨h3,⟨h,rfl⟩ | ⟨h4,⟨h,rfl⟩ | ⟨h5,rfl⟩⟩⟩⟩⟩
 iterate 5
  ·subst h;go_enter Tryz.func153,Tryz.ntmps153;go_wp2;go_ret;exact ⟨rfl,rfl⟩
 ·have t1:((c.toNat:Int) == 32) = false:=tF 32 h1 (by omega);have t2:((c.toNat:Int) == 9) = false:=tF 9 h2 (by omega);have t3:((c.toNat:Int) == 10) = false:=tF 10 h3 (by omega);have t4:((c.toNat:Int) == 12) = false:=tF 12 h4 (by omega);have t5:((c.toNat:Int) == 13) = false:=tF 13 h5 (by omega);clear h1 h2 h3 h4 h5;go_enter Tryz.func153,Tryz.ntmps153;go_wp2;go_ret;exact ⟨rfl,rfl⟩
def leftW (l:List UInt8):List UInt8:=l.dropWhile spaceB
def rightW (l:List UInt8):List UInt8:=(l.reverse.dropWhile spaceB).reverse
theorem rightW_snoc (l:List UInt8) (c:UInt8):rightW (l ++ [c]) = if spaceB c then rightW l else l ++ [c]:=by
 unfold rightW;rw [List.reverse_append];show (List.dropWhile spaceB (c :: l.reverse)).reverse = _
 rw [List.dropWhile_cons];split
 ·rfl
 ·simp
theorem leftW_cons (c:UInt8) (l:List UInt8):leftW (c :: l) = if spaceB c then leftW l else c :: l:=by
 unfold leftW;rw [List.dropWhile_cons]
theorem trim_eq (l:List UInt8):Lib.trimS l whiteSet = leftW (rightW l):=rfl
theorem rightW_cons {c:UInt8} (h:spaceB c = false) (l:List UInt8):rightW (c :: l) = c :: rightW l:=by
 suffices H:∀ k:List UInt8,rightW (c :: k.reverse) = c :: rightW k.reverse by
  have:=H l.reverse;rwa [List.reverse_reverse] at this
 intro k
 induction k with
 | nil =>
  show rightW ([] ++ [c]) = _
  rw [rightW_snoc,h];rfl
 | cons d k ih =>
  rw [List.reverse_cons,<- List.cons_append,rightW_snoc,rightW_snoc,ih];split <;> rfl
theorem rightW_all (l:List UInt8) (h:∀ c ∈ l,spaceB c = true):rightW l = []:=by
 unfold rightW;rw [List.reverse_eq_nil_iff];have h':∀ c ∈ l.reverse,spaceB c = true:=fun c hc=>h c (List.mem_reverse.1 hc)
 generalize l.reverse = k at h'
 induction k with
 | nil=>rfl
 | cons c k ih=>rw [List.dropWhile_cons,h' c (List.mem_cons_self ..)];exact ih (fun x hx=>h' x (List.mem_cons_of_mem _ hx))
theorem lr (l : List UInt8) : leftW (rightW l) = rightW (leftW l) := by
  induction l with
  | nil => rfl
  | cons c l ih =>
    cases h : spaceB c with
    | false =>
      rw [rightW_cons h, leftW_cons, leftW_cons, h]
      simp only [Bool.false_eq_true, if_false]
      rw [rightW_cons h]
    | true =>
      rw [leftW_cons, h]
      simp only [if_true]
      rw [← ih]
      by_cases hall : ∀ x ∈ l, spaceB x = true
      · rw [rightW_all l hall, rightW_all (c :: l) (fun x hx => by rcases List.mem_cons.1 hx with e | e; · rw [e]; exact h
                                                                   · exact hall x e)]
      · have key : rightW (c :: l) = c :: rightW l := by
          suffices H : ∀ k : List UInt8, (¬ ∀ x ∈ k.reverse, spaceB x = true) → rightW (c :: k.reverse) = c :: rightW k.reverse by
            have := H l.reverse; rw [List.reverse_reverse] at this; exact this hall
          intro k
          induction k with
          | nil => intro hn; exact absurd (fun x hx => by cases hx) hn
          | cons d k ihk =>
            intro hn
            rw [List.reverse_cons, ← List.cons_append, rightW_snoc, rightW_snoc]
            cases hd : spaceB d with
            | false => rfl
            | true =>
              simp only [if_true]
              refine ihk (fun hk => hn (fun x hx => ?_))
              rw [List.reverse_cons, List.mem_append] at hx
              rcases hx with hx | hx
              · exact hk x hx
              · rw [List.mem_singleton.1 hx]; exact hd
        rw [key, leftW_cons, h]; rfl
theorem snoc_of (u:ByteArray) (n:Nat) (hn:u.size = n + 1):u.data.toList = (u.extract 0 n).data.toList ++ [u[n]'(by omega)]:=by
 rw [extract_list,List.drop_zero,<- take_snoc u n (by omega),List.take_of_length_le (by rw [toList_length];omega)]
def szOfC:Value -> Nat
  | .string t=>t.size
  | _=>0
end Go.Proofs.YtiejmkjpgjbodaaGreatDoor
