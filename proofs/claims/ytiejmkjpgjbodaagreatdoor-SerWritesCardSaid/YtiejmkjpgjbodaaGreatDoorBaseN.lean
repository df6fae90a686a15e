/- More of the first texts of this claim in one: each with its own head. No statement is proved here. -/
import Derived.Test.YtiejmkjpgjbodaaGreatDoorProg
import Derived.ProofKit
import Derived.Test.YtiejmkjpgjbodaaGreatDoorBaseM
import Derived.Laws.AppendOwnNone
import Derived.Test.YtiejmkjpgjbodaaGreatDoorShelf
import Derived.Lib.Builder
import Derived.Laws.Externs
import Derived.DataElems
import Derived.Laws.OwnMore
import Derived.Lib.UnsafeStr
import Derived.BigRegion
import Derived.Deep.RegionWith
import Derived.Deep.LoopGhost
import Derived.IntWalk
import Derived.Deep.QuietTactic
import Derived.BigQuiet
namespace Go.Proofs.YtiejmkjpgjbodaaGreatDoor
open Go.RowKit
set_option linter.unusedVariables false
set_option linter.unusedSimpArgs false
set_option maxRecDepth 100000
set_option maxHeartbeats 16000000
abbrev AtL:=List UInt8 × List UInt8
structure NdH where
  name:List UInt8
  attrs:List AtL
  text:List UInt8
deriving DecidableEq
inductive Tr where
  | nil:Tr
  | cons:NdH -> Tr -> Tr -> Tr
deriving DecidableEq
def Tr.len:Tr -> Nat
  | .nil=>0
  | .cons _ _ r=>r.len + 1
def Tr.count:Tr -> Nat
  | .nil=>0
  | .cons _ k r=>1 + k.count + r.count
def Tr.depth:Tr -> Nat
  | .nil=>0
  | .cons _ k r=>max (1 + k.depth) r.depth
def Tr.app:Tr -> Tr -> Tr
  | .nil,t=>t
  | .cons h k r,t=>.cons h k (r.app t)
def Tr.list:Tr -> List (NdH × Tr)
  | .nil=>[]
  | .cons h k r=>(h,k) :: r.list
def Tr.of:List (NdH × Tr) -> Tr
  | []=>.nil
  | (h,k) :: r=>.cons h k (Tr.of r)
def Tr.drop:Nat -> Tr -> Tr
  | 0,t=>t
  | _ + 1,.nil=>.nil
  | n + 1,.cons _ _ r=>Tr.drop n r
theorem Tr.of_list (t:Tr):Tr.of t.list = t:=by induction t with
 | nil=>rfl
 | cons h k r _ ih=>simp [Tr.list,Tr.of,ih]
theorem Tr.list_of (l:List (NdH × Tr)):(Tr.of l).list = l:=by induction l with
 | nil=>rfl
 | cons p r ih=>simp [Tr.list,Tr.of,ih]
theorem Tr.len_list (t:Tr):t.list.length = t.len:=by induction t with
 | nil=>rfl
 | cons h k r _ ih=>simp [Tr.list,Tr.len,ih]
theorem Tr.len_of (l:List (NdH × Tr)):(Tr.of l).len = l.length:=by rw [<- Tr.len_list,Tr.list_of]
theorem Tr.len_count (t:Tr):t.len <= t.count:=by induction t with
 | nil=>exact Nat.le_refl _
 | cons h k r _ ih=>simp only [Tr.len,Tr.count];omega
theorem Tr.list_inj {a b:Tr} (h:a.list = b.list):a = b:=by rw [<- Tr.of_list a,h,Tr.of_list]
theorem Tr.list_app (a b:Tr):(a.app b).list = a.list ++ b.list:=by induction a with
 | nil=>rfl
 | cons h k r _ ih=>simp [Tr.app,Tr.list,ih]
theorem Tr.drop_cons (n:Nat) (t:Tr) (h:n < t.len):∃ p k,Tr.drop n t = .cons p k (Tr.drop (n + 1) t) /\ t.list[n]? = some (p,k):=by
 induction n generalizing t with
 | zero=>cases t with
  | nil=>exact absurd h (Nat.not_lt_zero _)
  | cons p k r=>exact ⟨p,k,rfl,rfl⟩
 | succ n ih=>cases t with
  | nil=>exact absurd h (Nat.not_lt_zero _)
  | cons p k r =>
   obtain ⟨p',k',h1,h2⟩:=ih r (by simp only [Tr.len] at h;omega);exact ⟨p',k',h1,by simpa [Tr.list] using h2⟩
theorem Tr.at_count {t:Tr} {n:Nat} {p:NdH} {k:Tr} (h:t.list[n]? = some (p,k)):k.count < t.count:=by
 induction n generalizing t with
 | zero=>cases t with
  | nil=>cases h
  | cons h' k' r=>simp [Tr.list] at h;obtain ⟨rfl,rfl⟩:=h;simp only [Tr.count];omega
 | succ n ih=>cases t with
  | nil=>cases h
  | cons h' k' r=>have:=ih (t:=r) (by simpa [Tr.list] using h);simp only [Tr.count];omega
def Tr.all (f:NdH -> Bool):Tr -> Bool
  | .nil=>true
  | .cons h k r=>f h && (k.all f && r.all f)
theorem Tr.all_at {f:NdH -> Bool} {t:Tr} {n:Nat} {p:NdH} {k:Tr} (ha:t.all f = true) (h:t.list[n]? = some (p,k)):f p = true /\ k.all f = true:=by
 induction n generalizing t with
 | zero=>cases t with
  | nil=>cases h
  | cons h' k' r =>
   simp only [Tr.all,Bool.and_eq_true] at ha;simp [Tr.list] at h;obtain ⟨rfl,rfl⟩:=h;exact ⟨ha.1,ha.2.1⟩
 | succ n ih=>cases t with
  | nil=>cases h
  | cons h' k' r =>
   simp only [Tr.all,Bool.and_eq_true] at ha;exact ih (t:=r) ha.2.2 (by simpa [Tr.list] using h)
section
variable {σ:Type} (bg:σ -> NdH -> Tr -> σ) (en:σ -> NdH -> σ) (dv:NdH -> Bool)
def inner (h:NdH) (K:Tr):Tr:=if dv h = true then K else .nil
def vis:Tr -> σ -> σ
  | .nil,s=>s
  | .cons h K R,s=>vis R (en (if dv h = true then vis K (bg s h K) else bg s h K) h)
theorem vis_inner (h:NdH) (K:Tr) (s:σ):(if dv h = true then vis bg en dv K s else s) = vis bg en dv (inner dv h K) s:=by
 unfold inner;split <;> rfl
def unw:List (NdH × Tr) -> σ -> σ
  | [],s=>s
  | [p],s=>vis bg en dv p.2 s
  | p :: q :: r,s=>unw (q :: r) (en (vis bg en dv p.2 s) p.1)
theorem unw_visit (h0 h:NdH) (K R:Tr) (rest:List (NdH × Tr)) (s:σ):unw bg en dv ((h0,.cons h K R) :: rest) s = unw bg en dv ((h,inner dv h K) :: (h0,R) :: rest) (bg s h K):=by
 have e:vis bg en dv (.cons h K R) s = vis bg en dv R (en (vis bg en dv (inner dv h K) (bg s h K)) h):=by
  rw [vis,vis_inner]
 cases rest with
 | nil=>simp only [unw,e]
 | cons p r=>simp only [unw,e]
variable (μ:σ -> Nat) (hb:∀ s h K,μ s <= μ (bg s h K)) (he:∀ s h,μ s <= μ (en s h))
include hb he
theorem vis_mono (T:Tr) (s:σ):μ s <= μ (vis bg en dv T s):=by
 induction T generalizing s with
 | nil=>exact Nat.le_refl _
 | cons h K R ihK ihR =>
  rw [vis];refine Nat.le_trans ?_ (ihR _);refine Nat.le_trans ?_ (he _ _);split
  ·exact Nat.le_trans (hb s h K) (ihK _)
  ·exact hb s h K
theorem unw_mono (st:List (NdH × Tr)) (s:σ):μ s <= μ (unw bg en dv st s):=by
 induction st generalizing s with
 | nil=>exact Nat.le_refl _
 | cons p r ih=>cases r with
  | nil=>exact vis_mono bg en dv μ hb he _ _
  | cons q r=>exact Nat.le_trans (Nat.le_trans (vis_mono bg en dv μ hb he _ _) (he _ _)) (ih _)
end
def Tr.ev (G:NdH -> Tr -> Prop):Tr -> Prop
  | .nil=>True
  | .cons h K R=>G h K /\ K.ev G /\ R.ev G
theorem Tr.ev_true (T:Tr):T.ev (fun _ _=>True):=by
 induction T with
 | nil=>trivial
 | cons h K R a b=>exact ⟨trivial,a,b⟩
def stepsW:List (NdH × Tr) -> Nat
  | []=>0
  | p :: r=>2 * p.2.count + 1 + stepsW r
theorem inner_count (dv:NdH -> Bool) (h:NdH) (K:Tr):(inner dv h K).count <= K.count:=by
 unfold inner;split
 ·exact Nat.le_refl _
 ·exact Nat.zero_le _
theorem inner_ev {G:NdH -> Tr -> Prop} (dv:NdH -> Bool) {h:NdH} {K:Tr} (hk:K.ev G):(inner dv h K).ev G:=by
 unfold inner;split
 ·exact hk
 ·trivial
theorem steps_len (st:List (NdH × Tr)):st.length <= stepsW st:=by
 induction st with
 | nil=>exact Nat.le_refl _
 | cons p r ih=>simp only [List.length_cons,stepsW];omega
def beforeC (c:UInt8) (l:List UInt8):List UInt8:=l.takeWhile fun x=>x != c
def hasC (c:UInt8) (l:List UInt8):Bool:=decide (c ∈ l)
theorem hasC_true {c:UInt8} {l:List UInt8} (h:c ∈ l):hasC c l = true:=decide_eq_true h
theorem hasC_false {c:UInt8} {l:List UInt8} (h:c ∉ l):hasC c l = false:=decide_eq_false h
def afterC (c:UInt8) (l:List UInt8):List UInt8:=(l.dropWhile fun x=>x != c).drop 1
theorem cut_at (c:UInt8) (l:List UInt8) (o:Nat) (ho:o < l.length) (h:l[o] = c) (hb:∀ j (hj:j < o),l[j]'(Nat.lt_trans hj ho) ≠ c):c ∈ l /\ beforeC c l = l.take o /\ afterC c l = l.drop (o + 1):=by
 refine ⟨h ▸ List.getElem_mem ho,?_⟩
 induction o generalizing l with
 | zero =>
  match l,ho,h with
  | a :: l,_,h =>
   have:(a != c) = false:=by rw [bne_eq_false_iff_eq];exact h
   unfold beforeC afterC;rw [List.takeWhile_cons,List.dropWhile_cons,this];simp
 | succ o ih =>
  match l,ho,h,hb with
  | a :: l,ho,h,hb =>
   have h1:(a != c) = true:=by rw [bne_iff_ne];exact hb 0 (by omega)
   have:=ih l (by simpa using ho) (by simpa using h) (fun j hj=>by simpa using hb (j + 1) (by omega));unfold beforeC afterC at this ⊢;rw [List.takeWhile_cons,List.dropWhile_cons,h1];simp [this]
theorem cut_case (c:UInt8) (l:List UInt8):(c ∉ l /\ beforeC c l = l /\ afterC c l = []) \/ ∃ a r,l = a ++ c :: r /\ c ∉ a /\ beforeC c l = a /\ afterC c l = r:=by
 induction l with
 | nil=>exact .inl ⟨by simp,rfl,rfl⟩
 | cons x l ih =>
  by_cases hx:x = c
  ·subst hx;exact .inr ⟨[],l,rfl,by simp,by simp [beforeC],by simp [afterC]⟩
  ·have hne:(x != c) = true:=by rw [bne_iff_ne];exact hx
   have e1:beforeC c (x :: l) = x :: beforeC c l:=by unfold beforeC;rw [List.takeWhile_cons,hne];rfl
   have e2:afterC c (x :: l) = afterC c l:=by unfold afterC;rw [List.dropWhile_cons,hne];rfl
   rcases ih with ⟨h1,h2,h3⟩ | ⟨a,r,h1,h2,h3,h4⟩
   ·exact .inl ⟨by simp [h1];exact fun e=>hx e.symm,by rw [e1,h2],by rw [e2,h3]⟩
   ·exact .inr ⟨x :: a,r,by rw [h1];rfl,by simp [h2];exact fun e=>hx e.symm,by rw [e1,h3],by rw [e2,h4]⟩
def rawL:List (List UInt8):=[
  [115,99,114,105,112,116],
  [115,116,121,108,101],
  [116,105,116,108,101],
  [116,101,120,116,97,114,101,97],
  [120,109,112],
  [105,102,114,97,109,101],
  [110,111,101,109,98,101,100],
  [110,111,102,114,97,109,101,115],
  [112,108,97,105,110,116,101,120,116],
  [110,111,115,99,114,105,112,116]]
theorem rawL_cases (n:List UInt8) (h:rawL.contains n = true):n = [115,99,114,105,112,116] \/ n = [115,116,121,108,101] \/ n = [116,105,116,108,101] \/ n = [116,101,120,116,97,114,101,97] \/ n = [120,109,112] \/ n = [105,102,114,97,109,101] \/ n = [110,111,101,109,98,101,100] \/ n = [110,111,102,114,97,109,101,115] \/ n = [112,108,97,105,110,116,101,120,116] \/ n = [110,111,115,99,114,105,112,116]:=by
 simpa [rawL] using h
theorem rawL_none (n:List UInt8) (h:rawL.contains n = false):n ≠ [115,99,114,105,112,116] /\ n ≠ [115,116,121,108,101] /\ n ≠ [116,105,116,108,101] /\ n ≠ [116,101,120,116,97,114,101,97] /\ n ≠ [120,109,112] /\ n ≠ [105,102,114,97,109,101] /\ n ≠ [110,111,101,109,98,101,100] /\ n ≠ [110,111,102,114,97,109,101,115] /\ n ≠ [112,108,97,105,110,116,101,120,116] /\ n ≠ [110,111,115,99,114,105,112,116]:=by
 simpa [rawL] using h
structure TokL where
  kind:Nat
  name:List UInt8
  attrs:List AtL
  text:List UInt8
def whB (c:UInt8):Bool:=c == 32 || (c == 9 || (c == 10 || (c == 12 || c == 13)))
def whs (c:UInt8):Bool:=whB c || c == 47
def nameEndB (c:UInt8):Bool:=whB c || (c == 47 || c == 62)
def attrEndB (c:UInt8):Bool:=nameEndB c || c == 61
def valueEndB (c:UInt8):Bool:=whB c || c == 62
def upL (p:UInt8 -> Bool) (l:List UInt8):List UInt8 × List UInt8:=(l.takeWhile fun c=>!p c,l.dropWhile fun c=>!p c)
theorem upL_len (p:UInt8 -> Bool) (l:List UInt8):(upL p l).1.length + (upL p l).2.length = l.length:=by
 unfold upL;rw [<- List.length_append,List.takeWhile_append_dropWhile]
theorem drop_len (p:UInt8 -> Bool) (l:List UInt8):(l.dropWhile p).length <= l.length:=(List.dropWhile_sublist p).length_le
theorem afterC_le13 (c:UInt8) (l:List UInt8):(afterC c l).length <= l.length:=by
 unfold afterC;have:=drop_len (fun x=>x != c) l
 rw [List.length_drop];omega
def valueL (l:List UInt8):List UInt8 × List UInt8:=match l with
  | []=>([],[])
  | c :: r=>if c = 34 then (beforeC 34 r,afterC 34 r) else if c = 39 then (beforeC 39 r,afterC 39 r) else upL valueEndB (c :: r)
theorem valueL_len (l:List UInt8):(valueL l).2.length <= l.length:=by
 unfold valueL;cases l with
 | nil=>exact Nat.le_refl _
 | cons c r =>
  simp only;split
  ·have:=afterC_le13 34 r;simp only [List.length_cons];omega
  ·split
   ·have:=afterC_le13 39 r;simp only [List.length_cons];omega
   ·have:=upL_len valueEndB (c :: r);omega
def attrL (dec:List UInt8 -> List UInt8) (l:List UInt8):AtL × List UInt8:=match l with
  | []=>(([],[]),[])
  | c :: r =>
    match (upL attrEndB r).2.dropWhile whB with
    | 61 :: b=>((lowL (c :: (upL attrEndB r).1),dec (valueL (b.dropWhile whB)).1),(valueL (b.dropWhile whB)).2)
    | _=>((lowL (c :: (upL attrEndB r).1),[]),(upL attrEndB r).2)
theorem attrL_len (dec:List UInt8 -> List UInt8) (c:UInt8) (r:List UInt8):(attrL dec (c :: r)).2.length <= r.length:=by
 have h1:=upL_len attrEndB r;have h2:=drop_len whB (upL attrEndB r).2;unfold attrL;simp only;split
 ·rename_i b hb;rw [hb] at h2;have h3:=drop_len whB b;have h4:=valueL_len (b.dropWhile whB);simp only [List.length_cons] at h2;show (valueL (b.dropWhile whB)).2.length <= _
  omega
 ·show (upL attrEndB r).2.length <= _
  omega
theorem attrL_val {dec:List UInt8 -> List UInt8} {c:UInt8} {r b:List UInt8} (h:(upL attrEndB r).2.dropWhile whB = 61 :: b) :
  attrL dec (c :: r) = ((lowL (c :: (upL attrEndB r).1),dec (valueL (b.dropWhile whB)).1),(valueL (b.dropWhile whB)).2):=by
 unfold attrL;simp only [h]
theorem attrL_none {dec:List UInt8 -> List UInt8} {c:UInt8} {r:List UInt8} (h:∀ b,(upL attrEndB r).2.dropWhile whB ≠ 61 :: b) :
  attrL dec (c :: r) = ((lowL (c :: (upL attrEndB r).1),[]),(upL attrEndB r).2):=by
 unfold attrL;simp only
def countsB (A:List AtL) (n:List UInt8):Bool:=decide (A.length < 30) && !(A.any fun a=>a.1 == n)
def attrsLL (dec:List UInt8 -> List UInt8) (A:List AtL) (l:List UInt8):Option (List AtL × List UInt8) :=
  match h:l.dropWhile whs with
  | []=>none
  | c :: r =>
    if c = 62 then some (A,r)
    else attrsLL dec (if countsB A (attrL dec (c :: r)).1.1 = true then A ++ [(attrL dec (c :: r)).1] else A) (attrL dec (c :: r)).2
termination_by l.length
decreasing_by
  have h1:=drop_len whs l
  rw [h] at h1
  have h2:=attrL_len dec c r
  simp only [List.length_cons] at h1
  omega
theorem attrsLL_nil {dec:List UInt8 -> List UInt8} {A:List AtL} {l:List UInt8} (h:l.dropWhile whs = []):attrsLL dec A l = none:=by
 rw [attrsLL];split
 ·rfl
 ·rename_i c r h2;rw [h] at h2;cases h2
theorem attrsLL_end {dec:List UInt8 -> List UInt8} {A:List AtL} {l r:List UInt8} (h:l.dropWhile whs = 62 :: r):attrsLL dec A l = some (A,r):=by
 rw [attrsLL];split
 ·rename_i h2;rw [h] at h2;cases h2
 ·rename_i c r2 h2;rw [h] at h2;injection h2 with h3 h4;subst h3 h4;rw [if_pos rfl]
theorem attrsLL_go {dec:List UInt8 -> List UInt8} {A:List AtL} {l r:List UInt8} {c:UInt8} (h:l.dropWhile whs = c :: r) (hc:c ≠ 62) :
  attrsLL dec A l = attrsLL dec (if countsB A (attrL dec (c :: r)).1.1 = true then A ++ [(attrL dec (c :: r)).1] else A) (attrL dec (c :: r)).2:=by
 rw [attrsLL];split
 ·rename_i h2;rw [h] at h2;cases h2
 ·rename_i c2 r2 h2;rw [h] at h2;injection h2 with h3 h4;subst h3 h4;rw [if_neg hc]
theorem attrsLL_ind (dec:List UInt8 -> List UInt8) {P:List AtL -> List UInt8 -> Prop}
  (hstep:∀ A l c r,l.dropWhile whs = c :: r -> c ≠ 62 -> P A l -> P (if countsB A (attrL dec (c :: r)).1.1 = true then A ++ [(attrL dec (c :: r)).1] else A) (attrL dec (c :: r)).2) :
  ∀ (k:Nat) (A:List AtL) (l:List UInt8),l.length <= k -> P A l -> ∀ B b,attrsLL dec A l = some (B,b) -> ∃ l',P B l' /\ l'.dropWhile whs = 62 :: b:=by
 intro k
 induction k with
 | zero =>
  intro A l hl hP B b hb;obtain rfl:l = []:=List.eq_nil_of_length_eq_zero (by omega);rw [attrsLL_nil rfl] at hb;cases hb
 | succ k ih =>
  intro A l hl hP B b hb;cases hd:l.dropWhile whs with
  | nil=>rw [attrsLL_nil hd] at hb;cases hb
  | cons c r =>
   have h1:=drop_len whs l;rw [hd] at h1;simp only [List.length_cons] at h1
   by_cases hc:c = 62
   ·subst hc;rw [attrsLL_end hd] at hb;injection hb with hb;injection hb with hb1 hb2;subst hb1 hb2;exact ⟨l,hP,hd⟩
   ·rw [attrsLL_go hd hc] at hb;have h2:=attrL_len dec c r;exact ih _ _ (by omega) (hstep A l c r hd hc hP) B b hb
theorem attrsLL_len {dec:List UInt8 -> List UInt8} {A:List AtL} {l:List UInt8} {B:List AtL} {b:List UInt8} (h:attrsLL dec A l = some (B,b)):b.length < l.length:=by
 obtain ⟨l',h1,h2⟩:=attrsLL_ind dec (P:=fun _ x=>x.length <= l.length) (fun A x c r hx hc hP=>by
  have h1:=drop_len whs x;rw [hx] at h1;simp only [List.length_cons] at h1;have h2:=attrL_len dec c r;omega) l.length A l (Nat.le_refl _) (Nat.le_refl _) B b h
 have h3:=drop_len whs l';rw [h2] at h3;simp only [List.length_cons] at h3;omega
def tagL (dec:List UInt8 -> List UInt8) (l:List UInt8):Option (List UInt8 × List AtL × List UInt8) :=
  match attrsLL dec [] (upL nameEndB l).2 with
  | none=>none
  | some (A,b)=>some (lowL (upL nameEndB l).1,A,b)
theorem tagL_len {dec:List UInt8 -> List UInt8} {l n b:List UInt8} {A:List AtL} (h:tagL dec l = some (n,A,b)):b.length < l.length:=by
 unfold tagL at h;have h1:=upL_len nameEndB l;cases ha:attrsLL dec [] (upL nameEndB l).2 with
 | none=>rw [ha] at h;cases h
 | some p =>
  obtain ⟨B,x⟩:=p;rw [ha] at h;have h2:=attrsLL_len ha;injection h with h;injection h with _ h;injection h with _ h;rw [<- h];omega
def rawEndB (n l:List UInt8):Bool:=match l with
  | 60 :: 47 :: r=>decide (n.length < r.length) && (lowL (r.take n.length) == n && nameEndB (r.getD n.length 0))
  | _=>false
def rawN (n:List UInt8):List UInt8 -> Nat
  | []=>0
  | c :: r=>if rawEndB n (c :: r) = true then 0 else rawN n r + 1
def plainText:List UInt8:=[112,108,97,105,110,116,101,120,116]
def rawSizeL (n l:List UInt8):Nat:=if n = plainText then l.length else rawN n l
theorem rawN_le (n:List UInt8):∀ l,rawN n l <= l.length
 | []=>Nat.le_refl _
 | c :: r=>by
  unfold rawN;split
  ·exact Nat.zero_le _
  ·have:=rawN_le n r;simp only [List.length_cons];omega
theorem rawSizeL_le (n l:List UInt8):rawSizeL n l <= l.length:=by
 unfold rawSizeL;split
 ·exact Nat.le_refl _
 ·exact rawN_le n l
def isMarkB (l:List UInt8):Bool:=match l with
  | 60 :: c :: r=>if c = 33 \/ c = 63 then true else if c = 47 then !r.isEmpty else letterB c
  | _=>false
def markN:List UInt8 -> Nat
  | []=>0
  | c :: r=>if isMarkB (c :: r) = true then 0 else markN r + 1
theorem markN_le:∀ l,markN l <= l.length
 | []=>Nat.le_refl _
 | c :: r=>by
  unfold markN;split
  ·exact Nat.zero_le _
  ·have:=markN_le r;simp only [List.length_cons];omega
theorem markN_zero {c:UInt8} {r:List UInt8} (h:markN (c :: r) = 0):isMarkB (c :: r) = true:=by
 unfold markN at h;split at h
 ·assumption
 ·omega
def charsT (x:List UInt8):TokL:=⟨1,[],[],x⟩
def startT (n:List UInt8) (A:List AtL):TokL:=⟨2,n,A,[]⟩
def endT (n:List UInt8):TokL:=⟨3,n,[],[]⟩
def remT (x:List UInt8):TokL:=⟨4,[],[],x⟩
def cutAt (t:List UInt8):List UInt8 -> List UInt8 × List UInt8
  | []=>([],[])
  | c :: r=>if t.isPrefixOf (c :: r) = true then ([],(c :: r).drop t.length) else (c :: (cutAt t r).1,(cutAt t r).2)
theorem cutAt_len (t:List UInt8):∀ l,(cutAt t l).2.length <= l.length
 | []=>Nat.le_refl _
 | c :: r=>by
  unfold cutAt;split
  ·show ((c :: r).drop t.length).length <= _
   rw [List.length_drop];omega
  ·have:=cutAt_len t r;simp only [List.length_cons];omega
def remEnd:List UInt8:=[45,45,62]
abbrev MarkR:=Option TokL × List UInt8 × List UInt8
def startL (dec:List UInt8 -> List UInt8) (l:List UInt8):MarkR:=match tagL dec l with
  | none=>(none,[],[])
  | some (n,A,b)=>if rawL.contains n = true then (some (startT n A),b.take (rawSizeL n b),b.drop (rawSizeL n b)) else (some (startT n A),[],b)
def endL (dec:List UInt8 -> List UInt8) (l:List UInt8):MarkR:=match tagL dec l with
  | none=>(none,[],[])
  | some (n,A,b)=>(some (endT n),[],b)
def remL (l:List UInt8):MarkR:=(some (remT (beforeC 62 l)),[],afterC 62 l)
def longL (l:List UInt8):MarkR:=match l with
  | 62 :: b=>(some (remT []),[],b)
  | 45 :: 62 :: b=>(some (remT []),[],b)
  | _=>(some (remT (cutAt remEnd l).1),[],(cutAt remEnd l).2)
def markL (dec:List UInt8 -> List UInt8) (l:List UInt8):MarkR:=match l with
  | 47 :: r=>match r with
    | []=>(none,[],[])
    | c :: q=>if letterB c = true then endL dec (c :: q) else if c = 62 then (none,[],q) else remL (c :: q)
  | 33 :: r=>match r with
    | 45 :: 45 :: b=>longL b
    | _=>remL r
  | 63 :: r=>remL (63 :: r)
  | _=>startL dec l
theorem markL_end {dec:List UInt8 -> List UInt8} {c:UInt8} (h:letterB c = true) (r:List UInt8):markL dec (47 :: c :: r) = endL dec (c :: r):=if_pos h
theorem remL_len (l:List UInt8):(remL l).2.2.length <= l.length:=afterC_le13 62 l
theorem longL_len (l:List UInt8):(longL l).2.2.length <= l.length:=by
 unfold longL;split
 ·simp only [List.length_cons];omega
 ·simp only [List.length_cons];omega
 ·exact cutAt_len remEnd l
theorem startL_len (dec:List UInt8 -> List UInt8) (l:List UInt8):(startL dec l).2.2.length <= l.length:=by
 unfold startL;cases h:tagL dec l with
 | none=>exact Nat.zero_le _
 | some p =>
  obtain ⟨n,A,b⟩:=p;have:=tagL_len h;simp only;split
  ·show (b.drop _).length <= _
   rw [List.length_drop];omega
  ·show b.length <= _
   omega
theorem endL_len (dec:List UInt8 -> List UInt8) (l:List UInt8):(endL dec l).2.2.length <= l.length:=by
 unfold endL;cases h:tagL dec l with
 | none=>exact Nat.zero_le _
 | some p =>
  obtain ⟨n,A,b⟩:=p;have:=tagL_len h;show b.length <= _
  omega
theorem markL_len (dec:List UInt8 -> List UInt8) (l:List UInt8):(markL dec l).2.2.length <= l.length:=by
 unfold markL;split
 ·rename_i r;split
  ·exact Nat.zero_le _
  ·rename_i c q;split
   ·have:=endL_len dec (c :: q);simp only [List.length_cons] at this ⊢;omega
   ·split
    ·simp only [List.length_cons];omega
    ·have:=remL_len (c :: q);simp only [List.length_cons] at this ⊢;omega
 ·rename_i r;split
  ·rename_i b;have:=longL_len b;simp only [List.length_cons];omega
  ·have:=remL_len r;simp only [List.length_cons];omega
 ·rename_i r;exact remL_len (63 :: r)
 ·exact startL_len dec l
def flushT (L:List TokL) (x:List UInt8):List TokL:=if x = [] then L else L ++ [charsT x]
def addT (L:List TokL) (x:List UInt8) (m:MarkR):List TokL × List UInt8:=match m.1 with
  | none=>(L,x ++ m.2.1)
  | some t=>(flushT L x ++ [t],m.2.1)
def scanL (dec:List UInt8 -> List UInt8) (L:List TokL) (x:List UInt8) (l:List UInt8):List TokL :=
  match h:l with
  | []=>flushT L x
  | c :: r =>
    if h2:0 < markN (c :: r) then scanL dec L (x ++ dec ((c :: r).take (markN (c :: r)))) ((c :: r).drop (markN (c :: r)))
    else scanL dec (addT L x (markL dec r)).1 (addT L x (markL dec r)).2 (markL dec r).2.2
termination_by l.length
decreasing_by
  · rw [List.length_drop]
    have:=markN_le (c :: r)
    simp only [List.length_cons] at this ⊢
    omega
  · have:=markL_len dec r
    simp only [List.length_cons]
    omega
theorem scanL_nil (dec:List UInt8 -> List UInt8) (L:List TokL) (x:List UInt8):scanL dec L x [] = flushT L x:=by rw [scanL]
theorem scanL_text (dec:List UInt8 -> List UInt8) (L:List TokL) (x:List UInt8) {c:UInt8} {r:List UInt8} (h:0 < markN (c :: r)) :
  scanL dec L x (c :: r) = scanL dec L (x ++ dec ((c :: r).take (markN (c :: r)))) ((c :: r).drop (markN (c :: r))):=by
 rw [scanL,dif_pos h]
theorem scanL_mark (dec:List UInt8 -> List UInt8) (L:List TokL) (x:List UInt8) {c:UInt8} {r:List UInt8} (h:isMarkB (c :: r) = true) :
  scanL dec L x (c :: r) = scanL dec (addT L x (markL dec r)).1 (addT L x (markL dec r)).2 (markL dec r).2.2:=by
 have h0:markN (c :: r) = 0:=by unfold markN;rw [if_pos h]
 rw [scanL,dif_neg (by rw [h0];exact Nat.lt_irrefl 0)]
def atVals (l:List AtL):List Value:=l.flatMap fun f=>[Value.string (str f.1),Value.string (str f.2)]
theorem atVals_length (l:List AtL):(atVals l).length = l.length * 2:=by
 induction l with
 | nil=>rfl
 | cons f r ih=>unfold atVals at *;rw [List.flatMap_cons,List.length_append,ih];simp;omega
theorem atVals_at {l:List AtL} {j:Nat} {f:AtL} (h:l[j]? = some f):(atVals l)[j * 2]? = some (.string (str f.1)) /\ (atVals l)[j * 2 + 1]? = some (.string (str f.2)):=by
 induction l generalizing j with
 | nil=>simp at h
 | cons g r ih =>
  cases j with
  | zero=>simp at h;subst h;exact ⟨rfl,rfl⟩
  | succ j =>
   have:=ih (j:=j) (by simpa using h);have e:atVals (g :: r) = Value.string (str g.1) :: Value.string (str g.2) :: atVals r:=rfl;rw [e,show (j + 1) * 2 = j * 2 + 1 + 1 by omega]
   simpa using this
theorem atVals_append (a b:List AtL):atVals (a ++ b) = atVals a ++ atVals b:=by unfold atVals;rw [List.flatMap_append]
def ABuf (B:Nat) (v:Value) (l:List AtL) (W0 w:World):Prop :=
  w.ownsRow B 43 2 v l.length (atVals l) /\ Below B W0 w /\ B <= w.heap.size
theorem info_at:(Tryz.prog.info? 43).map (fun i=>(i.zero,i.size,i.bytes)) = some (some (.agg #[.string ByteArray.empty,.string ByteArray.empty]),2,32):=by kernel_rfl
theorem ABuf.nil {B:Nat} {W0 w:World} (hb:Below B W0 w) (hB:B <= w.heap.size):ABuf B (.slice none 0 0) [] W0 w:=⟨World.ownsRow_nil w B _ 2,hb,hB⟩
theorem ABuf.below {B:Nat} {v:Value} {l:List AtL} {W0 w:World} (h:ABuf B v l W0 w):Below B W0 w:=h.2.1
theorem ABuf.grown {B:Nat} {v v':Value} {l l':List AtL} {W0 w w':World} (h:ABuf B v l W0 w) (ho:w'.ownsRow B 43 2 v' l'.length (atVals l')) (hg:w.grownBy w' v.ownBlock):ABuf B v' l' W0 w' :=
 ⟨ho,h.2.1.grown hg h.2.2 (fun k hk=>(h.1.lt k hk).1),Nat.le_trans h.2.2 hg.size⟩
theorem ABuf.alloc {B:Nat} {v:Value} {l:List AtL} {W0 w:World} (h:ABuf B v l W0 w) (o:Obj):ABuf B v l W0 (w.alloc o) :=
 ⟨h.1.alloc o,h.2.1.alloc h.2.2 o,Nat.le_trans h.2.2 ((Below.refl 0 w).alloc (Nat.zero_le _) o).size⟩
theorem ABuf.drew {B:Nat} {v:Value} {l:List AtL} {W0 w:World} (h:ABuf B v l W0 w):ABuf B v l W0 w.drew:=⟨h.1,h.2.1.drew,h.2.2⟩
theorem ABuf.kept {B:Nat} {v:Value} {l:List AtL} {W0 w w':World} (h:ABuf B v l W0 w) (hb:Below w.heap.size w w'):ABuf B v l W0 w' :=
 ⟨h.1.kept (row:=none) ⟨hb.os,hb.tape,hb.output,hb.size,fun k hk _=>hb.block k hk⟩ (by cases hv:v.ownBlock <;> simp),h.2.1.trans (hb.mono h.2.2),Nat.le_trans h.2.2 hb.size⟩
theorem ABuf.slice_len {B:Nat} {v:Value} {l:List AtL} {W0 w:World} (h:ABuf B v l W0 w):∃ A c,v = .slice A l.length c:=by
 rcases h.1.2 with ⟨rfl,h0⟩ | ⟨g,cap,cur,rfl,_⟩
 ·rw [h0];exact ⟨_,_,rfl⟩
 ·exact ⟨_,_,rfl⟩
theorem ABuf.form {B:Nat} {v:Value} {l:List AtL} {W0 w:World} (h:ABuf B v l W0 w) (hl:l ≠ []):∃ g cap,v = .slice (some ⟨g,0,none⟩) l.length cap /\ B <= g:=by
 rcases h.1.2 with ⟨rfl,h0⟩ | ⟨g,cap,cur,rfl,hg,_⟩
 ·exact absurd (List.eq_nil_of_length_eq_zero h0) hl
 ·exact ⟨g,cap,rfl,hg⟩
theorem wpList_ats {ops:Array Oper} {rest:List Oper} {o:Oper} {a:Act} {Q:Exit -> Act -> World -> Prop} {w:World} (hgd:o.guard = none) (s x:Operand)
  (ho:o.op = .call { callee:=.builtin .append,args:=#[s,x],argTypes:=#[31,31] })
  (B:Nat) (v:Value) (l:List AtL) (hs:a.eval s = v) (W0:World) (f:AtL) (hb:ABuf B v l W0 w) (ad:Addr)
  (hx:a.eval x = .slice (some ad) 1 1) (h0:w.cell? (ad.add 0) = some (.string (str f.1))) (h1:w.cell? (ad.add 1) = some (.string (str f.2))) (hlen:l.length + 1 <= 4398046511104)
  (h:∀ v' w',ABuf B v' (l ++ [f]) W0 w' -> wpList Tryz.prog ops Q rest (a.put o.dst v') w'):wpList Tryz.prog ops Q (o :: rest) a w:=by
 obtain ⟨i0,hi,hz0,hz1,hz2⟩:=info_parts info_at;refine wpList_append_own _ hgd s x 31 ho B 43 i0 (.agg #[.string ByteArray.empty,.string ByteArray.empty]) 2 32 Tryz.underlying31 hi hz0 hz1 hz2 rfl (by decide) v l.length (atVals l) hs hb.1 ad 1 1 [.string (str f.1),.string (str f.2)] hx rfl ?_ ?_ (by unfold maxLen;omega) (by omega) hb.2.2 ?_
 ·intro j u hj
  match j,hj with
  | 0,hj=>simp at hj;subst hj;exact h0
  | 1,hj=>simp at hj;subst hj;exact h1
  | (j + 2),hj=>simp at hj
 ·intro u hu;simp at hu;rcases hu with rfl | rfl
  ·rfl
  ·rfl
 ·intro v' w' ho' hg _;exact h v' w' (hb.grown (l':=l ++ [f]) (by rw [atVals_append,List.length_append];exact ho') hg)
theorem ownsRow_other {w:World} {B:Nat} {e:TypeId} {sz n:Nat} {v:Value} {xs:List Value} (h:w.ownsRow B e sz v n xs) {r:Nat} (hr:∀ cur,w.heap[r]? ≠ some (.cells cur e (0,0))):v.ownBlock ≠ some r:=by
 rcases h.2 with ⟨rfl,_⟩ | ⟨g,cap,cur,rfl,hg,hh,_⟩
 ·simp [Value.ownBlock]
 ·intro e2;simp [Value.ownBlock] at e2;subst e2;exact hr cur hh
theorem ownsRow_diff {w:World} {B B':Nat} {e e':TypeId} (he:e ≠ e') {sz sz' n n':Nat} {v v':Value} {xs xs':List Value} (h:w.ownsRow B e sz v n xs) (h':w.ownsRow B' e' sz' v' n' xs'):v.ownBlock = none \/ v.ownBlock ≠ v'.ownBlock:=by
 rcases h'.2 with ⟨rfl,_⟩ | ⟨g,cap,cur,rfl,hg,hh,_⟩
 ·cases hv:v.ownBlock
  ·exact .inl rfl
  ·exact .inr (by simp [Value.ownBlock])
 ·refine .inr ?_
  have:=ownsRow_other h (r:=g) (fun cur' e2=>by
   rw [hh] at e2;injection e2 with e2;injection e2 with _ e2;exact he e2.symm)
  simpa [Value.ownBlock] using this
theorem ownsRow_down {w:World} {B B':Nat} {e:TypeId} {sz n:Nat} {v:Value} {xs:List Value} (h:w.ownsRow B e sz v n xs) (hB:B' <= B):w.ownsRow B' e sz v n xs:=by
 refine ⟨h.1,?_⟩;rcases h.2 with h2 | ⟨g,cap,cur,h1,hg,h3⟩
 ·exact .inl h2
 ·exact .inr ⟨g,cap,cur,h1,Nat.le_trans hB hg,h3⟩
abbrev TokV:=TokL × Value
def tokVals (ls:List TokV):List Value:=ls.flatMap fun p=>[.int .i64 (p.1.kind:Int),.string (str p.1.name),p.2,.string (str p.1.text)]
theorem tokVals_length (ls:List TokV):(tokVals ls).length = ls.length * 4:=by
 induction ls with
 | nil=>rfl
 | cons f r ih=>unfold tokVals at *;rw [List.flatMap_cons,List.length_append,ih];simp;omega
theorem tokVals_append (a b:List TokV):tokVals (a ++ b) = tokVals a ++ tokVals b:=by unfold tokVals;rw [List.flatMap_append]
theorem tokVals_at {l:List TokV} {j:Nat} {p:TokV} (h:l[j]? = some p):(tokVals l)[j * 4]? = some (.int .i64 (p.1.kind:Int)) /\ (tokVals l)[j * 4 + 1]? = some (.string (str p.1.name)) /\ (tokVals l)[j * 4 + 2]? = some p.2 /\ (tokVals l)[j * 4 + 3]? = some (.string (str p.1.text)):=by
 induction l generalizing j with
 | nil=>simp at h
 | cons g r ih =>
  cases j with
  | zero=>simp at h;subst h;exact ⟨rfl,rfl,rfl,rfl⟩
  | succ j =>
   have:=ih (j:=j) (by simpa using h);have e:tokVals (g :: r) = .int .i64 (g.1.kind:Int) :: .string (str g.1.name) :: g.2 :: .string (str g.1.text) :: tokVals r:=rfl;rw [e,show (j + 1) * 4 = j * 4 + 1 + 1 + 1 + 1 by omega]
   simpa using this
structure TRow (B:Nat) (v:Value) (ls:List TokV) (w:World):Prop where
  row:w.ownsRow B 51 4 v ls.length (tokVals ls)
  each:∀ p ∈ ls,w.ownsRow B 43 2 p.2 p.1.attrs.length (atVals p.1.attrs)
theorem TRow.nil (B:Nat) (w:World):TRow B (.slice none 0 0) [] w:=⟨World.ownsRow_nil w B _ 4,fun p h=>by cases h⟩
theorem TRow.turned {B:Nat} {v:Value} {ls:List TokV} {w w':World} {row:Option Nat} (h:TRow B v ls w) (hg:w.grownBy w' row)
  (hr:∀ r,row = some r -> ∀ cur,w.heap[r]? ≠ some (.cells cur 51 (0,0)) /\ w.heap[r]? ≠ some (.cells cur 43 (0,0))):TRow B v ls w':=by
 refine ⟨h.row.kept hg ?_,fun p hp=>(h.each p hp).kept hg ?_⟩
 ·cases row with
  | none=>cases hv:v.ownBlock <;> simp
  | some r=>exact .inr (ownsRow_other h.row fun cur=>(hr r rfl cur).1)
 ·cases row with
  | none=>cases hv:p.2.ownBlock <;> simp
  | some r=>exact .inr (ownsRow_other (h.each p hp) fun cur=>(hr r rfl cur).2)
theorem TRow.kept {B:Nat} {v:Value} {ls:List TokV} {w w':World} (h:TRow B v ls w) (hb:Below w.heap.size w w'):TRow B v ls w' :=
 h.turned (row:=none) ⟨hb.os,hb.tape,hb.output,hb.size,fun k hk _=>hb.block k hk⟩ (fun r e=>by cases e)
theorem TRow.alloc {B:Nat} {v:Value} {ls:List TokV} {w:World} (h:TRow B v ls w) (o:Obj):TRow B v ls (w.alloc o):=h.turned (World.grownBy_alloc w o none) (fun r e=>by cases e)
theorem TRow.push {B:Nat} {v v' u:Value} {ls:List TokV} {w w':World} {t:TokL} (h:TRow B v ls w) (hu:w.ownsRow B 43 2 u t.attrs.length (atVals t.attrs))
  (ho:w'.ownsRow B 51 4 v' (ls.length + 1) (tokVals ls ++ tokVals [(t,u)])) (hg:w.grownBy w' v.ownBlock):TRow B v' (ls ++ [(t,u)]) w':=by
 refine ⟨by rw [tokVals_append,List.length_append];exact ho,fun p hp=>?_⟩;have hne:∀ {y:Value} {k:Nat} {xs:List Value},w.ownsRow B 43 2 y k xs -> w'.ownsRow B 43 2 y k xs:=fun hy=>hy.kept hg (ownsRow_diff (by decide) hy h.row)
 rcases List.mem_append.1 hp with hp | hp
 ·exact hne (h.each p hp)
 ·obtain rfl:=List.mem_singleton.1 hp;exact hne hu
theorem TRow.slice_len {B:Nat} {v:Value} {ls:List TokV} {w:World} (h:TRow B v ls w):∃ A c,v = .slice A ls.length c:=by
 rcases h.row.2 with ⟨rfl,h0⟩ | ⟨g,cap,cur,rfl,_⟩
 ·rw [h0];exact ⟨_,_,rfl⟩
 ·exact ⟨_,_,rfl⟩
theorem info_tok:(Tryz.prog.info? 51).map (fun i=>(i.zero,i.size,i.bytes)) = some (some (.agg #[.int .i64 0,.string ByteArray.empty,.slice none 0 0,.string ByteArray.empty]),4,64):=by kernel_rfl
theorem wpList_toks {ops:Array Oper} {rest:List Oper} {o:Oper} {a:Act} {Q:Exit -> Act -> World -> Prop} {w:World} (hgd:o.guard = none) (s x:Operand)
  (ho:o.op = .call { callee:=.builtin .append,args:=#[s,x],argTypes:=#[48,48] })
  (B:Nat) (v:Value) (ls:List TokV) (hs:a.eval s = v) (t:TokL) (u:Value) (hb:TRow B v ls w) (hu:w.ownsRow B 43 2 u t.attrs.length (atVals t.attrs)) (hB:B <= w.heap.size) (ad:Addr)
  (hx:a.eval x = .slice (some ad) 1 1) (h0:w.cell? (ad.add 0) = some (.int .i64 (t.kind:Int))) (h1:w.cell? (ad.add 1) = some (.string (str t.name))) (h2:w.cell? (ad.add 2) = some u) (h3:w.cell? (ad.add 3) = some (.string (str t.text)))
  (hlen:ls.length + 1 <= 2199023255552)
  (h:∀ v' w',TRow B v' (ls ++ [(t,u)]) w' -> w.grownBy w' v.ownBlock -> wpList Tryz.prog ops Q rest (a.put o.dst v') w'):wpList Tryz.prog ops Q (o :: rest) a w:=by
 obtain ⟨i0,hi,hz0,hz1,hz2⟩:=info_parts info_tok
 obtain ⟨A,c,rfl⟩:∃ A c,u = .slice A t.attrs.length c:=by
  rcases hu.2 with ⟨rfl,h0⟩ | ⟨g,cap,cur,rfl,_⟩
  ·rw [h0];exact ⟨_,_,rfl⟩
  ·exact ⟨_,_,rfl⟩
 refine wpList_append_own _ hgd s x 48 ho B 51 i0 (.agg #[.int .i64 0,.string ByteArray.empty,.slice none 0 0,.string ByteArray.empty]) 4 64 Tryz.underlying48 hi hz0 hz1 hz2 rfl (by decide) v ls.length (tokVals ls) hs hb.row ad 1 1 (tokVals [(t,.slice A t.attrs.length c)]) hx rfl ?_ ?_ (by unfold maxLen;omega) (by omega) hB ?_
 ·intro j u hj
  match j,hj with
  | 0,hj=>simp [tokVals] at hj;subst hj;exact h0
  | 1,hj=>simp [tokVals] at hj;subst hj;exact h1
  | 2,hj=>simp [tokVals] at hj;subst hj;exact h2
  | 3,hj=>simp [tokVals] at hj;subst hj;exact h3
  | (j + 4),hj=>simp [tokVals] at hj
 ·intro u hu;simp [tokVals] at hu;rcases hu with rfl | rfl | rfl | rfl <;> rfl
 ·intro v' w' ho' hg _;exact h v' w' (hb.push hu ho' hg) hg
theorem rdSize:(Tryz.prog.info? 78).map (·.size) = some 2:=by kernel_rfl
theorem rdLies:liesAt Tryz.prog Tryz.prog.depth 105 (3 / Tryz.prog.cellsOf 105) 1 78 1 = true:=by kernel_rfl
def RdC (w:World) (b:Nat) (o a v:Value):Prop:=w.heap[b]? = some (.cells #[o,a,v] 105 (0,0))
theorem RdC.cell0 {w:World} {b:Nat} {o a v:Value} (h:RdC w b o a v):w.cell? ⟨b,0,none⟩ = some o:=by rw [Lib.cell_of_heap h];rfl
theorem RdC.cell1 {w:World} {b:Nat} {o a v:Value} (h:RdC w b o a v):w.cell? ⟨b,1,none⟩ = some a:=by rw [Lib.cell_of_heap h];rfl
theorem RdC.cell2 {w:World} {b:Nat} {o a v:Value} (h:RdC w b o a v):w.cell? ⟨b,2,none⟩ = some v:=by rw [Lib.cell_of_heap h];rfl
theorem RdC.free {w:World} {b:Nat} {o a v:Value} (h:RdC w b o a v) (i:Nat):w.frozen? ⟨b,i,none⟩ = false:=Lib.frozen_of_heap h i
theorem RdC.lt {w:World} {b:Nat} {o a v:Value} (h:RdC w b o a v):b < w.heap.size:=lt_of_block h
theorem RdC.shape {w:World} {b:Nat} {o a v:Value} (h:RdC w b o a v):w.shape? b = some (105,3):=by
 have h':w.heap[b]? = some (.cells #[o,a,v] 105 (0,0)):=h;simp [World.shape?,h']
theorem heap_put {w:World} {g j:Nat} {cur:Array Value} {e:TypeId} {fr:Nat × Nat} (u:Value) (h:w.heap[g]? = some (.cells cur e fr)):(w.setCell ⟨g,j,none⟩ u).heap[g]? = some (.cells (cur.setIfInBounds j u) e fr):=by
 have hlt:=(Array.getElem?_eq_some_iff.1 h).1;have he:=(Array.getElem?_eq_some_iff.1 h).2;simp only [World.setCell,Array.getElem?_modify,if_true,h,Option.map_some];rfl
theorem RdC.put0 {w:World} {b:Nat} {o a v:Value} (h:RdC w b o a v) (u:Value):RdC (w.setCell ⟨b,0,none⟩ u) b u a v:=heap_put (j:=0) u h
theorem RdC.put1 {w:World} {b:Nat} {o a v:Value} (h:RdC w b o a v) (u:Value):RdC (w.setCell ⟨b,1,none⟩ u) b o u v:=heap_put (j:=1) u h
theorem RdC.put2 {w:World} {b:Nat} {o a v:Value} (h:RdC w b o a v) (u:Value):RdC (w.setCell ⟨b,2,none⟩ u) b o a u:=heap_put (j:=2) u h
def RowsK (w w':World):Prop:=∀ (B:Nat) (e:TypeId) (sz n:Nat) (u:Value) (xs:List Value),e ≠ 5 -> e ≠ 105 -> w.ownsRow B e sz u n xs -> w'.ownsRow B e sz u n xs
theorem RowsK.refl (w:World):RowsK w w:=fun _ _ _ _ _ _ _ _ h=>h
theorem RowsK.trans {a b c:World} (h:RowsK a b) (k:RowsK b c):RowsK a c:=fun B e sz n u xs h1 h2 hx=>k B e sz n u xs h1 h2 (h B e sz n u xs h1 h2 hx)
theorem RowsK.below {w w':World} (hb:Below w.heap.size w w'):RowsK w w':=fun B e sz n u xs _ _ hx=>hx.kept (row:=none) ⟨hb.os,hb.tape,hb.output,hb.size,fun k hk _=>hb.block k hk⟩ (by cases hv:u.ownBlock <;> simp)
theorem RowsK.grown {w w':World} {B n:Nat} {v:Value} {xs:List Value} (h:w.ownsRow B 5 1 v n xs) (hg:w.grownBy w' v.ownBlock):RowsK w w':=fun B' e sz m u ys h1 _ hx=>hx.kept hg (ownsRow_diff h1 hx h)
theorem RowsK.put {w:World} {b:Nat} {o a v:Value} (h:RdC w b o a v) (i:Nat) (u:Value):RowsK w (w.setCell ⟨b,i,none⟩ u):=fun B e sz n x xs _ h2 hx =>
 hx.kept (row:=some b) ⟨rfl,rfl,rfl,by simp [World.setCell],fun k _ hk=>Below.heap_setCell _ _ _ k (fun e=>hk (by rw [e]))⟩ (.inr (ownsRow_other hx (fun cur hc=>by
  have h':w.heap[b]? = some (.cells #[o,a,v] 105 (0,0)):=h;rw [h'] at hc;injection hc with hc;injection hc with _ hc;exact h2 hc.symm)))
theorem TRow.rows {B:Nat} {v:Value} {ls:List TokV} {w w':World} (h:TRow B v ls w) (hk:RowsK w w'):TRow B v ls w' :=
 ⟨hk _ _ _ _ _ _ (by decide) (by decide) h.row,fun p hp=>hk _ _ _ _ _ _ (by decide) (by decide) (h.each p hp)⟩
theorem copyCheckR_used (b:Nat) (w:World) (h0:w.cell? ⟨b,1,none⟩ = some (.pointer (some ⟨b,1,none⟩))) :
  Calls Tryz.prog 103 #[.pointer (some ⟨b,1,none⟩)] w fun e w'=>e = .returned (.tuple #[]) /\ w = w':=by
 obtain ⟨j,hj,_⟩:=Option.map_eq_some_iff.1 rdSize;have hne:=fun w:World=>Lib.run_neq_ptr_same (P:=Tryz.prog) w ⟨b,1,none⟩ Tryz.underlying76 hj
 go_enter Tryz.func103,Tryz.ntmps103;go_wp2;go_end0;exact ⟨rfl,rfl⟩
theorem copyCheckR_fresh (b:Nat) (w:World) (h0:w.cell? ⟨b,1,none⟩ = some (.pointer none)) (hsh:w.shape? b = some (105,3)) (hfz:w.frozen? ⟨b,1,none⟩ = false) :
  Calls Tryz.prog 103 #[.pointer (some ⟨b,1,none⟩)] w fun e w'=>e = .returned (.tuple #[]) /\ w.setCell ⟨b,1,none⟩ (.pointer (some ⟨b,1,none⟩)) = w':=by
 obtain ⟨j,hj,hjs⟩:=Option.map_eq_some_iff.1 rdSize;have c1:=Lib.run_to_unsafe (P:=Tryz.prog) w ⟨b,1,none⟩ Tryz.underlying76 Tryz.underlying153 hj (by rw [hjs];decide) hsh (show 1 < 3 by decide);have c2:=Lib.run_from_unsafe (P:=Tryz.prog) w ⟨b,1,none⟩ Tryz.underlying153 Tryz.underlying76 hj hsh rdLies;have ce:=fun w:World=>run_callFunc_extern (P:=Tryz.prog) (w:=w) (args:=#[Value.pointer (some ⟨b,1,none⟩)]) Tryz.func140 (by kernel_rfl) (by kernel_rfl) (by kernel_rfl) (e:=Extern.AbiNoEscape.same) (by kernel_rfl)
 have cn:=fun w:World=>Lib.run_noEscape (P:=Tryz.prog) (w:=w) (Value.pointer (some ⟨b,1,none⟩))
 go_enter Tryz.func103,Tryz.ntmps103;go_wp2;go_end0;exact ⟨rfl,rfl⟩
def AdrOK (b:Nat) (a:Value):Prop:=a = .pointer none \/ a = .pointer (some ⟨b,1,none⟩)
theorem copyCheckR_any (B b:Nat) (o a v:Value) (w:World) (h:RdC w b o a v) (ha:AdrOK b a) (hB:B <= b) :
  Calls Tryz.prog 103 #[.pointer (some ⟨b,1,none⟩)] w fun e w'=>e = .returned (.tuple #[]) /\ RdC w' b o (.pointer (some ⟨b,1,none⟩)) v /\ Below B w w' /\ RowsK w w' /\ (∀ k,k ≠ b -> w'.heap[k]? = w.heap[k]?) /\ w.heap.size = w'.heap.size:=by
 rcases ha with rfl | rfl
 ·refine (copyCheckR_fresh b w h.cell1 h.shape (h.free 1)).mono ?_;rintro e w' ⟨rfl,rfl⟩;exact ⟨rfl,h.put1 _,(Below.refl B w).setCell (p:=⟨b,1,none⟩) hB _,RowsK.put h 1 _,fun k hk=>Below.heap_setCell _ _ _ k (fun e=>hk (by rw [e])),by simp [World.setCell]⟩
 ·refine (copyCheckR_used b w h.cell1).mono ?_;rintro e w' ⟨rfl,rfl⟩;exact ⟨rfl,h,Below.refl _ _,RowsK.refl _,fun k _=>rfl,rfl⟩
structure Rdr (B b:Nat) (o:Value) (vs:List TokV) (x:List UInt8) (W0 w:World):Prop where
  at':∃ a v,RdC w b o a v /\ AdrOK b a /\ w.ownsRow B 5 1 v x.length (cellsOf x) /\ v.ownBlock ≠ some b
  toks:TRow B o vs w
  base:B <= b
  below:Below B W0 w
  size:B <= w.heap.size
theorem Rdr.kept {B b:Nat} {o:Value} {vs:List TokV} {x:List UInt8} {W0 w w':World} (h:Rdr B b o vs x W0 w) (hb:Below w.heap.size w w'):Rdr B b o vs x W0 w':=by
 obtain ⟨⟨a,v,h1,h2,h3,h4⟩,ht,hB,hW,hz⟩:=h;exact ⟨⟨a,v,(hb.block b h1.lt).trans h1,h2,h3.kept (row:=none) ⟨hb.os,hb.tape,hb.output,hb.size,fun k hk _=>hb.block k hk⟩ (by cases hv:v.ownBlock <;> simp),h4⟩,ht.kept hb,hB,hW.trans (hb.mono hz),Nat.le_trans hz hb.size⟩
theorem writeR_any (B b : Nat) (o : Value) (vs : List TokV) (x : List UInt8) (s : ByteArray) (W0 w : World) (h : Rdr B b o vs x W0 w) (hlen : x.length + s.size ≤ 140737488355328) :
    Calls Tryz.prog 64 #[.pointer (some ⟨b, 1, none⟩), .string s] w fun e w' => e = .returned (.tuple #[.int .i64 s.size, .nilIface]) ∧ Rdr B b o vs (x ++ s.data.toList) W0 w' := by
  obtain ⟨⟨a, v, h1, h2, h3, h4⟩, ht, hB, hW, hz⟩ := h
  obtain ⟨i0, hi, hz0, hz1, hz2⟩ := info_parts info_u8
  have HC := hide (copyCheckR_any B b o a v w h1 h2 hB)
  have H3 := hide h3
  have H4 := hide h4
  have HT := hide ht
  have HW := hide hW
  have hl1 : (cellsOf x).length = x.length := cellsOf_length x
  have HI := hide hi
  have HZ0 := hide hz0
  have HZ1 := hide hz1
  have HZ2 := hide hz2
  have HL1 := hide hl1
  clear h1 h2 h3 h4 ht hW hi hz0 hz1 hz2 hl1
  go_enter Tryz.func64, Tryz.ntmps64
  go_wp2_with fail
  refine HC.out.mono ?_
  rintro e w1 ⟨rfl, k1, k2, k3, k4, k5⟩
  have c2 := k1.cell2
  have hlt := k1.lt
  have hsz1 := k2.size
  have HOWN : Hid (w1.ownsRow B 5 1 v x.length (cellsOf x)) := hide (by
    have hx := H3.out
    exact hx.kept (row := some b) ⟨k2.os, k2.tape, k2.output, Nat.le_of_eq k5, fun k _ hk => k4 k (fun e => hk (by rw [e]))⟩ (.inr H4.out))
  have HK1 := hide k1
  have HK2 := hide k2
  have HK3 := hide k3
  have HSZ := hide (show B ≤ w1.heap.size by omega)
  clear k1 k2 k3 k4 k5
  go_wp2_with (refine Lib.wpList_append_own_string _ rfl _ _ 56 9 rfl B 5 i0 Tryz.underlying56 Tryz.underlying9 HI.out HZ0.out HZ1.out HZ2.out v x.length (cellsOf x) rfl HOWN.out s rfl (by unfold maxLen; omega) (by omega) HSZ.out ?_
               intro v' w2 hown' hgrow _
               obtain ⟨ao, n', cap, rfl⟩ : ∃ ao n' cap, v' = .slice ao n' cap := by
                 rcases hown'.2 with ⟨hv, _⟩ | ⟨g, cap, cur, hv, _⟩
                 · exact ⟨_, _, _, hv⟩
                 · exact ⟨_, _, _, hv⟩
               have hb2 : RdC w2 b o (.pointer (some ⟨b, 1, none⟩)) v := (hgrow.block b hlt (fun e => H4.out e.symm)).trans HK1.out
               have d2 := hb2.cell2
               have f2 := hb2.free 2
               have HO2 := hide hown'
               have HG2 := hide hgrow
               have HB2 := hide hb2
               clear hown' hgrow hb2)
  go_ret2
  have hb3 : Below B w w2 := HK2.out.grown HG2.out HSZ.out (fun k hk => (HOWN.out.lt k hk).1)
  have hk2 : RowsK w1 w2 := RowsK.grown HOWN.out HG2.out
  have hkp := RowsK.put HB2.out 2 (.slice ao n' cap)
  refine ⟨rfl, ⟨⟨_, _, HB2.out.put2 _, .inr rfl, ?_, ?_⟩, HT.out.rows (HK3.out.trans (hk2.trans hkp)), hB, (HW.out.trans hb3).setCell (p := ⟨b, 2, none⟩) hB _, ?_⟩⟩
  · have e1 : cellsOf (x ++ s.data.toList) = cellsOf x ++ Lib.strCells s := by rw [cellsOf_str, cellsOf, List.map_append]; rfl
    rw [e1, List.length_append, toList_length]
    have ho := HO2.out
    refine ho.kept (row := some b) ⟨rfl, rfl, rfl, by simp [World.setCell], fun k _ hk => Below.heap_setCell _ _ _ k (fun e => hk (by rw [e]))⟩ (.inr ?_)
    exact ownsRow_other ho (fun cur hc => by
      have h' : w2.heap[b]? = some (.cells #[o, .pointer (some ⟨b, 1, none⟩), v] 105 (0, 0)) := HB2.out
      rw [h'] at hc
      injection hc with hc
      injection hc with _ hc
      exact absurd hc (by decide))
  · exact ownsRow_other HO2.out (fun cur hc => by
      have h' : w2.heap[b]? = some (.cells #[o, .pointer (some ⟨b, 1, none⟩), v] 105 (0, 0)) := HB2.out
      rw [h'] at hc
      injection hc with hc
      injection hc with _ hc
      exact absurd hc (by decide))
  · have := hb3.size
    simp [World.setCell]
    omega
theorem lenR_any (B b:Nat) (o:Value) (vs:List TokV) (x:List UInt8) (W0 w:World) (h:Rdr B b o vs x W0 w) :
  Calls Tryz.prog 126 #[.pointer (some ⟨b,1,none⟩)] w fun e w'=>e = .returned (.int .i64 x.length) /\ w = w':=by
 obtain ⟨⟨a,v,h1,h2,h3,h4⟩,_⟩:=h
 obtain ⟨A,c,rfl⟩:∃ A c,v = .slice A x.length c:=by
  rcases h3.2 with ⟨rfl,h0⟩ | ⟨g,cap,cur,rfl,_⟩
  ·rw [h0];exact ⟨_,_,rfl⟩
  ·exact ⟨_,_,rfl⟩
 have c2:=h1.cell2;clear h1 h2 h3 h4;go_enter Tryz.func126,Tryz.ntmps126;go_wp2_with fail;go_ret;exact ⟨rfl,rfl⟩
def AttrsIn (w:World) (v:Value) (l:List AtL):Prop :=
  (v = .slice none 0 0 /\ l = []) \/ ∃ a cap,v = .slice (some a) l.length cap /\ l.length <= cap /\ cap <= maxLen /\
    ∀ j (f:AtL),l[j]? = some f -> w.cell? (a.add (j * 2)) = some (.string (str f.1)) /\ w.cell? (a.add (j * 2 + 1)) = some (.string (str f.2))
theorem AttrsIn.kept {w w':World} {v:Value} {l:List AtL} (h:AttrsIn w v l) (hb:Below w.heap.size w w'):AttrsIn w' v l:=by
 rcases h with h | ⟨a,cap,h1,h2,h3,h4⟩
 ·exact .inl h
 ·refine .inr ⟨a,cap,h1,h2,h3,fun j f hj=>?_⟩;obtain ⟨c1,c2⟩:=h4 j f hj;exact ⟨(hb.cell (World.block_lt_of_cell? _ _ c1)).trans c1,(hb.cell (World.block_lt_of_cell? _ _ c2)).trans c2⟩
theorem AttrsIn.form {w:World} {v:Value} {l:List AtL} (h:AttrsIn w v l):∃ a cap,v = .slice a l.length cap:=by
 rcases h with ⟨rfl,rfl⟩ | ⟨a,cap,rfl,_⟩
 ·exact ⟨_,_,rfl⟩
 ·exact ⟨_,_,rfl⟩
theorem AttrsIn.at {w:World} {A:Option Addr} {n cap:Nat} {l:List AtL} (h:AttrsIn w (.slice A n cap) l) (k:Nat) (f:AtL) (hk:l[k]? = some f) :
  ∃ a,A = some a /\ w.cell? (a.add (k * 2)) = some (.string (str f.1)) /\ w.cell? { block:=(a.add (k * 2)).block,off:=(a.add (k * 2)).off + 1 } = some (.string (str f.2)):=by
 rcases h with ⟨_,rfl⟩ | ⟨a,cap',h1,_,_,h4⟩
 ·cases hk
 ·injection h1 with h1 _ _;have e3:({ block:=(a.add (k * 2)).block,off:=(a.add (k * 2)).off + 1 }:Addr) = a.add (k * 2 + 1):=by rw [<- Addr.add_add];rfl
  obtain ⟨c1,c2⟩:=h4 k f hk;exact ⟨a,h1,c1,by rw [e3];exact c2⟩
theorem attrs_of_row {B:Nat} {w:World} {v:Value} {l:List AtL} (h:w.ownsRow B 43 2 v l.length (atVals l)):AttrsIn w v l:=by
 rcases h.2 with ⟨rfl,h0⟩ | ⟨g,cap,cur,rfl,hg,hh,h1,h2,h3,h4⟩
 ·exact .inl ⟨rfl,List.eq_nil_of_length_eq_zero h0⟩
 ·refine .inr ⟨⟨g,0,none⟩,cap,rfl,h1,h2,fun j f hj=>?_⟩;obtain ⟨c1,c2⟩:=atVals_at hj;exact ⟨h.cells (g:=g) rfl _ _ c1,h.cells (g:=g) rfl _ _ c2⟩
abbrev TokG:=Int × TokL
def ToksIn (w:World) (v:Value) (l:List TokG):Prop :=
  (v = .slice none 0 0 /\ l = []) \/ ∃ a cap,v = .slice (some a) l.length cap /\ l.length <= cap /\ cap <= maxLen /\
    ∀ j (f:TokG),l[j]? = some f -> w.cell? (a.add (j * 4)) = some (.int .i64 f.1) /\ w.cell? (a.add (j * 4 + 1)) = some (.string (str f.2.name)) /\ w.cell? (a.add (j * 4 + 3)) = some (.string (str f.2.text)) /\
      ∃ u,w.cell? (a.add (j * 4 + 2)) = some u /\ AttrsIn w u f.2.attrs
theorem ToksIn.kept {w w':World} {v:Value} {l:List TokG} (h:ToksIn w v l) (hb:Below w.heap.size w w'):ToksIn w' v l:=by
 rcases h with h | ⟨a,cap,h1,h2,h3,h4⟩
 ·exact .inl h
 ·refine .inr ⟨a,cap,h1,h2,h3,fun j f hj=>?_⟩;obtain ⟨c1,c2,c3,u,c4,hu⟩:=h4 j f hj;exact ⟨(hb.cell (World.block_lt_of_cell? _ _ c1)).trans c1,(hb.cell (World.block_lt_of_cell? _ _ c2)).trans c2,(hb.cell (World.block_lt_of_cell? _ _ c3)).trans c3,u,(hb.cell (World.block_lt_of_cell? _ _ c4)).trans c4,hu.kept hb⟩
theorem ToksIn.form {w:World} {v:Value} {l:List TokG} (h:ToksIn w v l):∃ a cap,v = .slice a l.length cap:=by
 rcases h with ⟨rfl,rfl⟩ | ⟨a,cap,rfl,_⟩
 ·exact ⟨_,_,rfl⟩
 ·exact ⟨_,_,rfl⟩
theorem ToksIn.at {w:World} {A:Option Addr} {n cap:Nat} {l:List TokG} (h:ToksIn w (.slice A n cap) l) (k:Nat) (f:TokG) (hk:l[k]? = some f) :
  ∃ a d y,A = some a /\ w.cell? (a.add (k * 4)) = some (.int .i64 f.1) /\ w.cell? { block:=(a.add (k * 4)).block,off:=(a.add (k * 4)).off + 1 } = some (.string (str f.2.name)) /\ w.cell? { block:=(a.add (k * 4)).block,off:=(a.add (k * 4)).off + 3 } = some (.string (str f.2.text)) /\
   w.cell? { block:=(a.add (k * 4)).block,off:=(a.add (k * 4)).off + 2 } = some (.slice d f.2.attrs.length y) /\ AttrsIn w (.slice d f.2.attrs.length y) f.2.attrs:=by
 rcases h with ⟨_,rfl⟩ | ⟨a,cap',h1,_,_,h4⟩
 ·cases hk
 ·injection h1 with h1 _ _;have e1:({ block:=(a.add (k * 4)).block,off:=(a.add (k * 4)).off + 1 }:Addr) = a.add (k * 4 + 1):=by rw [<- Addr.add_add];rfl
  have e2:({ block:=(a.add (k * 4)).block,off:=(a.add (k * 4)).off + 2 }:Addr) = a.add (k * 4 + 2):=by rw [<- Addr.add_add];rfl
  have e3:({ block:=(a.add (k * 4)).block,off:=(a.add (k * 4)).off + 3 }:Addr) = a.add (k * 4 + 3):=by rw [<- Addr.add_add];rfl
  obtain ⟨c1,c2,c3,u,c4,hu⟩:=h4 k f hk;obtain ⟨d,y,rfl⟩:=hu.form;exact ⟨a,d,y,h1,c1,by rw [e1];exact c2,by rw [e3];exact c3,by rw [e2];exact c4,hu⟩
def gOf (t:TokL):TokG:=((t.kind:Int),t)
theorem TRow.in {B:Nat} {v:Value} {ls:List TokV} {w:World} (h:TRow B v ls w):ToksIn w v ((ls.map Prod.fst).map gOf):=by
 rcases h.row.2 with ⟨rfl,h0⟩ | ⟨g,cap,cur,rfl,hg,hh,h1,h2,h3,h4⟩
 ·exact .inl ⟨rfl,by rw [List.eq_nil_of_length_eq_zero h0];rfl⟩
 ·refine .inr ⟨⟨g,0,none⟩,cap,by simp,by simpa using h1,h2,fun j f hj=>?_⟩;rw [List.map_map,List.getElem?_map] at hj;obtain ⟨p,hp,rfl⟩:=Option.map_eq_some_iff.1 hj;obtain ⟨c1,c2,c3,c4⟩:=tokVals_at hp;have hc:∀ (i:Nat) (x:Value),(tokVals ls)[i]? = some x -> w.cell? ((⟨g,0,none⟩:Addr).add i) = some x:=fun i x hx=>h.row.cells (g:=g) rfl _ _ hx
  exact ⟨hc _ _ c1,hc _ _ c2,hc _ _ c4,p.2,hc _ _ c3,attrs_of_row (h.each p (List.mem_of_getElem? hp))⟩
theorem attrs_lit {w:World} {g:Nat} {T:TypeId} {fz:Nat × Nat} (l:List AtL) (h:w.heap[g]? = some (.cells (atVals l).toArray T fz)) (hl:l.length <= maxLen):AttrsIn w (.slice (some ⟨g,0,none⟩) l.length l.length) l:=by
 refine .inr ⟨⟨g,0,none⟩,l.length,rfl,Nat.le_refl _,hl,fun j f hj=>?_⟩;obtain ⟨c1,c2⟩:=atVals_at hj
 have hc:∀ (i:Nat) (x:Value),(atVals l)[i]? = some x -> w.cell? ((⟨g,0,none⟩:Addr).add i) = some x:=fun i x hx=>by
  rw [Addr.add_lit,Lib.cell_of_heap h,List.getElem?_toArray];simpa using hx
 exact ⟨hc _ _ c1,hc _ _ c2⟩
def AttrsC (C:Nat -> Prop) (w:World) (v:Value) (l:List AtL):Prop :=
  AttrsIn w v l /\ ∀ a n c,v = .slice (some a) n c -> l ≠ [] -> C a.block
def NodesAt (C:Nat -> Prop) (w:World):Tr -> Addr -> Prop
  | .nil,_=>True
  | .cons h k r,a =>
    C a.block /\ w.cell? a = some (.string (str h.name)) /\ w.cell? (a.add 2) = some (.string (str h.text)) /\
    (∃ u,w.cell? (a.add 1) = some u /\ AttrsC C w u h.attrs) /\
    (∃ v,w.cell? (a.add 3) = some v /\ ((v = .slice none 0 0 /\ k = .nil) \/ ∃ a' cap,v = .slice (some a') k.len cap /\ k.len <= cap /\ cap <= maxLen /\ NodesAt C w k a')) /\
    NodesAt C w r (a.add 4)
def NodesC (C:Nat -> Prop) (w:World) (v:Value) (t:Tr):Prop :=
  (v = .slice none 0 0 /\ t = .nil) \/ ∃ a cap,v = .slice (some a) t.len cap /\ t.len <= cap /\ cap <= maxLen /\ NodesAt C w t a
def NodesIn (w:World) (v:Value) (t:Tr):Prop:=NodesC (fun b=>b < w.heap.size) w v t
theorem cell_same {w w':World} {C:Nat -> Prop} (hk:∀ b,C b -> w'.heap[b]? = w.heap[b]?) {a:Addr} (h:C a.block):w'.cell? a = w.cell? a:=World.cell?_of_block (hk _ h)
theorem addr_add_block (a:Addr) (n:Nat):(a.add n).block = a.block:=by unfold Addr.add;split <;> rfl
theorem AttrsC.mono {C C':Nat -> Prop} {w w':World} {v:Value} {l:List AtL} (h:AttrsC C w v l) (hk:∀ b,C b -> w'.heap[b]? = w.heap[b]?) (hC:∀ b,C b -> C' b):AttrsC C' w' v l:=by
 refine ⟨?_,fun a n c e hl=>hC _ (h.2 a n c e hl)⟩;rcases h.1 with ⟨h1,h2⟩ | ⟨a,cap,rfl,h2,h3,h4⟩
 ·exact .inl ⟨h1,h2⟩
 ·refine .inr ⟨a,cap,rfl,h2,h3,fun j f hj=>?_⟩;have hc:=h.2 a _ _ rfl (fun e=>by rw [e] at hj;cases hj);obtain ⟨c1,c2⟩:=h4 j f hj;exact ⟨(cell_same hk (by rw [addr_add_block];exact hc)).trans c1,(cell_same hk (by rw [addr_add_block];exact hc)).trans c2⟩
theorem NodesAt.mono {C C':Nat -> Prop} {w w':World} (hk:∀ b,C b -> w'.heap[b]? = w.heap[b]?) (hC:∀ b,C b -> C' b) {t:Tr} {a:Addr} (h:NodesAt C w t a):NodesAt C' w' t a:=by
 induction t generalizing a with
 | nil=>trivial
 | cons p k r ihk ihr =>
  obtain ⟨h0,h1,h2,⟨u,h3,h4⟩,⟨v,h5,h6⟩,h7⟩:=h;refine ⟨hC _ h0,(cell_same hk h0).trans h1,(cell_same hk (by rw [addr_add_block];exact h0)).trans h2,⟨u,(cell_same hk (by rw [addr_add_block];exact h0)).trans h3,h4.mono hk hC⟩,⟨v,(cell_same hk (by rw [addr_add_block];exact h0)).trans h5,?_⟩,ihr h7⟩;rcases h6 with h6 | ⟨a',cap,e1,e2,e3,e4⟩
  ·exact .inl h6
  ·exact .inr ⟨a',cap,e1,e2,e3,ihk e4⟩
theorem NodesC.mono {C C':Nat -> Prop} {w w':World} {v:Value} {t:Tr} (h:NodesC C w v t) (hk:∀ b,C b -> w'.heap[b]? = w.heap[b]?) (hC:∀ b,C b -> C' b):NodesC C' w' v t:=by
 rcases h with h | ⟨a,cap,h1,h2,h3,h4⟩
 ·exact .inl h
 ·exact .inr ⟨a,cap,h1,h2,h3,h4.mono hk hC⟩
theorem NodesIn.kept {w w':World} {v:Value} {t:Tr} (h:NodesIn w v t) (hb:Below w.heap.size w w'):NodesIn w' v t :=
 NodesC.mono h (fun b hlt=>hb.block b hlt) (fun b hlt=>Nat.lt_of_lt_of_le hlt hb.size)
theorem NodesC.form {C:Nat -> Prop} {w:World} {v:Value} {t:Tr} (h:NodesC C w v t):∃ a cap,v = .slice a t.len cap:=by
 rcases h with ⟨rfl,rfl⟩ | ⟨a,cap,rfl,_⟩
 ·exact ⟨_,_,rfl⟩
 ·exact ⟨_,_,rfl⟩
theorem NodesC.cap {C:Nat -> Prop} {w:World} {A:Option Addr} {n c:Nat} {t:Tr} (h:NodesC C w (.slice A n c) t):n = t.len /\ n <= c /\ c <= maxLen:=by
 rcases h with ⟨h1,rfl⟩ | ⟨a,cap,h1,h2,h3,h4⟩
 ·injection h1 with _ h2 h3;subst h2 h3;exact ⟨rfl,Nat.le_refl _,Nat.zero_le _⟩
 ·injection h1 with _ e2 e3;subst e2 e3;exact ⟨rfl,h2,h3⟩
theorem NodesAt.drop {C:Nat -> Prop} {w:World} {t:Tr} {a:Addr} (h:NodesAt C w t a) (n:Nat) (hn:n <= t.len):NodesAt C w (Tr.drop n t) (a.add (n * 4)):=by
 induction n generalizing t a with
 | zero=>rw [Nat.zero_mul,Addr.add_zero'];exact h
 | succ n ih=>cases t with
  | nil=>exact absurd hn (Nat.not_succ_le_zero _)
  | cons p k r =>
   have:=ih (t:=r) h.2.2.2.2.2 (by simp only [Tr.len] at hn;omega);rw [Addr.add_add] at this;rw [show (n + 1) * 4 = 4 + n * 4 by omega];exact this
theorem NodesC.at {C:Nat -> Prop} {w:World} {A:Option Addr} {n cap:Nat} {t:Tr} (h:NodesC C w (.slice A n cap) t) (k:Nat) (p:NdH) (K:Tr) (hk:t.list[k]? = some (p,K)) :
  ∃ a d x y z m,A = some a /\ C a.block /\ w.cell? (a.add (k * 4)) = some (.string (str p.name)) /\ w.cell? { block:=(a.add (k * 4)).block,off:=(a.add (k * 4)).off + 1 } = some (.slice d p.attrs.length y) /\ AttrsC C w (.slice d p.attrs.length y) p.attrs /\
   w.cell? { block:=(a.add (k * 4)).block,off:=(a.add (k * 4)).off + 2 } = some (.string (str p.text)) /\ w.cell? { block:=(a.add (k * 4)).block,off:=(a.add (k * 4)).off + 3 } = some (.slice x m z) /\ m = K.len /\ NodesC C w (.slice x m z) K:=by
 have hlt:k < t.len:=by
  rw [<- Tr.len_list];rcases Nat.lt_or_ge k t.list.length with h1 | h1
  ·exact h1
  ·rw [List.getElem?_eq_none h1] at hk;cases hk
 rcases h with ⟨_,rfl⟩ | ⟨a,cap',h1,_,_,h4⟩
 ·cases hk
 ·injection h1 with h1 _ _;have hd:=h4.drop k (Nat.le_of_lt hlt);obtain ⟨p',K',he,hp⟩:=Tr.drop_cons k t hlt;rw [hk] at hp;injection hp with hp;obtain ⟨rfl,rfl⟩:p = p' /\ K = K':=by injection hp with e1 e2;exact ⟨e1,e2⟩
  rw [he] at hd;obtain ⟨g0,g1,g2,⟨u,g3,g4⟩,⟨v,g5,g6⟩,_⟩:=hd;have e1:({ block:=(a.add (k * 4)).block,off:=(a.add (k * 4)).off + 1 }:Addr) = (a.add (k * 4)).add 1:=by rfl
  have e2:({ block:=(a.add (k * 4)).block,off:=(a.add (k * 4)).off + 2 }:Addr) = (a.add (k * 4)).add 2:=by rfl
  have e3:({ block:=(a.add (k * 4)).block,off:=(a.add (k * 4)).off + 3 }:Addr) = (a.add (k * 4)).add 3:=by rfl
  obtain ⟨d,y,rfl⟩:=g4.1.form;have hN:NodesC C w v K:=g6;obtain ⟨x,z,rfl⟩:=hN.form;exact ⟨a,d,x,y,z,_,h1,by rw [addr_add_block] at g0;exact g0,g1,by rw [e1];exact g3,g4,by rw [e2];exact g2,by rw [e3];exact g5,rfl,hN⟩
structure LevV where
  h:NdH
  av:Value
  kv:Value
  lv:Value
  R:Tr
def LevV.toP (p:LevV):NdH × Tr:=(p.h,p.R)
def levVals (ps:List LevV):List Value:=ps.flatMap fun p=>[.string (str p.h.name),p.av,.string (str p.h.text),p.kv,p.lv]
theorem levVals_length (ls:List LevV):(levVals ls).length = ls.length * 5:=by
 induction ls with
 | nil=>rfl
 | cons f r ih=>unfold levVals at *;rw [List.flatMap_cons,List.length_append,ih];simp;omega
theorem levVals_append (a b:List LevV):levVals (a ++ b) = levVals a ++ levVals b:=by unfold levVals;rw [List.flatMap_append]
theorem levVals_at (ps:List LevV) (p:LevV) (j:Nat) (hj:j < 5):(levVals (ps ++ [p]))[ps.length * 5 + j]? = [Value.string (str p.h.name),p.av,.string (str p.h.text),p.kv,p.lv][j]?:=by
 rw [levVals_append,List.getElem?_append_right (by rw [levVals_length];omega),levVals_length,show ps.length * 5 + j - ps.length * 5 = j by omega];rfl
theorem levVals_set (ps:List LevV) (p:LevV) (u:Value) (R':Tr):(levVals (ps ++ [p])).set (ps.length * 5 + 4) u = levVals (ps ++ [{ p with lv:=u,R:=R' }]):=by
 rw [levVals_append,List.set_append_right _ _ (by rw [levVals_length];omega),levVals_length,show ps.length * 5 + 4 - ps.length * 5 = 4 by omega,levVals_append];rfl
def NodeOK (B:Nat) (w:World) (p:LevV):Prop:=AttrsC (fun b=>b < B) w p.av p.h.attrs /\ ∃ K,NodesC (fun b=>b < B) w p.kv K
structure LS (B:Nat) (r:Value) (st:List LevV) (W0 w:World):Prop where
  row:w.ownsRow B 115 5 r st.length (levVals st.reverse)
  left:∀ p ∈ st,NodesC (fun b=>b < B) w p.lv p.R
  node:∀ p ∈ st,NodeOK B w p
  below:Below B W0 w
  size:B <= w.heap.size
theorem same_below {B:Nat} {w w':World} (hb:Below B w w'):∀ g,g < B -> w'.heap[g]? = w.heap[g]?:=fun g hg=>hb.block g hg
theorem NodeOK.below {B:Nat} {w w':World} {p:LevV} (h:NodeOK B w p) (hb:Below B w w'):NodeOK B w' p :=
 ⟨h.1.mono (same_below hb) (fun _ x=>x),h.2.imp fun K hK=>hK.mono (same_below hb) (fun _ x=>x)⟩
def FrL (B:Nat) (w w':World):Prop:=Below B w w' /\ ∀ (g:Nat) (cur:Array Value) (T:TypeId) (fz:Nat × Nat),w.heap[g]? = some (Obj.cells cur T fz) -> T = 115 \/ T = 33 -> w'.heap[g]? = w.heap[g]?
theorem FrL.own {B B':Nat} {w w':World} (h:FrL B w w') {v:Value} {n:Nat} {xs:List Value} (ho:w.ownsRow B' 115 5 v n xs):w'.ownsRow B' 115 5 v n xs:=by
 refine ⟨ho.1,?_⟩;rcases ho.2 with h0 | ⟨g,cap,cur,rfl,h1,h2,h3⟩
 ·exact .inl h0
 ·exact .inr ⟨g,cap,cur,rfl,h1,(h.2 g _ _ _ h2 (.inl rfl)).trans h2,h3⟩
theorem LS.frame {B:Nat} {r:Value} {st:List LevV} {W0 w w':World} (h:LS B r st W0 w) (hf:FrL B w w'):LS B r st W0 w' :=
 ⟨hf.own h.row,fun p hp=>(h.left p hp).mono (same_below hf.1) (fun _ x=>x),fun p hp=>(h.node p hp).below hf.1,h.below.trans hf.1,Nat.le_trans h.size hf.1.size⟩
theorem FrL.kept {B:Nat} {w w':World} (hb:Below w.heap.size w w') (hB:B <= w.heap.size):FrL B w w':=⟨hb.mono hB,fun g cur T fz hg _=>hb.block g (lt_of_block hg)⟩
theorem LS.kept {B:Nat} {r:Value} {st:List LevV} {W0 w w':World} (h:LS B r st W0 w) (hb:Below w.heap.size w w'):LS B r st W0 w':=h.frame (FrL.kept hb h.size)
theorem LS.form {B:Nat} {r:Value} {st:List LevV} {W0 w:World} (h:LS B r st W0 w) (hs:st ≠ []):∃ g cap,r = .slice (some ⟨g,0,none⟩) st.length cap /\ st.length <= cap /\ cap <= maxLen /\ B <= g /\ g < w.heap.size:=by
 rcases h.row.2 with ⟨rfl,h0⟩ | ⟨g,cap,cur,rfl,hg,hh,hc,hm,_⟩
 ·exact absurd (List.eq_nil_of_length_eq_zero h0) hs
 ·exact ⟨g,cap,rfl,hc,hm,hg,lt_of_block hh⟩
theorem LS.cells {B g cap:Nat} {p:LevV} {rest:List LevV} {W0 w:World} (h:LS B (.slice (some ⟨g,0,none⟩) (rest.length + 1) cap) (p :: rest) W0 w) :
  w.cell? ⟨g,rest.length * 5,none⟩ = some (.string (str p.h.name)) /\ w.cell? ⟨g,rest.length * 5 + 1,none⟩ = some p.av /\ w.cell? ⟨g,rest.length * 5 + 2,none⟩ = some (.string (str p.h.text)) /\ w.cell? ⟨g,rest.length * 5 + 3,none⟩ = some p.kv /\ w.cell? ⟨g,rest.length * 5 + 4,none⟩ = some p.lv /\ (∀ i,w.frozen? ⟨g,i,none⟩ = false):=by
 have hr:=h.row;rw [List.length_cons] at hr
 have hc:∀ j,j < 5 -> w.cell? ⟨g,rest.length * 5 + j,none⟩ = [Value.string (str p.h.name),p.av,.string (str p.h.text),p.kv,p.lv][j]?:=fun j hj=>by
  rw [hr.cellAt _ (by omega)];have:=levVals_at rest.reverse p j hj;rw [List.length_reverse] at this;rw [List.reverse_cons];exact this
 exact ⟨hc 0 (by decide),hc 1 (by decide),hc 2 (by decide),hc 3 (by decide),hc 4 (by decide),fun i=>hr.frozenAt i⟩
theorem LS.lev {B g m cap:Nat} {st:List LevV} {W0 w:World} (h:LS B (.slice (some ⟨g,0,none⟩) m cap) st W0 w):B <= g /\ ∃ cur,w.heap[g]? = some (Obj.cells cur 115 (0,0)):=by
 rcases h.row.2 with ⟨h0,_⟩ | ⟨g',cap',cur,h0,hg,hh,hc,hm,_⟩
 ·cases h0
 ·injection h0 with h0 _ _;injection h0 with h0;injection h0 with h0;subst h0;exact ⟨hg,cur,hh⟩
theorem LS.putLeft {B g cap:Nat} {p:LevV} {rest:List LevV} {W0 w:World} (h:LS B (.slice (some ⟨g,0,none⟩) (rest.length + 1) cap) (p :: rest) W0 w) (u:Value) (R':Tr) (hu:NodesC (fun b=>b < B) w u R') :
  LS B (.slice (some ⟨g,0,none⟩) (rest.length + 1) cap) ({ p with lv:=u,R:=R' } :: rest) W0 (w.setCell ⟨g,rest.length * 5 + 4,none⟩ u) /\ w.grownBy (w.setCell ⟨g,rest.length * 5 + 4,none⟩ u) (some g):=by
 have hr:=h.row;rw [List.length_cons] at hr;obtain ⟨r1,r2⟩:=hr.stored (rest.length * 5 + 4) u;obtain ⟨hBg,cur,hcur⟩:=h.lev;have hb:Below B w (w.setCell ⟨g,rest.length * 5 + 4,none⟩ u):=(Below.refl B w).setCell (p:=⟨g,rest.length * 5 + 4,none⟩) hBg u;refine ⟨⟨?_,?_,?_,h.below.trans hb,Nat.le_trans h.size hb.size⟩,r2⟩
 ·rw [List.reverse_cons] at r1 ⊢;have e1:=levVals_set rest.reverse p u R';rw [List.length_reverse] at e1;rw [e1] at r1;exact r1
 ·intro x hx;rcases List.mem_cons.1 hx with rfl | hx
  ·exact hu.mono (same_below hb) (fun _ x=>x)
  ·exact (h.left x (List.mem_cons_of_mem _ hx)).mono (same_below hb) (fun _ x=>x)
 ·intro x hx;rcases List.mem_cons.1 hx with rfl | hx
  ·exact NodeOK.below (h.node p (List.mem_cons_self ..)) hb
  ·exact (h.node x (List.mem_cons_of_mem _ hx)).below hb
theorem LS.pop {B g cap:Nat} {p q:LevV} {rest:List LevV} {W0 w:World} (h:LS B (.slice (some ⟨g,0,none⟩) (rest.length + 1 + 1) cap) (p :: q :: rest) W0 w):LS B (.slice (some ⟨g,0,none⟩) (rest.length + 1) cap) (q :: rest) W0 w:=by
 refine ⟨⟨by rw [levVals_length,List.length_reverse],?_⟩,fun x hx=>h.left x (List.mem_cons_of_mem _ hx),fun x hx=>h.node x (List.mem_cons_of_mem _ hx),h.below,h.size⟩;rcases h.row.2 with ⟨h0,_⟩ | ⟨g',cap',cur,h0,hg,hh,h1,h2,h3,h4⟩
 ·cases h0
 ·injection h0 with e1 e2 e3;injection e1 with e1;injection e1 with e1;subst e1 e3;refine .inr ⟨g,cap,cur,rfl,hg,hh,by simp only [List.length_cons] at h1 ⊢;omega,h2,h3,?_⟩;have e5:=congrArg (List.take ((q :: rest).length * 5)) h4;rw [List.take_take,Nat.min_eq_left (by simp only [List.length_cons];omega)] at e5;rw [e5,List.reverse_cons,levVals_append];have hl:(levVals (q :: rest).reverse).length = (q :: rest).length * 5:=by rw [levVals_length,List.length_reverse]
  rw [List.take_append_of_le_length (Nat.le_of_eq hl.symm),<- hl,List.take_length]
theorem LS.push {B:Nat} {r r':Value} {st:List LevV} {W0 w w2:World} {p:LevV} (h:LS B r st W0 w) (hp:NodesC (fun b=>b < B) w p.lv p.R) (hn:NodeOK B w p)
  (ho:w2.ownsRow B 115 5 r' (st.length + 1) (levVals st.reverse ++ levVals [p])) (hg:w.grownBy w2 r.ownBlock):LS B r' (p :: st) W0 w2:=by
 have hb:Below B w w2:=(Below.refl B w).grown hg h.size (fun k e=>(h.row.lt k e).1);refine ⟨?_,?_,?_,h.below.trans hb,Nat.le_trans h.size hb.size⟩
 ·rw [List.length_cons,List.reverse_cons,levVals_append];exact ho
 ·intro x hx;rcases List.mem_cons.1 hx with rfl | hx
  ·exact hp.mono (same_below hb) (fun _ x=>x)
  ·exact (h.left x hx).mono (same_below hb) (fun _ x=>x)
 ·intro x hx;rcases List.mem_cons.1 hx with rfl | hx
  ·exact hn.below hb
  ·exact (h.node x hx).below hb
theorem info_level:(Tryz.prog.info? 115).map (fun i=>(i.zero,i.size,i.bytes)) = some (some (.agg #[.string ByteArray.empty,.slice none 0 0,.string ByteArray.empty,.slice none 0 0,.slice none 0 0]),5,104):=by kernel_rfl
theorem lev_row (W:World) (c0 c1 c2 c3 c4:Value):(W.alloc (.cells #[c0,c1,c2,c3,c4] 115)).cell? ((⟨W.heap.size,0,none⟩:Addr).add 0) = some c0 /\ (W.alloc (.cells #[c0,c1,c2,c3,c4] 115)).cell? ((⟨W.heap.size,0,none⟩:Addr).add 1) = some c1 /\ (W.alloc (.cells #[c0,c1,c2,c3,c4] 115)).cell? ((⟨W.heap.size,0,none⟩:Addr).add 2) = some c2 /\ (W.alloc (.cells #[c0,c1,c2,c3,c4] 115)).cell? ((⟨W.heap.size,0,none⟩:Addr).add 3) = some c3 /\ (W.alloc (.cells #[c0,c1,c2,c3,c4] 115)).cell? ((⟨W.heap.size,0,none⟩:Addr).add 4) = some c4:=by
 have h:(W.alloc (.cells #[c0,c1,c2,c3,c4] 115)).heap[W.heap.size]? = some (.cells #[c0,c1,c2,c3,c4] 115 (0,0)):=by
  show (W.heap.push _)[W.heap.size]? = _
  exact Array.getElem?_push_size
 exact ⟨by rw [Addr.add_lit,Lib.cell_of_heap h];rfl,by rw [Addr.add_lit,Lib.cell_of_heap h];rfl,by rw [Addr.add_lit,Lib.cell_of_heap h];rfl,by rw [Addr.add_lit,Lib.cell_of_heap h];rfl,by rw [Addr.add_lit,Lib.cell_of_heap h];rfl⟩
theorem step_level {ops:Array Oper} {o:Oper} {a:Act} {w:World} {K:Act -> World -> Prop} {Q:Exit -> Act -> World -> Prop} {E:Prop} (hgd:o.guard = none) (s x:Operand)
  (ho:o.op = .call { callee:=.builtin .append,args:=#[s,x],argTypes:=#[116,116] })
  (B:Nat) (v:Value) (st:List LevV) (hs:a.eval s = v) (hb:w.ownsRow B 115 5 v st.length (levVals st.reverse)) (hB:B <= w.heap.size) (ad:Addr) (h:NdH) (A A2 A3:Option Addr) (m c m2 c2 m3 c3:Nat) (R:Tr)
  (hx:a.eval x = .slice (some ad) 1 1) (h0:w.cell? (ad.add 0) = some (.string (str h.name))) (h1:w.cell? (ad.add 1) = some (.slice A m c)) (h2:w.cell? (ad.add 2) = some (.string (str h.text))) (h3:w.cell? (ad.add 3) = some (.slice A2 m2 c2)) (h4:w.cell? (ad.add 4) = some (.slice A3 m3 c3))
  (hlen:st.length + 1 <= 1073741824)
  (hk:∀ v' w',w'.ownsRow B 115 5 v' (st.length + 1) (levVals st.reverse ++ levVals [⟨h,.slice A m c,.slice A2 m2 c2,.slice A3 m3 c3,R⟩]) -> w.grownBy w' v.ownBlock -> K (a.put o.dst v') w') :
  if Region.wanted o (yielded ops a.tmps) = true then Oper.wp Tryz.prog o a w K Q else E:=by
 have hw:Region.wanted o (yielded ops a.tmps) = true:=by simp [Region.wanted,hgd]
 rw [if_pos hw];obtain ⟨i0,hi,hz0,hz1,hz2⟩:=info_parts info_level;refine wp_append_own _ s x 116 ho B 115 i0 _ 5 104 Tryz.underlying116 hi hz0 hz1 hz2 rfl (by decide) v st.length (levVals st.reverse) hs hb ad 1 1 (levVals [⟨h,.slice A m c,.slice A2 m2 c2,.slice A3 m3 c3,R⟩]) hx rfl ?_ ?_ (by unfold maxLen;omega) (by omega) hB ?_
 ·intro j u hj
  match j,hj with
  | 0,hj=>simp [levVals] at hj;subst hj;exact h0
  | 1,hj=>simp [levVals] at hj;subst hj;exact h1
  | 2,hj=>simp [levVals] at hj;subst hj;exact h2
  | 3,hj=>simp [levVals] at hj;subst hj;exact h3
  | 4,hj=>simp [levVals] at hj;subst hj;exact h4
  | (j + 5),hj=>simp [levVals] at hj
 ·intro u hu;simp [levVals] at hu;rcases hu with rfl | rfl | rfl | rfl | rfl <;> rfl
 ·intro v' w' ho' hg _;exact hk v' w' ho' hg
theorem freeze_other (w:World) (g n k:Nat) (h:k ≠ g):(w.freeze ⟨g,0,none⟩ n).heap[k]? = w.heap[k]?:=by
 unfold World.freeze;split
 ·rfl
 ·simp [Array.getElem?_modify,Ne.symm h]
theorem freeze_size (w:World) (g n:Nat):(w.freeze ⟨g,0,none⟩ n).heap.size = w.heap.size:=by
 unfold World.freeze;split <;> simp
theorem RowsK.freeze {w:World} {g n cap:Nat} {cur:Array Value} (hg:w.heap[g]? = some (.cells cur 5 (0,0))):RowsK w (w.freeze ⟨g,0,none⟩ n):=fun B e sz m x xs h1 _ hx =>
 hx.kept (row:=some g) ⟨by unfold World.freeze;split <;> rfl,by unfold World.freeze;split <;> rfl,by unfold World.freeze;split <;> rfl,by rw [freeze_size];exact Nat.le_refl _,fun k _ hk=>freeze_other w g n k (fun e=>hk (by rw [e]))⟩ (.inr (ownsRow_other hx (fun cur' hc=>by
  rw [hg] at hc;injection hc with hc;injection hc with _ hc;exact h1 hc.symm)))
def RdrS (B b:Nat) (o:Value) (vs:List TokV) (W0 w:World):Prop:=(∃ a v,RdC w b o a v) /\ TRow B o vs w /\ B <= b /\ Below B W0 w /\ B <= w.heap.size
theorem stringR_any (B b:Nat) (o:Value) (vs:List TokV) (x:List UInt8) (W0 w:World) (h:Rdr B b o vs x W0 w) (h0:x ≠ []) :
  Calls Tryz.prog 57 #[.pointer (some ⟨b,1,none⟩)] w fun e w'=>e = .returned (.string (str x)) /\ RdrS B b o vs W0 w' /\ w.heap.size <= w'.heap.size /\ (∀ (k:Nat),(∀ (cur:Array Value) (fr:Nat × Nat),w.heap[k]? ≠ some (Obj.cells cur 5 fr)) -> w'.heap[k]? = w.heap[k]?):=by
 obtain ⟨⟨a,v,h1,h2,h3,h4⟩,ht,hB,hW,hz⟩:=h;have hl0:x.length ≠ 0:=by simpa using h0
 obtain ⟨g,cap,cur,rfl,hbg,hg,hnc,hcm,hcs,htake⟩:∃ g cap cur,v = .slice (some ⟨g,0,none⟩) x.length cap /\ B <= g /\ w.heap[g]? = some (.cells cur 5 (0,0)) /\ x.length <= cap /\ cap <= maxLen /\ cur.size = cap * 1 /\ cur.toList.take (x.length * 1) = cellsOf x:=by
  rcases h3.2 with ⟨_,hz⟩ | ⟨g,cap,cur,hv,r⟩
  ·exact absurd hz hl0
  ·exact ⟨g,cap,cur,hv,r⟩
 have hgb:g ≠ b:=fun e=>h4 (by rw [e];rfl)
 have c2:w.cell? ⟨b,2,none⟩ = some (.slice (some ⟨g,0,none⟩) x.length cap):=h1.cell2;have c2d:w.drew.cell? ⟨b,2,none⟩ = some (.slice (some ⟨g,0,none⟩) x.length cap):=c2
 have hSD:(Builtin.unsafeSliceData_ #[56] 120 #[.slice (some ⟨g,0,none⟩) x.length cap]).run Tryz.prog w.drew = .ok (.pointer (some ⟨g,0,none⟩)) w.drew :=
  Lib.run_unsafeSliceData_row _ _ _ _ _ _ (by omega)
 have hUS:(Builtin.unsafeString_ #[120,3] 9 #[.pointer (some ⟨g,0,none⟩),.int .i64 x.length]).run Tryz.prog w.drew = .ok (.string (str x)) (w.drew.freeze ⟨g,0,none⟩ x.length):=by
  refine Lib.run_unsafeString_row w.drew 120 3 9 5 Tryz.underlying120 (by kernel_rfl) g cur.size (by have hg':w.drew.heap[g]? = some (.cells cur 5 (0,0)):=hg;simp [World.shape?,hg']) x h0 (by omega) (by unfold maxLen at hcm;omega) ?_;intro j y hy;exact h3.cells (g:=g) rfl j (.int .u8 y.toNat) (by simp [cellsOf,hy])
 have HKK:Hid (w.heap.size <= (w.drew.freeze ⟨g,0,none⟩ x.length).heap.size /\ (∀ (k:Nat),(∀ (cur:Array Value) (fr:Nat × Nat),w.heap[k]? ≠ some (Obj.cells cur 5 fr)) -> (w.drew.freeze ⟨g,0,none⟩ x.length).heap[k]? = w.heap[k]?)):=hide (by
  refine ⟨by rw [freeze_size];exact Nat.le_refl _,fun k hk=>?_⟩;exact freeze_other w.drew g x.length k (fun e=>hk cur (0,0) (by rw [e];exact hg)))
 have HS:Hid (RdrS B b o vs W0 (w.drew.freeze ⟨g,0,none⟩ x.length)):=hide (by
  have hgd:w.drew.heap[g]? = some (.cells cur 5 (0,0)):=hg;have htd:TRow B o vs w.drew:=⟨ht.row,ht.each⟩
  refine ⟨⟨a,_,(freeze_other w.drew g x.length b (Ne.symm hgb)).trans h1⟩,htd.rows (RowsK.freeze (cap:=cap) hgd),hB,Lib.below_freeze hW.drew (p:=⟨g,0,none⟩) hbg _,?_⟩;rw [freeze_size];exact hz)
 clear h1 h2 h3 h4 ht hB hW hz hg hcs htake hnc hcm hbg hgb h0;go_enter Tryz.func57,Tryz.ntmps57;go_wp2_with fail;go_region
 all_goals
  try go_wp2_with fail
  go_ret;exact ⟨rfl,HS.out,HKK.out⟩
theorem resetR_any (B b:Nat) (o:Value) (vs:List TokV) (W0 w:World) (h:RdrS B b o vs W0 w) :
  Calls Tryz.prog 127 #[.pointer (some ⟨b,1,none⟩)] w fun e w'=>e = .returned (.tuple #[]) /\ Rdr B b o vs [] W0 w' /\ w.heap.size <= w'.heap.size /\ ∀ (k:Nat),k ≠ b -> w'.heap[k]? = w.heap[k]?:=by
 obtain ⟨⟨a,v,h1⟩,ht,hB,hW,hz⟩:=h;have f1:=h1.free 1;have c1:=h1.cell1;have k1:=h1.put1 (.pointer none);have f2:=k1.free 2;have d2:=k1.cell2
 have HR:Hid (Rdr B b o vs [] W0 ((w.setCell ⟨b,1,none⟩ (.pointer none)).setCell ⟨b,2,none⟩ (.slice none 0 0))):=hide
  ⟨⟨_,_,k1.put2 _,.inl rfl,World.ownsRow_nil _ B _ 1,by simp [Value.ownBlock]⟩,ht.rows ((RowsK.put h1 1 _).trans (RowsK.put k1 2 _)),hB,(hW.setCell (p:=⟨b,1,none⟩) hB _).setCell (p:=⟨b,2,none⟩) hB _,by simpa [World.setCell] using hz⟩
 have HK:Hid (w.heap.size <= ((w.setCell ⟨b,1,none⟩ (.pointer none)).setCell ⟨b,2,none⟩ (.slice none 0 0)).heap.size /\ ∀ k,k ≠ b -> ((w.setCell ⟨b,1,none⟩ (.pointer none)).setCell ⟨b,2,none⟩ (.slice none 0 0)).heap[k]? = w.heap[k]?):=hide
  ⟨by simp [World.setCell],fun k hk=>(Below.heap_setCell _ _ _ k (fun e=>hk (by rw [e]))).trans (Below.heap_setCell _ _ _ k (fun e=>hk (by rw [e])))⟩
 clear h1 ht hB hW hz k1;go_enter Tryz.func127,Tryz.ntmps127;go_wp2_with fail;go_end0;exact ⟨rfl,HR.out,HK.out⟩
theorem step_toks {ops:Array Oper} {o:Oper} {a:Act} {w:World} {K:Act -> World -> Prop} {Q:Exit -> Act -> World -> Prop} {E:Prop} (hgd:o.guard = none) (s x:Operand)
  (ho:o.op = .call { callee:=.builtin .append,args:=#[s,x],argTypes:=#[48,48] })
  (B:Nat) (v:Value) (ls:List TokV) (hs:a.eval s = v) (t:TokL) (u:Value) (hb:TRow B v ls w) (hu:w.ownsRow B 43 2 u t.attrs.length (atVals t.attrs)) (hB:B <= w.heap.size) (ad:Addr)
  (hx:a.eval x = .slice (some ad) 1 1) (h0:w.cell? (ad.add 0) = some (.int .i64 (t.kind:Int))) (h1:w.cell? (ad.add 1) = some (.string (str t.name))) (h2:w.cell? (ad.add 2) = some u) (h3:w.cell? (ad.add 3) = some (.string (str t.text)))
  (hlen:ls.length + 1 <= 2199023255552)
  (h:∀ v' w',TRow B v' (ls ++ [(t,u)]) w' -> w.grownBy w' v.ownBlock -> K (a.put o.dst v') w') :
  if Region.wanted o (yielded ops a.tmps) = true then Oper.wp Tryz.prog o a w K Q else E:=by
 have hw:Region.wanted o (yielded ops a.tmps) = true:=by simp [Region.wanted,hgd]
 rw [if_pos hw];obtain ⟨i0,hi,hz0,hz1,hz2⟩:=info_parts info_tok
 obtain ⟨A,c,rfl⟩:∃ A c,u = .slice A t.attrs.length c:=by
  rcases hu.2 with ⟨rfl,h0⟩ | ⟨g,cap,cur,rfl,_⟩
  ·rw [h0];exact ⟨_,_,rfl⟩
  ·exact ⟨_,_,rfl⟩
 refine wp_append_own _ s x 48 ho B 51 i0 (.agg #[.int .i64 0,.string ByteArray.empty,.slice none 0 0,.string ByteArray.empty]) 4 64 Tryz.underlying48 hi hz0 hz1 hz2 rfl (by decide) v ls.length (tokVals ls) hs hb.row ad 1 1 (tokVals [(t,.slice A t.attrs.length c)]) hx rfl ?_ ?_ (by unfold maxLen;omega) (by omega) hB ?_
 ·intro j u hj
  match j,hj with
  | 0,hj=>simp [tokVals] at hj;subst hj;exact h0
  | 1,hj=>simp [tokVals] at hj;subst hj;exact h1
  | 2,hj=>simp [tokVals] at hj;subst hj;exact h2
  | 3,hj=>simp [tokVals] at hj;subst hj;exact h3
  | (j + 4),hj=>simp [tokVals] at hj
 ·intro u hu;simp [tokVals] at hu;rcases hu with rfl | rfl | rfl | rfl <;> rfl
 ·intro v' w' ho' hg _;exact h v' w' (hb.push hu ho' hg) hg
def KeptB (b:Nat) (o:Value) (w w':World):Prop:=w.heap.size <= w'.heap.size /\ ∀ k,k < w.heap.size -> k ≠ b -> o.ownBlock ≠ some k -> (∀ cur fr,w.heap[k]? ≠ some (Obj.cells cur 5 fr)) -> w'.heap[k]? = w.heap[k]?
theorem KeptB.attr {b:Nat} {o:Value} {w w':World} {B n:Nat} {u:Value} {xs:List Value} (h:KeptB b o w w') (hr:w.ownsRow B 43 2 u n xs) {bo m:Nat} {ys:List Value} (ho:w.ownsRow bo 51 4 o m ys) {a v p:Value} (hb:RdC w b p a v):w'.ownsRow B 43 2 u n xs:=by
 refine ⟨hr.1,?_⟩;rcases hr.2 with h2 | ⟨g,cap,cur,h1,hg,hh,h3⟩
 ·exact .inl h2
 ·have hlt:g < w.heap.size:=lt_of_block hh;refine .inr ⟨g,cap,cur,h1,hg,(h.2 g hlt ?_ ?_ ?_).trans hh,h3⟩
  ·intro e;have hb':w.heap[b]? = some (.cells #[p,a,v] 105 (0,0)):=hb;rw [<- e,hh] at hb';injection hb' with hb';injection hb' with _ hb';exact absurd hb' (by decide)
  ·exact ownsRow_other ho (fun cur' hc=>by
    rw [hh] at hc;injection hc with hc;injection hc with _ hc;exact absurd hc (by decide))
  ·intro cur' fr hc;rw [hh] at hc;injection hc with hc;injection hc with _ hc;exact absurd hc (by decide)
def EndP (B b:Nat) (o:Value) (vs:List TokV) (x:List UInt8) (W0 w w':World):Prop :=
  ∃ o' vs',Rdr B b o' vs' [] W0 w' /\ vs'.map Prod.fst = flushT (vs.map Prod.fst) x /\ vs'.length <= vs.length + 1 /\ KeptB b o w w'
theorem Rdr.cell {B b:Nat} {o:Value} {vs:List TokV} {x:List UInt8} {W0 w:World} (h:Rdr B b o vs x W0 w):∃ a v,RdC w b o a v:=by
 obtain ⟨⟨a,v,h1,_⟩,_⟩:=h;exact ⟨a,v,h1⟩
theorem tok_row (W:World) (c0 c1 c2 c3:Value):(W.alloc (.cells #[c0,c1,c2,c3] 51)).cell? ((⟨W.heap.size,0,none⟩:Addr).add 0) = some c0 /\ (W.alloc (.cells #[c0,c1,c2,c3] 51)).cell? ((⟨W.heap.size,0,none⟩:Addr).add 1) = some c1 /\
  (W.alloc (.cells #[c0,c1,c2,c3] 51)).cell? ((⟨W.heap.size,0,none⟩:Addr).add 2) = some c2 /\ (W.alloc (.cells #[c0,c1,c2,c3] 51)).cell? ((⟨W.heap.size,0,none⟩:Addr).add 3) = some c3:=by
 refine ⟨?_,?_,?_,?_⟩ <;> exact (World.cell?_alloc_at _ _ _ _ rfl).trans rfl
theorem below_one (w:World) (o:Obj):Below w.heap.size w (w.alloc o):=(Below.refl _ _).alloc (Nat.le_refl _) _
theorem stored {B b:Nat} {o a v:Value} {vs:List TokV} {t:TokL} {u:Value} {W0 w1 w2:World} {ob:Obj} {A:Option Addr} {n c:Nat} (hr:RdC w1 b o a v) (ht:TRow B o vs w1) (hB:B <= b) (hW:Below B W0 w1) (hz:B <= w1.heap.size)
  (h2:TRow B (.slice A n c) (vs ++ [(t,u)]) w2) (hg:(w1.alloc ob).grownBy w2 o.ownBlock):RdC w2 b o a v /\ RdrS B b (.slice A n c) (vs ++ [(t,u)]) W0 (w2.setCell ⟨b,0,none⟩ (.slice A n c)) /\ (∀ k,k < w1.heap.size -> k ≠ b -> o.ownBlock ≠ some k -> (w2.setCell ⟨b,0,none⟩ (.slice A n c)).heap[k]? = w1.heap[k]?) /\ w1.heap.size <= (w2.setCell ⟨b,0,none⟩ (.slice A n c)).heap.size:=by
 have hra:RdC (w1.alloc ob) b o a v:=((below_one w1 ob).block b hr.lt).trans hr
 have hne:o.ownBlock ≠ some b:=ownsRow_other ht.row (fun cur hc=>by
  have h':w1.heap[b]? = some (.cells #[o,a,v] 105 (0,0)):=hr;rw [h'] at hc;injection hc with hc;injection hc with _ hc;exact absurd hc (by decide))
 have hr2:RdC w2 b o a v:=(hg.block b hra.lt (fun e=>hne e.symm)).trans hra;have hWa:Below B W0 (w1.alloc ob):=hW.alloc hz _;have hza:B <= (w1.alloc ob).heap.size:=by rw [World.size_alloc];exact Nat.le_succ_of_le hz
 have hW2:Below B W0 w2:=hWa.grown hg hza (fun k hk=>(ht.row.lt k hk).1);refine ⟨hr2,⟨⟨a,v,hr2.put0 _⟩,h2.rows (RowsK.put hr2 0 _),hB,hW2.setCell (p:=⟨b,0,none⟩) hB _,?_⟩,fun k hk hkb hko=>?_,?_⟩
 ·have:=hg.size;simp [World.setCell];omega
 ·rw [Below.heap_setCell _ _ _ k (fun e=>hkb (by rw [e])),hg.block k (by rw [World.size_alloc];exact Nat.lt_succ_of_lt hk) (fun e=>hko e.symm)];exact (below_one w1 ob).block k hk
 ·have:=hg.size;rw [World.size_alloc] at this;simp [World.setCell];omega
theorem endText_any (B b : Nat) (o : Value) (vs : List TokV) (x : List UInt8) (W0 w : World) (h : Rdr B b o vs x W0 w) (hn : vs.length ≤ 1099511627776) :
    Calls Tryz.prog 84 #[.pointer (some ⟨b, 0, none⟩)] w fun e w' => e = .returned (.tuple #[]) ∧ EndP B b o vs x W0 w w' := by
  have HL := hide (lenR_any B b o vs x W0 w h)
  by_cases hx : x = []
  · subst hx
    have HR : Hid (EndP B b o vs [] W0 w w) := hide ⟨o, vs, h, by unfold flushT; rw [if_pos rfl], Nat.le_succ _, Nat.le_refl _, fun k _ _ _ _ => rfl⟩
    clear h
    go_enter Tryz.func84, Tryz.ntmps84
    go_wp2_with fail
    refine HL.out.mono ?_
    rintro e w1 ⟨rfl, rfl⟩
    go_wp2_with fail
    go_end0
    exact ⟨rfl, HR.out⟩
  · obtain ⟨N, hN⟩ : ∃ N, x.length = N := ⟨_, rfl⟩
    have hN0 : 0 < N := by rw [← hN]; exact List.length_pos_iff.2 hx
    rw [hN] at HL
    have g1 : decide ((0 : Int) < (N : Int)) = true := decide_eq_true (by omega)
    have hd : Rdr B b o vs x W0 w.drew := h.kept ((Below.refl _ _).drew)
    have HST := hide (stringR_any B b o vs x W0 w.drew hd hx)
    obtain ⟨a0, v0, hc⟩ := h.cell
    have c0 := hc.cell0
    obtain ⟨X, hX⟩ : ∃ X, str x = X := ⟨_, rfl⟩
    rw [hX] at HST
    have HX := hide hX
    have HXN := hide hx
    have HH := hide h
    have HN := hide hn
    have HN0 := hide hN0
    have HBS := hide (show B ≤ b from h.base)
    clear h hx hN hd hc hX hn hN0
    go_enter Tryz.func84, Tryz.ntmps84
    go_wp2_with fail
    refine HL.out.mono ?_
    rintro e w0 ⟨rfl, rfl⟩
    go_wp2_with fail
    all_goals first | exact absurd HN0.out ‹_› | skip
    go_region_law (first
      | (refine step_toks rfl _ _ rfl B o vs rfl (charsT x) (.slice none 0 0) ⟨(KT.out.alloc _).row, (KT.out.alloc _).each⟩ (World.ownsRow_nil _ B _ 2) ?_ ⟨w1.heap.size, 0, none⟩ rfl (tok_row _ _ _ _ _).1 (tok_row _ _ _ _ _).2.1 (tok_row _ _ _ _ _).2.2.1 ((tok_row _ _ _ _ _).2.2.2.trans (by rw [← HX.out]; rfl)) (by have := HN.out; omega) ?_
         · rw [World.size_alloc]
           exact Nat.le_succ_of_le KZ.out
         intro v2 w2 ht2 hg2
         obtain ⟨A2, n2, c2, rfl⟩ : ∃ A n c, v2 = .slice A n c := ⟨_, _, _, ht2.slice_len.choose_spec.choose_spec⟩
         obtain ⟨r2, s2, k2, z2⟩ := stored KR.out KT.out HBS.out KW.out KZ.out ht2 hg2
         have f2 := r2.free 0
         have d2 := r2.cell0
         have HS2 := hide s2
         have HK2 := hide k2
         have HZ2 := hide z2
         clear r2 s2 k2 z2 ht2 hg2)
      | (go_simp; go_at_call 57; refine HST.out.mono ?_; rintro e w1 ⟨rfl, hs, hz1, hk1⟩; obtain ⟨⟨a1, v1, hr1⟩, ht1, hB1, hW1, hzz⟩ := hs; have d1 := hr1.cell0; have e1 : ∀ ob, (w1.alloc ob).cell? ⟨b, 0, none⟩ = some o := fun ob => RdC.cell0 (((below_one w1 ob).block b hr1.lt).trans hr1); have KR := hide hr1; have KT := hide ht1; have KW := hide hW1; have KZ := hide hzz; have KZ1 := hide hz1; have KK1 := hide hk1; clear hr1 ht1 hB1 hW1 hzz hz1 hk1))
    all_goals
      try go_wp2_with fail
      refine (resetR_any B b _ _ W0 _ HS2.out).mono ?_
      rintro e w3 ⟨rfl, hr3, hz3, hk3⟩
      have HR3 := hide hr3
      have HZ3 := hide hz3
      have HK3 := hide hk3
      clear hr3 hz3 hk3
      try go_wp2_with fail
      go_end0
      refine ⟨rfl, _, _, HR3.out, ?_, ?_, Nat.le_trans KZ1.out (Nat.le_trans HZ2.out HZ3.out), fun k h1 h2 h3 h4 => ?_⟩
      · unfold flushT
        rw [if_neg HXN.out, List.map_append]
        rfl
      · rw [List.length_append]
        exact Nat.le_refl _
      · exact (HK3.out k h2).trans ((HK2.out k (Nat.lt_of_lt_of_le h1 KZ1.out) h2 h3).trans (KK1.out k h4))
theorem storedX {B b:Nat} {o a v:Value} {vs:List TokV} {t:TokL} {u:Value} {x:List UInt8} {W0 w1 w2:World} {ob:Obj} {A:Option Addr} {n c:Nat} (hr:RdC w1 b o a v) (ht:TRow B o vs w1) (hB:B <= b) (hW:Below B W0 w1) (hz:B <= w1.heap.size)
  (hv:AdrOK b a /\ w1.ownsRow B 5 1 v x.length (cellsOf x) /\ v.ownBlock ≠ some b)
  (h2:TRow B (.slice A n c) (vs ++ [(t,u)]) w2) (hg:(w1.alloc ob).grownBy w2 o.ownBlock):Rdr B b (.slice A n c) (vs ++ [(t,u)]) x W0 (w2.setCell ⟨b,0,none⟩ (.slice A n c)):=by
 obtain ⟨r2,⟨q1,q2,q3,q4,q5⟩,-,-⟩:=stored hr ht hB hW hz h2 hg;refine ⟨⟨a,v,r2.put0 _,hv.1,?_,hv.2.2⟩,q2,q3,q4,q5⟩;have k1:=hv.2.1.kept (row:=none) (World.grownBy_alloc w1 ob none) (by cases hv:v.ownBlock <;> simp);have k2:=k1.kept hg (ownsRow_diff (by decide) k1 (ht.alloc ob).row);exact k2.kept (row:=some b) ⟨rfl,rfl,rfl,by simp [World.setCell],fun k _ hk=>Below.heap_setCell _ _ _ k (fun e=>hk (by rw [e]))⟩ (.inr hv.2.2)
def tokV (t:TokL) (u:Value):Value:=.agg #[.int .i64 (t.kind:Int),.string (str t.name),u,.string (str t.text)]
theorem add_any (B b : Nat) (o : Value) (vs : List TokV) (x : List UInt8) (W0 w : World) (h : Rdr B b o vs x W0 w) (hn : vs.length ≤ 1099511627776) (t : TokL) (u : Value) (hu : w.ownsRow B 43 2 u t.attrs.length (atVals t.attrs)) :
    Calls Tryz.prog 149 #[.pointer (some ⟨b, 0, none⟩), tokV t u] w fun e w' => e = .returned (.tuple #[]) ∧ ∃ o' vs', Rdr B b o' vs' [] W0 w' ∧ vs'.map Prod.fst = flushT (vs.map Prod.fst) x ++ [t] ∧ vs'.length ≤ vs.length + 2 := by
  obtain ⟨A, c, rfl⟩ : ∃ A c, u = .slice A t.attrs.length c := by
    rcases hu.2 with ⟨rfl, h0⟩ | ⟨g, cap, cur, rfl, _⟩
    · rw [h0]; exact ⟨_, _, rfl⟩
    · exact ⟨_, _, rfl⟩
  obtain ⟨bx, hbx⟩ : ∃ bx : Obj, bx = .cells #[.int .i64 (t.kind : Int), .string (str t.name), .slice A t.attrs.length c, .string (str t.text)] 51 := ⟨_, rfl⟩
  have hk := below_one w bx
  have hr := h.kept hk
  have HE := hide (endText_any B b o vs x W0 (w.alloc bx) hr hn)
  obtain ⟨a0, v0, hc0⟩ := hr.cell
  have HU1 : Hid (∀ w', KeptB b o (w.alloc bx) w' → w'.ownsRow B 43 2 (.slice A t.attrs.length c) t.attrs.length (atVals t.attrs)) := hide (fun w' hw => hw.attr (hu.kept (row := none) (World.grownBy_alloc w bx none) (by cases hv : Value.ownBlock (.slice A t.attrs.length c) <;> simp)) hr.toks.row hc0)
  have HBX : Hid (∀ w', KeptB b o (w.alloc bx) w' → w'.heap[w.heap.size]? = some bx) := hide (fun w' hw => by
    have hs : (w.alloc bx).heap[w.heap.size]? = some bx := by show (w.heap.push bx)[w.heap.size]? = some bx; exact Array.getElem?_push_size
    rw [hw.2 w.heap.size (by rw [World.size_alloc]; exact Nat.lt_succ_self _) ?_ ?_ ?_]
    · exact hs
    · intro e
      obtain ⟨a1, v1, h1⟩ := h.cell
      exact absurd h1.lt (by omega)
    · intro e
      exact absurd (h.toks.row.lt _ e).2 (Nat.lt_irrefl _)
    · intro cur fr hh
      rw [hs, hbx] at hh
      injection hh with hh
      injection hh with _ hh
      exact absurd hh (by decide))
  have HBASE := hide h.base
  have HN := hide hn
  clear h hr hc0 hk hu hn
  subst hbx
  unfold tokV
  go_enter Tryz.func149, Tryz.ntmps149
  go_wp2_with fail
  refine HE.out.mono ?_
  rintro e w1 ⟨rfl, o1, vs1, hr1, hm1, hl1, hk1⟩
  have hbx := HBX.out w1 hk1
  have HU := hide (HU1.out w1 hk1)
  obtain ⟨⟨a1, v1, r1, y2, y3, y4⟩, ht1, hB1, hW1, hz1⟩ := hr1
  have d1 := r1.cell0
  have r1d : RdC w1.drew b o1 a1 v1 := r1
  have e1 : ∀ ob, (w1.alloc ob).cell? ⟨b, 0, none⟩ = some o1 := fun ob => RdC.cell0 (((below_one w1 ob).block b r1.lt).trans r1)
  have e2 : ∀ ob, (w1.drew.alloc ob).cell? ⟨b, 0, none⟩ = some o1 := fun ob => RdC.cell0 (((below_one w1.drew ob).block b r1d.lt).trans r1d)
  have t0 : w1.cell? ⟨w.heap.size, 0, none⟩ = some (.int .i64 (t.kind : Int)) := by rw [Lib.cell_of_heap hbx]; rfl
  have t1 : w1.cell? ⟨w.heap.size, 1, none⟩ = some (.string (str t.name)) := by rw [Lib.cell_of_heap hbx]; rfl
  have t2 : w1.cell? ⟨w.heap.size, 2, none⟩ = some (.slice A t.attrs.length c) := by rw [Lib.cell_of_heap hbx]; rfl
  have t3 : w1.cell? ⟨w.heap.size, 3, none⟩ = some (.string (str t.text)) := by rw [Lib.cell_of_heap hbx]; rfl
  have HV := hide (⟨y2, y3, y4⟩ : AdrOK b a1 ∧ w1.drew.ownsRow B 5 1 v1 ([] : List UInt8).length (cellsOf []) ∧ v1.ownBlock ≠ some b)
  have KR := hide r1d
  have KT : Hid (TRow B o1 vs1 w1.drew) := hide ⟨ht1.row, ht1.each⟩
  have KW : Hid (Below B W0 w1.drew) := hide hW1.drew
  have KZ : Hid (B ≤ w1.drew.heap.size) := hide hz1
  have HM := hide hm1
  have HL := hide hl1
  have hud : w1.drew.ownsRow B 43 2 (.slice A t.attrs.length c) t.attrs.length (atVals t.attrs) := HU.out
  have HUA := hide (fun ob => hud.kept (row := none) (World.grownBy_alloc w1.drew ob none) (by cases hv : Value.ownBlock (.slice A t.attrs.length c) <;> simp))
  clear hud r1 r1d y2 y3 y4 ht1 hB1 hW1 hz1 hm1 hl1 hk1 hbx
  go_wp2_with fail
  go_region_law (first
    | (refine step_toks rfl _ _ rfl B o1 vs1 rfl t (.slice A t.attrs.length c) ⟨(KT.out.alloc _).row, (KT.out.alloc _).each⟩ (HUA.out _) ?_ ⟨w1.heap.size, 0, none⟩ rfl (tok_row _ _ _ _ _).1 (tok_row _ _ _ _ _).2.1 (tok_row _ _ _ _ _).2.2.1 (tok_row _ _ _ _ _).2.2.2 (by have := HN.out; have := HL.out; omega) ?_
       · show B ≤ (w1.drew.alloc _).heap.size
         rw [World.size_alloc]
         exact Nat.le_succ_of_le KZ.out
       intro v2 w2 ht2 hg2
       obtain ⟨A2, n2, c2, rfl⟩ : ∃ A n c, v2 = .slice A n c := ⟨_, _, _, ht2.slice_len.choose_spec.choose_spec⟩
       have s2 := storedX KR.out KT.out HBASE.out KW.out KZ.out HV.out ht2 hg2
       have r2 := (stored KR.out KT.out HBASE.out KW.out KZ.out ht2 hg2).1
       have f2 := r2.free 0
       have d2 := r2.cell0
       have HS2 := hide s2
       clear r2 s2 ht2 hg2)
    | fail)
  all_goals
    try go_wp2_with fail
    go_end0
    refine ⟨rfl, _, _, HS2.out, ?_, ?_⟩
    · rw [List.map_append, HM.out]
      rfl
    · rw [List.length_append]
      have := HL.out
      exact Nat.succ_le_succ this
def ndV (h:NdH) (av kv:Value):Value:=.agg #[.string (str h.name),av,.string (str h.text),kv]
def BegOK {σ:Type} (B Kb:Nat) (cb:Array Value) (Inv:σ -> World -> Prop) (bg:σ -> NdH -> Tr -> σ) (dv:NdH -> Bool) (μ:σ -> Nat) (M:Nat) (G:NdH -> Tr -> Prop):Prop :=
  ∀ (s:σ) (w:World) (h:NdH) (K:Tr) (av:Value) (A:Option Addr) (m c:Nat),Inv s w -> B <= w.heap.size -> G h K -> AttrsC (fun b=>b < B) w av h.attrs -> NodesC (fun b=>b < B) w (.slice A m c) K -> μ (bg s h K) <= M ->
    Calls Tryz.prog Kb (#[ndV h av (.slice A m c)] ++ cb) w fun e w'=>e = .returned (if dv h = true then .slice A m c else .slice none 0 0) /\ Inv (bg s h K) w' /\ FrL B w w'
def EndOK {σ:Type} (B Ke:Nat) (ce:Array Value) (Inv:σ -> World -> Prop) (en:σ -> NdH -> σ) (μ:σ -> Nat) (M:Nat):Prop :=
  ∀ (s:σ) (w:World) (h:NdH) (K:Tr) (av kv:Value),Inv s w -> B <= w.heap.size -> AttrsC (fun b=>b < B) w av h.attrs -> NodesC (fun b=>b < B) w kv K -> μ (en s h) <= M ->
    Calls Tryz.prog Ke (#[ndV h av kv] ++ ce) w fun e w'=>e = .returned (.tuple #[]) /\ Inv (en s h) w' /\ FrL B w w'
def InvOK {σ:Type} (B:Nat) (Inv:σ -> World -> Prop):Prop :=
  ∀ (s:σ) (w w':World) (row:Option Nat),Inv s w -> w.grownBy w' row -> (∀ k,row = some k -> B <= k /\ ∃ cur,w.heap[k]? = some (Obj.cells cur 115 (0,0))) -> Inv s w'
def GoneS {σ:Type} (B:Nat) (Inv:σ -> World -> Prop) (bg:σ -> NdH -> Tr -> σ) (en:σ -> NdH -> σ) (dv:NdH -> Bool) (G:NdH -> Tr -> Prop) (F:σ) (gk:Nat) (r:Value) (W0 w:World):Prop :=
  ∃ (st:List LevV) (s:σ),st ≠ [] /\ LS B r st W0 w /\ Inv s w /\ unw bg en dv (st.map LevV.toP) s = F /\ stepsW (st.map LevV.toP) <= gk /\ gk <= 4000000 /\ ∀ p ∈ st,p.R.ev G
theorem pushedL {σ:Type} {B:Nat} {Inv:σ -> World -> Prop} (hinv:InvOK B Inv) {g m cap:Nat} {st:List LevV} {w wr w3 w5:World} {v':Value} {s:σ} {q:LevV} {ob:Obj} {K:Tr} (hl:LS B (.slice (some ⟨g,0,none⟩) m cap) st w w3) (hi:Inv s w3) (hbb:Below B wr w3)
  (h1:NodesC (fun b=>b < B) wr q.lv q.R) (h2:AttrsC (fun b=>b < B) wr q.av q.h.attrs) (h3:NodesC (fun b=>b < B) wr q.kv K) (ho:w5.ownsRow B 115 5 v' (st.length + 1) (levVals st.reverse ++ levVals [q])) (hg:(w3.alloc ob).grownBy w5 (Value.slice (some ⟨g,0,none⟩) m cap).ownBlock) :
  LS B v' (q :: st) w w5 /\ Inv s w5:=by
 have hbo:=below_one w3 ob;have hl4:=hl.kept hbo;have hb4:Below B wr (w3.alloc ob):=hbb.trans (hbo.mono hl.size);refine ⟨hl4.push (h1.mono (same_below hb4) (fun _ x=>x)) ⟨h2.mono (same_below hb4) (fun _ x=>x),K,h3.mono (same_below hb4) (fun _ x=>x)⟩ ho hg,?_⟩;refine hinv s _ w5 _ (hinv s w3 _ none hi (World.grownBy_alloc w3 _ none) (fun k e=>by cases e)) hg (fun k e=>?_);obtain rfl:g = k:=by simpa [Value.ownBlock] using e
 exact hl4.lev
set_option maxHeartbeats 32000000 in
theorem walk_gen {σ : Type} (B Kb Ke : Nat) (cb ce : Array Value) (hKb : ∀ args w, (callFunc Kb args).run Tryz.prog w = .ok (.enter Kb args) w) (hKe : ∀ args w, (callFunc Ke args).run Tryz.prog w = .ok (.enter Ke args) w)
    (Inv : σ → World → Prop) (bg : σ → NdH → Tr → σ) (en : σ → NdH → σ) (dv : NdH → Bool) (μ : σ → Nat) (M : Nat) (G : NdH → Tr → Prop) (hmb : ∀ s h K, μ s ≤ μ (bg s h K)) (hme : ∀ s h, μ s ≤ μ (en s h))
    (hinv : InvOK B Inv) (hbeg : BegOK B Kb cb Inv bg dv μ M G) (hend : EndOK B Ke ce Inv en μ M)
    (v : Value) (T : Tr) (s0 : σ) (w : World) (hT : NodesC (fun b => b < B) w v T) (hG : T.ev G) (hc : T.count ≤ 1000000) (hM : μ (vis bg en dv T s0) ≤ M) (h0 : Inv s0 w) (hB : B ≤ w.heap.size) :
    Calls Tryz.prog 49 #[v, .func (.func Kb) #[] cb, .func (.func Ke) #[] ce] w fun e w' => e = .returned (.tuple #[]) ∧ Inv (vis bg en dv T s0) w' ∧ Below B w w' := by
  obtain ⟨F, hF⟩ : ∃ F, F = vis bg en dv T s0 := ⟨_, rfl⟩
  rw [← hF] at hM ⊢
  obtain ⟨VA, VC, hv⟩ := hT.form
  have hls : LS B (.slice (some ⟨w.heap.size, 0, none⟩) 1 1) [⟨⟨[], [], []⟩, .slice none 0 0, .slice none 0 0, v, T⟩] w (w.alloc (.cells #[.string ⟨#[]⟩, .slice none 0 0, .string ⟨#[]⟩, .slice none 0 0, v] 115)) := by
    have hb := (below_one w (Obj.cells #[.string ⟨#[]⟩, .slice none 0 0, .string ⟨#[]⟩, .slice none 0 0, v] 115)).mono hB
    refine ⟨World.ownsRow_lit (base := B) (e := 115) (size := 5) w #[.string ⟨#[]⟩, .slice none 0 0, .string ⟨#[]⟩, .slice none 0 0, v] 1 hB (by decide) rfl, fun p hp => ?_, fun p hp => ?_, hb, Nat.le_trans hB hb.size⟩
    · obtain rfl := List.mem_singleton.1 hp
      exact hT.mono (same_below hb) (fun _ x => x)
    · obtain rfl := List.mem_singleton.1 hp
      exact ⟨⟨.inl ⟨rfl, rfl⟩, fun a n c e => (by cases e)⟩, .nil, .inl ⟨rfl, rfl⟩⟩
  have hinv0 : Inv s0 (w.alloc (.cells #[.string ⟨#[]⟩, .slice none 0 0, .string ⟨#[]⟩, .slice none 0 0, v] 115)) := hinv s0 w _ none h0 (World.grownBy_alloc w _ none) (fun k e => by cases e)
  have HS : Hid (GoneS B Inv bg en dv G F (2 * T.count + 1) (.slice (some ⟨w.heap.size, 0, none⟩) 1 1) w (w.alloc (.cells #[.string ⟨#[]⟩, .slice none 0 0, .string ⟨#[]⟩, .slice none 0 0, v] 115))) :=
    hide ⟨_, s0, by simp, hls, hinv0, hF.symm, by simp [stepsW, LevV.toP], by omega, fun p hp => by obtain rfl := List.mem_singleton.1 hp; exact hG⟩
  have HINV := hide hinv
  have HBEG := hide hbeg
  have HEND := hide hend
  have HM := hide hM
  have HKB := hide hKb
  have HKE := hide hKe
  have HMB := hide (And.intro hmb hme)
  subst hv
  clear hinv hbeg hend hM hT hG hc h0 hF hls hinv0 hmb hme
  go_enter Tryz.func49, Tryz.ntmps49
  go_wp2_with fail
  go_loopg [6, 7, 8] (2 * T.count + 1) (fun gk r u7 u8 wr => Hid (GoneS B Inv bg en dv G F gk r w wr))
  case atStart => exact HS.out
  case round =>
    obtain ⟨st, s, hne, hl, hi, hu, hstep, hbig, hev⟩ := hrel.out
    match st, hne with
    | p :: rest, _ =>
    obtain ⟨g, cap, rfl, i1, i2, i3, i4⟩ := hl.form (by simp)
    have hl2 : LS B (.slice (some ⟨g, 0, none⟩) (rest.length + 1) cap) (p :: rest) w wr := hl
    have hlen : rest.length ≤ 4000000 := by
      have h1 := steps_len ((p :: rest).map LevV.toP)
      simp only [List.length_map, List.length_cons] at h1
      omega
    obtain ⟨e0, e1, e2, e3, e4, ef⟩ := hl2.cells
    have tn1 : wrap64 ((rest.length : Int) + 1 - 1) = (rest.length : Int) := by unfold wrap64; omega
    have tn5 : (rest.length : Int) < (rest.length : Int) + 1 := by omega
    have HI := hide hi
    have HCP := hide (And.intro i1 i2)
    have HEV := hide hev
    have hleft := hl2.left p (List.mem_cons_self ..)
    have HL := hide hl2
    have HHB := hide hbig
    have HST := hide hstep
    have HLN := hide hlen
    obtain ⟨AA, AC, hav⟩ := (hl2.node p (List.mem_cons_self ..)).1.1.form
    obtain ⟨KK, hKK⟩ := (hl2.node p (List.mem_cons_self ..)).2
    obtain ⟨KA, KC, hkv⟩ := hKK.form
    have HKK := hide hKK
    have HAV := hide hav
    have HKV := hide hkv
    rw [hav] at e1
    rw [hkv] at e3
    obtain ⟨LA, LC, hlv⟩ := hleft.form
    have HLV := hide hlv
    rw [hlv] at e4
    have hlv' := hlv
    clear hl hl2 hi i1 i2 i3 i4 hev hbig hstep hne hrel hKK hav hkv hlv hlen
    cases hR : p.R with
    | nil =>
      rw [hR] at e4
      have e4' : wr.cell? ⟨g, rest.length * 5 + 4, none⟩ = some (.slice LA 0 LC) := e4
      clear e4
      match rest, hu, HL, HI, HEV, HST, HLN, e0, e1, e2, e3, e4', tn1, tn5, HCP with
      | [], hu, HL, HI, HEV, HST, HLN, e0, e1, e2, e3, e4', tn1, tn5, HCP =>
        have hFs : s = F := by
          rw [← hu]
          show s = vis bg en dv p.R s
          rw [hR]; rfl
        have HE : Hid (Inv F wr ∧ Below B w wr) := hide ⟨by rw [← hFs]; exact HI.out, HL.out.below⟩
        clear hu hFs hR hleft
        simp only [List.length_nil, Nat.zero_mul, Nat.zero_add] at e0 e1 e2 e3 e4'
        clear tn1 tn5
        go_wp2_with fail
        try simp only [Exit.inBlock, Exit.then]
        refine bodyPost_ret (results_none rfl _ _ _) rfl ?_
        exact ⟨rfl, HE.out⟩
      | q :: rest, hu, HL, HI, HEV, HST, HLN, e0, e1, e2, e3, e4', tn1, tn5, HCP =>
        have hu2 : unw bg en dv ((q :: rest).map LevV.toP) (en s p.h) = F := by
          rw [← hu]
          show _ = unw bg en dv ((p.h, p.R) :: q.toP :: rest.map LevV.toP) s
          rw [hR]; rfl
        have hM2 : μ (en s p.h) ≤ M := Nat.le_trans (unw_mono bg en dv μ HMB.out.1 HMB.out.2 ((q :: rest).map LevV.toP) (en s p.h)) (by rw [hu2]; exact HM.out)
        have hen := HEND.out s wr p.h KK (.slice AA p.h.attrs.length AC) (.slice KA KK.len KC) HI.out HL.out.size (by rw [← HAV.out]; exact (HL.out.node p (List.mem_cons_self ..)).1) (by rw [← HKV.out]; exact HKK.out) hM2
        unfold ndV at hen
        have HEN := hide hen
        have HU2 := hide hu2
        obtain ⟨X0, hX0⟩ : ∃ X, X = str p.h.name := ⟨_, rfl⟩
        obtain ⟨X1, hX1⟩ : ∃ X, X = str p.h.text := ⟨_, rfl⟩
        simp only [List.length_cons] at e0 e1 e2 e3 e4' tn1 tn5
        rw [← hX0] at e0 HEN
        rw [← hX1] at e2 HEN
        have t8 : decide ((1 : Int) < (rest.length : Int) + 1 + 1) = true := decide_eq_true (by omega)
        have hln : rest.length + 1 ≤ 4000000 := by have := HLN.out; simp only [List.length_cons] at this; exact this
        clear hu hu2 hM2 hen hleft hR hX0 hX1 tn1 tn5
        have hsl1 : (0 : Int) ≤ (rest.length : Int) + 1 := by omega
        have hsl2 : (rest.length : Int) + 1 ≤ (cap : Int) := by have := HCP.out.1; simp only [List.length_cons] at this; omega
        have hsl3 : ((rest.length : Int) + 1).toNat = rest.length + 1 := by omega
        go_wp2_with fail
        refine HEN.out.mono ?_
        rintro e w1 ⟨rfl, hi1, hf1⟩
        have HI1 := hide hi1
        have HF1 := hide hf1
        clear hi1 hf1 e0 e1 e2 e3 e4'
        go_wp2_with fail
        cases gk with
        | zero => exact absurd HST.out (by simp only [List.map_cons, stepsW]; omega)
        | succ gk =>
        go_roundg gk
        case rel =>
          refine hide ⟨q :: rest, en s p.h, by simp, (LS.frame HL.out HF1.out).pop, HI1.out, HU2.out, ?_, by have := HHB.out; omega, fun x hx => HEV.out x (List.mem_cons_of_mem _ hx)⟩
          have h1 := HST.out
          simp only [List.map_cons, stepsW] at h1 ⊢
          omega
        case measure => omega
    | cons h K R =>
      rw [hR] at e4 hleft
      rw [hlv'] at hleft
      have hcapL := hleft.cap
      have HLVC := hide hcapL.2.2
      obtain ⟨a, rfl, hat, hcl⟩ : ∃ a, LA = some a ∧ NodesAt (fun b => b < B) wr (.cons h K R) a ∧ R.len + 1 ≤ LC := by
        rcases hleft with ⟨h1, h2⟩ | ⟨a, cp, h1, h2, h3, h4⟩
        · cases h2
        · injection h1 with e5 e6 e7
          subst e7
          exact ⟨a, e5, h4, h2⟩
      obtain ⟨n0, n1, n2, ⟨uA, n3, n4⟩, ⟨uK, n5, n6⟩, n7⟩ := hat
      obtain ⟨NA, NC, rfl⟩ := n4.1.form
      have n6' : NodesC (fun b => b < B) wr uK K := n6
      obtain ⟨MA, MC, rfl⟩ := n6'.form
      have hnl : ∀ ad : Addr, ({ block := a.block, off := a.off + 1 } : Addr) = a.add 1 ∧ ({ block := a.block, off := a.off + 2 } : Addr) = a.add 2 ∧ ({ block := a.block, off := a.off + 3 } : Addr) = a.add 3 := fun _ => ⟨rfl, rfl, rfl⟩
      have m1 : wr.cell? { block := a.block, off := a.off + 1 } = some (.slice NA h.attrs.length NC) := n3
      have m2 : wr.cell? { block := a.block, off := a.off + 2 } = some (.string (str h.text)) := n2
      have m3 : wr.cell? { block := a.block, off := a.off + 3 } = some (.slice MA K.len MC) := n5
      obtain ⟨X0, hX0⟩ : ∃ X, X = str h.name := ⟨_, rfl⟩
      obtain ⟨X1, hX1⟩ : ∃ X, X = str h.text := ⟨_, rfl⟩
      rw [← hX0] at n1
      rw [← hX1] at m2
      have HX := hide (And.intro hX0 hX1)
      have HNA := hide n4
      have HNK := hide n6'
      have hLg : g ≠ wr.heap.size := by
        have := World.block_lt_of_cell? _ _ e4
        exact Nat.ne_of_lt this
      have t4 : decide ((0 : Int) < (R.len : Int) + 1) = true := decide_eq_true (by omega)
      have e4' : wr.cell? ⟨g, rest.length * 5 + 4, none⟩ = some (.slice (some a) (R.len + 1) LC) := e4
      have hln : rest.length ≤ 4000000 := HLN.out
      have hrln : R.len ≤ 4000000 := by
        have h1 := HST.out
        have h2 := HHB.out
        simp only [List.map_cons, stepsW] at h1
        rw [show p.toP.2 = p.R from rfl, hR] at h1
        simp only [Tr.count] at h1
        have h3 := Tr.len_count R
        omega
      have hst2 : stepsW ((h, inner dv h K) :: (p.h, R) :: rest.map LevV.toP) + 1 ≤ gk := by
        have h1 := HST.out
        simp only [List.map_cons, stepsW] at h1
        rw [show p.toP.2 = p.R from rfl, hR] at h1
        simp only [Tr.count] at h1
        simp only [stepsW]
        have := inner_count dv h K
        omega
      have hu2 : unw bg en dv ((h, inner dv h K) :: (p.h, R) :: rest.map LevV.toP) (bg s h K) = F := by
        rw [← unw_visit, ← hu]
        show _ = unw bg en dv ((p.h, p.R) :: rest.map LevV.toP) s
        rw [hR]
      have hM2 : μ (bg s h K) ≤ M := Nat.le_trans (unw_mono bg en dv μ HMB.out.1 HMB.out.2 _ (bg s h K)) (by rw [hu2]; exact HM.out)
      obtain ⟨hGk, hGK, hGR⟩ : G h K ∧ K.ev G ∧ R.ev G := by
        have := HEV.out p (List.mem_cons_self ..)
        rw [hR] at this
        exact this
      have HU2 := hide hu2
      have HS2 := hide hst2
      have HM2 := hide hM2
      have HGG := hide (And.intro hGk (And.intro hGK hGR))
      clear hu hu2 hst2 hM2 hGk hGK hGR hR
      have e4a : ∀ ob, (wr.alloc ob).cell? ⟨g, rest.length * 5 + 4, none⟩ = some (.slice (some a) (R.len + 1) LC) := fun ob => ((below_one wr ob).cell (World.block_lt_of_cell? _ _ e4')).trans e4'
      have efa : ∀ ob i, (wr.alloc ob).frozen? ⟨g, i, none⟩ = false := fun ob i => ((below_one wr ob).frozen (p := ⟨g, i, none⟩) (show g < wr.heap.size from World.block_lt_of_cell? _ _ e4')).trans (ef i)
      clear e4 e0 e1 e2 e3 tn1 n0 n2 n3 n4 n5 n6 n6' hX0 hX1 hnl
      -- the node's box, and what is left
      have hbk := below_one wr (Obj.cells #[.string X0, .slice NA h.attrs.length NC, .string X1, .slice MA K.len MC] 33)
      have HL2 : Hid (∀ u, NodesC (fun b => b < B) wr u R → LS B (.slice (some ⟨g, 0, none⟩) (rest.length + 1) cap) ({ p with lv := u, R := R } :: rest) w ((wr.alloc (Obj.cells #[.string X0, .slice NA h.attrs.length NC, .string X1, .slice MA K.len MC] 33)).setCell ⟨g, rest.length * 5 + 4, none⟩ u) ∧ Inv s ((wr.alloc (Obj.cells #[.string X0, .slice NA h.attrs.length NC, .string X1, .slice MA K.len MC] 33)).setCell ⟨g, rest.length * 5 + 4, none⟩ u)) := hide fun u hu => by
        have hl3 := HL.out.kept hbk
        obtain ⟨k1, k2⟩ := hl3.putLeft u R (hu.mono (same_below (hbk.mono HL.out.size)) (fun _ x => x))
        refine ⟨k1, HINV.out s _ _ (some g) (HINV.out s wr _ none HI.out (World.grownBy_alloc wr _ none) (fun k e => by cases e)) k2 (fun k e => ?_)⟩
        injection e with e
        subst e
        exact hl3.lev
      have HBX : Hid (∀ u, ((wr.alloc (Obj.cells #[.string X0, .slice NA h.attrs.length NC, .string X1, .slice MA K.len MC] 33)).setCell ⟨g, rest.length * 5 + 4, none⟩ u).heap[wr.heap.size]? = some (Obj.cells #[.string X0, .slice NA h.attrs.length NC, .string X1, .slice MA K.len MC] 33 (0, 0))) := hide fun u =>
        (Below.heap_setCell _ ⟨g, rest.length * 5 + 4, none⟩ u wr.heap.size (fun e => hLg e.symm)).trans (heap_alloc_new wr _)
      have HBW : Hid (∀ u, Below B wr ((wr.alloc (Obj.cells #[.string X0, .slice NA h.attrs.length NC, .string X1, .slice MA K.len MC] 33)).setCell ⟨g, rest.length * 5 + 4, none⟩ u)) := hide fun u => (hbk.mono HL.out.size).setCell (p := ⟨g, rest.length * 5 + 4, none⟩) HL.out.lev.1 u
      obtain ⟨IA, IM, IC, hI1, hI2⟩ : ∃ A m c, (if dv h = true then Value.slice MA K.len MC else .slice none 0 0) = .slice A m c ∧ NodesC (fun b => b < B) wr (.slice A m c) (inner dv h K) := by
        unfold inner
        split
        · exact ⟨_, _, _, rfl, HNK.out⟩
        · exact ⟨_, _, _, rfl, .inl ⟨rfl, rfl⟩⟩
      have HI1 := hide hI1
      have HI2 := hide hI2
      have HN7 := hide n7
      have HC1 := hide hcl
      clear hbk hI1 hI2 n7 hcl hLg hleft hcapL
      by_cases hc1 : LC = 1
      · have hu : NodesC (fun b => b < B) wr (.slice (some a) 0 0) R := by
          cases R with
          | nil => exact .inr ⟨a, 0, rfl, Nat.le_refl _, Nat.zero_le _, trivial⟩
          | cons h' K' R' => have := HC1.out; simp only [Tr.len] at this; omega
        have hr0 : R.len = 0 := by have := HC1.out; omega
        have HUU := hide hu
        clear hu
        subst hc1
        go_wp2_with fail
        obtain ⟨hls2, hinv2⟩ := HL2.out (.slice (some a) 0 0) HUU.out
        have hbx2 := HBX.out (.slice (some a) 0 0)
        have hbw2 := HBW.out (.slice (some a) 0 0)
        clear e4a efa e4' n1 m1 m2 m3 t4
        generalize ((wr.alloc (Obj.cells #[.string X0, .slice NA h.attrs.length NC, .string X1, .slice MA K.len MC] 33)).setCell ⟨g, rest.length * 5 + 4, none⟩ (.slice (some a) 0 0)) = W2 at hls2 hinv2 hbx2 hbw2 ⊢
        have y0 : W2.cell? ⟨wr.heap.size, 0, none⟩ = some (.string X0) := by rw [Lib.cell_of_heap hbx2]; rfl
        have y1 : W2.cell? ⟨wr.heap.size, 1, none⟩ = some (.slice NA h.attrs.length NC) := by rw [Lib.cell_of_heap hbx2]; rfl
        have y2 : W2.cell? ⟨wr.heap.size, 2, none⟩ = some (.string X1) := by rw [Lib.cell_of_heap hbx2]; rfl
        have y3 : W2.cell? ⟨wr.heap.size, 3, none⟩ = some (.slice MA K.len MC) := by rw [Lib.cell_of_heap hbx2]; rfl
        have hbd : Below B wr W2.drew := hbw2.drew
        have hcall := HBEG.out s W2.drew h K (.slice NA h.attrs.length NC) MA K.len MC (HINV.out s W2 W2.drew none hinv2 ⟨rfl, rfl, rfl, Nat.le_refl _, fun _ _ _ => rfl⟩ (fun k e => by cases e)) hls2.size HGG.out.1 (HNA.out.mono (same_below hbd) (fun _ x => x)) (HNK.out.mono (same_below hbd) (fun _ x => x)) HM2.out
        unfold ndV at hcall
        rw [← HX.out.1, ← HX.out.2, HI1.out] at hcall
        have HCALL := hide hcall
        have HLS2 := hide (hls2.kept (w' := W2.drew) (Below.refl _ _).drew)
        have HBX2 := hide hbx2
        have HBD := hide hbd
        clear hcall hls2 hinv2 hbx2 hbw2 hbd
        go_region_law (first
          | (refine step_level rfl _ _ rfl B (.slice (some ⟨g, 0, none⟩) (rest.length + 1) cap) ({ p with lv := .slice (some a) 0 0, R := R } :: rest) rfl ?_ ?_ ⟨w3.heap.size, 0, none⟩ h NA MA IA h.attrs.length NC K.len MC IM IC (inner dv h K) rfl ((lev_row _ _ _ _ _ _).1.trans (by rw [HX.out.1])) (lev_row _ _ _ _ _ _).2.1 ((lev_row _ _ _ _ _ _).2.2.1.trans (by rw [HX.out.2])) (lev_row _ _ _ _ _ _).2.2.2.1 (lev_row _ _ _ _ _ _).2.2.2.2 (by have := HLN.out; simp only [List.length_cons]; omega) ?_
             · exact (HL3.out.kept (below_one w3 _)).row
             · exact Nat.le_trans HL3.out.size (below_one w3 _).size
             intro v' w5 ho2 hg2
             obtain ⟨hl5, hi5⟩ := pushedL (q := ⟨h, .slice NA h.attrs.length NC, .slice MA K.len MC, .slice IA IM IC, inner dv h K⟩) (K := K) HINV.out HL3.out HI3.out HB3.out HI2.out HNA.out HNK.out ho2 hg2
             obtain ⟨ao, n', c', rfl⟩ : ∃ ao n' c', v' = .slice ao n' c' := by
               rcases ho2.2 with ⟨hv, _⟩ | ⟨g0, c0, cur, hv, _⟩
               · exact ⟨_, _, _, hv⟩
               · exact ⟨_, _, _, hv⟩
             have HL5 := hide hl5
             have HI5 := hide hi5
             clear ho2 hg2 hl5 hi5)
          | (go_simp; (with_reducible refine HCALL.out.mono ?_); rintro e w3 ⟨rfl, hi3, hf3⟩; have hb3 := (hf3.2 wr.heap.size _ _ _ HBX2.out (.inr rfl)).trans HBX2.out; have z0 : w3.cell? ⟨wr.heap.size, 0, none⟩ = some (.string X0) := (Lib.cell_of_heap hb3 0).trans rfl; have z1 : w3.cell? ⟨wr.heap.size, 1, none⟩ = some (.slice NA h.attrs.length NC) := (Lib.cell_of_heap hb3 1).trans rfl; have z2 : w3.cell? ⟨wr.heap.size, 2, none⟩ = some (.string X1) := (Lib.cell_of_heap hb3 2).trans rfl; have z3 : w3.cell? ⟨wr.heap.size, 3, none⟩ = some (.slice MA K.len MC) := (Lib.cell_of_heap hb3 3).trans rfl; have HI3 := hide hi3; have HL3 := hide (HLS2.out.frame hf3); have HB3 := hide (HBD.out.trans hf3.1); clear hi3 hf3 hb3))
        all_goals
          go_wp2_with fail
          cases gk with
          | zero => exact absurd HS2.out (Nat.not_succ_le_zero _)
          | succ gk =>
          go_roundg gk
          case rel =>
            refine hide ⟨_, bg s h K, by simp, HL5.out, HI5.out, HU2.out, Nat.le_of_succ_le_succ HS2.out, by have := HHB.out; omega, fun x hx => ?_⟩
            rcases List.mem_cons.1 hx with rfl | hx
            · exact inner_ev dv HGG.out.2.1
            · rcases List.mem_cons.1 hx with rfl | hx
              · exact HGG.out.2.2
              · exact HEV.out x (List.mem_cons_of_mem _ hx)
          case measure => omega
      · have hu : NodesC (fun b => b < B) wr (.slice (some { block := a.block, off := a.off + 4 }) R.len (LC - 1)) R := .inr ⟨a.add 4, LC - 1, rfl, by have := HC1.out; omega, by have := HCP.out.2; have := HLVC.out; omega, HN7.out⟩
        have HUU := hide hu
        clear hu
        go_wp2_with fail
        obtain ⟨hls2, hinv2⟩ := HL2.out (.slice (some { block := a.block, off := a.off + 4 }) R.len (LC - 1)) HUU.out
        have hbx2 := HBX.out (.slice (some { block := a.block, off := a.off + 4 }) R.len (LC - 1))
        have hbw2 := HBW.out (.slice (some { block := a.block, off := a.off + 4 }) R.len (LC - 1))
        clear e4a efa e4' n1 m1 m2 m3 t4
        generalize ((wr.alloc (Obj.cells #[.string X0, .slice NA h.attrs.length NC, .string X1, .slice MA K.len MC] 33)).setCell ⟨g, rest.length * 5 + 4, none⟩ (.slice (some { block := a.block, off := a.off + 4 }) R.len (LC - 1))) = W2 at hls2 hinv2 hbx2 hbw2 ⊢
        have y0 : W2.cell? ⟨wr.heap.size, 0, none⟩ = some (.string X0) := by rw [Lib.cell_of_heap hbx2]; rfl
        have y1 : W2.cell? ⟨wr.heap.size, 1, none⟩ = some (.slice NA h.attrs.length NC) := by rw [Lib.cell_of_heap hbx2]; rfl
        have y2 : W2.cell? ⟨wr.heap.size, 2, none⟩ = some (.string X1) := by rw [Lib.cell_of_heap hbx2]; rfl
        have y3 : W2.cell? ⟨wr.heap.size, 3, none⟩ = some (.slice MA K.len MC) := by rw [Lib.cell_of_heap hbx2]; rfl
        have hbd : Below B wr W2.drew := hbw2.drew
        have hcall := HBEG.out s W2.drew h K (.slice NA h.attrs.length NC) MA K.len MC (HINV.out s W2 W2.drew none hinv2 ⟨rfl, rfl, rfl, Nat.le_refl _, fun _ _ _ => rfl⟩ (fun k e => by cases e)) hls2.size HGG.out.1 (HNA.out.mono (same_below hbd) (fun _ x => x)) (HNK.out.mono (same_below hbd) (fun _ x => x)) HM2.out
        unfold ndV at hcall
        rw [← HX.out.1, ← HX.out.2, HI1.out] at hcall
        have HCALL := hide hcall
        have HLS2 := hide (hls2.kept (w' := W2.drew) (Below.refl _ _).drew)
        have HBX2 := hide hbx2
        have HBD := hide hbd
        clear hcall hls2 hinv2 hbx2 hbw2 hbd
        go_region_law (first
          | (refine step_level rfl _ _ rfl B (.slice (some ⟨g, 0, none⟩) (rest.length + 1) cap) ({ p with lv := .slice (some { block := a.block, off := a.off + 4 }) R.len (LC - 1), R := R } :: rest) rfl ?_ ?_ ⟨w3.heap.size, 0, none⟩ h NA MA IA h.attrs.length NC K.len MC IM IC (inner dv h K) rfl ((lev_row _ _ _ _ _ _).1.trans (by rw [HX.out.1])) (lev_row _ _ _ _ _ _).2.1 ((lev_row _ _ _ _ _ _).2.2.1.trans (by rw [HX.out.2])) (lev_row _ _ _ _ _ _).2.2.2.1 (lev_row _ _ _ _ _ _).2.2.2.2 (by have := HLN.out; simp only [List.length_cons]; omega) ?_
             · exact (HL3.out.kept (below_one w3 _)).row
             · exact Nat.le_trans HL3.out.size (below_one w3 _).size
             intro v' w5 ho2 hg2
             obtain ⟨hl5, hi5⟩ := pushedL (q := ⟨h, .slice NA h.attrs.length NC, .slice MA K.len MC, .slice IA IM IC, inner dv h K⟩) (K := K) HINV.out HL3.out HI3.out HB3.out HI2.out HNA.out HNK.out ho2 hg2
             obtain ⟨ao, n', c', rfl⟩ : ∃ ao n' c', v' = .slice ao n' c' := by
               rcases ho2.2 with ⟨hv, _⟩ | ⟨g0, c0, cur, hv, _⟩
               · exact ⟨_, _, _, hv⟩
               · exact ⟨_, _, _, hv⟩
             have HL5 := hide hl5
             have HI5 := hide hi5
             clear ho2 hg2 hl5 hi5)
          | (go_simp; (with_reducible refine HCALL.out.mono ?_); rintro e w3 ⟨rfl, hi3, hf3⟩; have hb3 := (hf3.2 wr.heap.size _ _ _ HBX2.out (.inr rfl)).trans HBX2.out; have z0 : w3.cell? ⟨wr.heap.size, 0, none⟩ = some (.string X0) := (Lib.cell_of_heap hb3 0).trans rfl; have z1 : w3.cell? ⟨wr.heap.size, 1, none⟩ = some (.slice NA h.attrs.length NC) := (Lib.cell_of_heap hb3 1).trans rfl; have z2 : w3.cell? ⟨wr.heap.size, 2, none⟩ = some (.string X1) := (Lib.cell_of_heap hb3 2).trans rfl; have z3 : w3.cell? ⟨wr.heap.size, 3, none⟩ = some (.slice MA K.len MC) := (Lib.cell_of_heap hb3 3).trans rfl; have HI3 := hide hi3; have HL3 := hide (HLS2.out.frame hf3); have HB3 := hide (HBD.out.trans hf3.1); clear hi3 hf3 hb3))
        all_goals
          go_wp2_with fail
          cases gk with
          | zero => exact absurd HS2.out (Nat.not_succ_le_zero _)
          | succ gk =>
          go_roundg gk
          case rel =>
            refine hide ⟨_, bg s h K, by simp, HL5.out, HI5.out, HU2.out, Nat.le_of_succ_le_succ HS2.out, by have := HHB.out; omega, fun x hx => ?_⟩
            rcases List.mem_cons.1 hx with rfl | hx
            · exact inner_ev dv HGG.out.2.1
            · rcases List.mem_cons.1 hx with rfl | hx
              · exact HGG.out.2.2
              · exact HEV.out x (List.mem_cons_of_mem _ hx)
          case measure => omega
theorem endNone {σ:Type} (B:Nat) (Inv:σ -> World -> Prop) (μ:σ -> Nat) (M:Nat) (hinv:InvOK B Inv):EndOK B 96 #[] Inv (fun s _=>s) μ M:=by
 intro s w h K av kv hi hB ha hk _;obtain ⟨A,c,rfl⟩:=ha.1.form;obtain ⟨A2,c2,rfl⟩:=hk.form;have HR:Hid (Inv s (w.alloc (Obj.cells #[.string (str h.name),.slice A h.attrs.length c,.string (str h.text),.slice A2 K.len c2] 33)) /\ FrL B w (w.alloc (Obj.cells #[.string (str h.name),.slice A h.attrs.length c,.string (str h.text),.slice A2 K.len c2] 33))):=hide ⟨hinv s w _ none hi (World.grownBy_alloc w _ none) (fun k e=>by cases e),FrL.kept (below_one w _) hB⟩;clear hi hB ha hk hinv;show Calls Tryz.prog _ #[ndV h _ _] w _
 unfold ndV;go_enter Tryz.func96,Tryz.ntmps96;go_wp2_with fail;go_end0;exact ⟨rfl,HR.out⟩
theorem begins_gen {σ:Type} (B Kb:Nat) (cb:Array Value) (hKb:∀ args w,(callFunc Kb args).run Tryz.prog w = .ok (.enter Kb args) w)
  (Inv:σ -> World -> Prop) (bg:σ -> NdH -> Tr -> σ) (dv:NdH -> Bool) (μ:σ -> Nat) (M:Nat) (G:NdH -> Tr -> Prop) (hmb:∀ s h K,μ s <= μ (bg s h K))
  (hinv:InvOK B Inv) (hbeg:BegOK B Kb cb Inv bg dv μ M G)
  (v:Value) (T:Tr) (s0:σ) (w:World) (hT:NodesC (fun b=>b < B) w v T) (hG:T.ev G) (hc:T.count <= 1000000) (hM:μ (vis bg (fun s _=>s) dv T s0) <= M) (h0:Inv s0 w) (hB:B <= w.heap.size) :
  Calls Tryz.prog 47 #[v,.func (.func Kb) #[] cb] w fun e w'=>e = .returned (.tuple #[]) /\ Inv (vis bg (fun s _=>s) dv T s0) w' /\ Below B w w':=by
 have HN:=hide (walk_gen B Kb 96 cb #[] hKb (enters_of Tryz.func96 (by kernel_rfl) rfl) Inv bg (fun s _=>s) dv μ M G hmb (fun s _=>Nat.le_refl _) hinv hbeg (endNone B Inv μ M hinv) v T s0 w hT hG hc hM h0 hB);obtain ⟨A,c,rfl⟩:=hT.form;clear hmb hinv hbeg hT hG hM h0 hB hKb;go_enter Tryz.func47,Tryz.ntmps47;go_wp2_with fail;refine HN.out.mono ?_;rintro e w1 ⟨rfl,h1⟩;have H1:=hide h1;clear h1;go_wp2_with fail;go_end0;exact ⟨rfl,H1.out⟩
theorem bldSize:(Tryz.prog.info? 78).map (·.size) = some 2:=by kernel_rfl
theorem bldLies:liesAt Tryz.prog Tryz.prog.depth 78 (2 / Tryz.prog.cellsOf 78) 0 78 1 = true:=by kernel_rfl
def Bld (B b:Nat) (l:List UInt8) (W0 w:World):Prop:=Lib.IsBuilder 78 5 B b (cellsOf l) w /\ Below B W0 w /\ B <= w.heap.size
theorem copyCheck_used (b:Nat) (w:World) (h0:w.cell? ⟨b,0,none⟩ = some (.pointer (some ⟨b,0,none⟩))) :
  Calls Tryz.prog 103 #[.pointer (some ⟨b,0,none⟩)] w fun e w'=>e = .returned (.tuple #[]) /\ w = w':=by
 obtain ⟨j,hj,_⟩:=Option.map_eq_some_iff.1 bldSize;have hne:=fun w:World=>Lib.run_neq_ptr_same (P:=Tryz.prog) w ⟨b,0,none⟩ Tryz.underlying76 hj
 go_enter Tryz.func103,Tryz.ntmps103;go_wp2;go_end0;exact ⟨rfl,rfl⟩
theorem copyCheck_fresh (b:Nat) (w:World) (h0:w.cell? ⟨b,0,none⟩ = some (.pointer none)) (hsh:w.shape? b = some (78,2)) (hfz:w.frozen? ⟨b,0,none⟩ = false) :
  Calls Tryz.prog 103 #[.pointer (some ⟨b,0,none⟩)] w fun e w'=>e = .returned (.tuple #[]) /\ w.setCell ⟨b,0,none⟩ (.pointer (some ⟨b,0,none⟩)) = w':=by
 obtain ⟨j,hj,hjs⟩:=Option.map_eq_some_iff.1 bldSize;have c1:=Lib.run_to_unsafe (P:=Tryz.prog) w ⟨b,0,none⟩ Tryz.underlying76 Tryz.underlying153 hj (by rw [hjs];decide) hsh (Nat.zero_lt_succ 1);have c2:=Lib.run_from_unsafe (P:=Tryz.prog) w ⟨b,0,none⟩ Tryz.underlying153 Tryz.underlying76 hj hsh bldLies;have ce:=fun w:World=>run_callFunc_extern (P:=Tryz.prog) (w:=w) (args:=#[Value.pointer (some ⟨b,0,none⟩)]) Tryz.func140 (by kernel_rfl) (by kernel_rfl) (by kernel_rfl) (e:=Extern.AbiNoEscape.same) (by kernel_rfl)
 have cn:=fun w:World=>Lib.run_noEscape (P:=Tryz.prog) (w:=w) (Value.pointer (some ⟨b,0,none⟩))
 go_enter Tryz.func103,Tryz.ntmps103;go_wp2;go_end0;exact ⟨rfl,rfl⟩
theorem copyCheck_any (B b:Nat) (bs:List Value) (w:World) (h:Lib.IsBuilder 78 5 B b bs w) :
  Calls Tryz.prog 103 #[.pointer (some ⟨b,0,none⟩)] w fun e w'=>e = .returned (.tuple #[]) /\ (Lib.BuilderAt 78 5 B b (.pointer (some ⟨b,0,none⟩)) bs w' /\ Below B w w'):=by
 rcases h with h | h
 ·refine (copyCheck_fresh b w h.cell0 h.shape h.frozen0).mono ?_;rintro e w' ⟨rfl,rfl⟩;exact ⟨rfl,h.used _,(Below.refl B w).setCell (p:=⟨b,0,none⟩) h.1 _⟩
 ·refine (copyCheck_used b w h.cell0).mono ?_;rintro e w' ⟨rfl,rfl⟩;exact ⟨rfl,h,Below.refl B _⟩
theorem writeString_any (B b : Nat) (l : List UInt8) (s : ByteArray) (W0 w : World) (h : Bld B b l W0 w) (hlen : l.length + s.size ≤ 140737488355328) :
    Calls Tryz.prog 64 #[.pointer (some ⟨b, 0, none⟩), .string s] w fun e w' => e = .returned (.tuple #[.int .i64 s.size, .nilIface]) ∧ Bld B b (l ++ s.data.toList) W0 w' := by
  obtain ⟨h, hbel, hBw⟩ := h
  obtain ⟨i0, hi, hz0, hz1, hz2⟩ := info_parts info_u8
  have HBL := hide hbel
  clear hbel
  go_enter Tryz.func64, Tryz.ntmps64
  go_wp2_with fail
  refine (copyCheck_any B b (cellsOf l) _ h).mono ?_
  rintro e w1 ⟨rfl, h1, hb1⟩
  obtain ⟨hB, v, hbk, hown, hne⟩ := h1
  have c1 : w1.cell? ⟨b, 1, none⟩ = some v := by rw [Lib.cell_of_heap hbk]; rfl
  have hlt : b < w1.heap.size := lt_of_block hbk
  have hl1 : (cellsOf l).length = l.length := cellsOf_length l
  have HBK := hide hbk
  have HOWN := hide hown
  have HNE := hide hne
  have HB1 := hide hb1
  have hsz1 := hb1.size
  have HI := hide hi
  have HZ0 := hide hz0
  have HZ1 := hide hz1
  have HZ2 := hide hz2
  have HL1 := hide hl1
  clear hbk hown hne hb1 hi hz0 hz1 hz2 h
  go_wp2_with (refine Lib.wpList_append_own_string _ rfl _ _ 56 9 rfl B 5 i0 Tryz.underlying56 Tryz.underlying9 HI.out HZ0.out HZ1.out HZ2.out v (cellsOf l).length (cellsOf l) rfl HOWN.out s rfl (by rw [HL1.out]; unfold maxLen; omega) (by rw [HL1.out]; omega) (by omega) ?_
               intro v' w2 hown' hgrow _
               obtain ⟨ao, n', cap, rfl⟩ : ∃ ao n' cap, v' = .slice ao n' cap := by
                 rcases hown'.2 with ⟨hv, _⟩ | ⟨g, cap, cur, hv, _⟩
                 · exact ⟨_, _, _, hv⟩
                 · exact ⟨_, _, _, hv⟩
               have hb2 : w2.heap[b]? = some (.cells #[.pointer (some ⟨b, 0, none⟩), v] 78 (0, 0)) := by
                 rw [hgrow.block b hlt (fun e => HNE.out e.symm)]
                 exact HBK.out
               have d1 : w2.cell? ⟨b, 1, none⟩ = some v := by rw [Lib.cell_of_heap hb2]; rfl
               have f1 : w2.frozen? ⟨b, 1, none⟩ = false := Lib.frozen_of_heap hb2 1
               have HO2 := hide hown'
               have HG2 := hide hgrow
               have HB2 := hide hb2
               clear hown' hgrow hb2)
  go_ret2
  have hb3 : Below B w w2 := HB1.out.grown HG2.out (by omega) (fun k hk => (HOWN.out.lt k hk).1)
  refine ⟨rfl, .inr ?_, (HBL.out.trans hb3).setCell (p := ⟨b, 1, none⟩) hB _, ?_⟩
  · refine Lib.BuilderAt.put (T := 78) (e := 5) hB HB2.out (bs' := cellsOf (l ++ s.data.toList)) ?_ (by decide)
    have ho := HO2.out
    have e1 : cellsOf (l ++ s.data.toList) = cellsOf l ++ Lib.strCells s := by rw [cellsOf_str, cellsOf, List.map_append]; rfl
    rw [e1, List.length_append, Lib.strCells_length]
    exact ho
  · have := hb3.size
    simp [World.setCell]
    omega
theorem Bld.string {B b:Nat} {l:List UInt8} {W0 w:World} (h:Bld B b l W0 w) :
  Calls Tryz.prog 57 #[.pointer (some ⟨b,0,none⟩)] w fun e w'=>e = .returned (.string (str l)) /\ Below B W0 w' :=
 (Tryz.Builder_String_any B b l w h.1 h.2.2).mono fun _ _ ⟨he,hb⟩=>⟨he,h.2.1.trans hb⟩
theorem Bld.kept {B b:Nat} {l:List UInt8} {W0 w w':World} (h:Bld B b l W0 w) (hb:Below w.heap.size w w'):Bld B b l W0 w':=by
 obtain ⟨h1,h2,h3⟩:=h;refine ⟨?_,h2.trans (hb.mono h3),Nat.le_trans h3 hb.size⟩
 have key:∀ p,Lib.BuilderAt 78 5 B b p (cellsOf l) w -> Lib.BuilderAt 78 5 B b p (cellsOf l) w':=by
  intro p h;have hlt:=h.lt;obtain ⟨hB,v,hbk,hown,hne⟩:=h;exact ⟨hB,v,(hb.block b hlt).trans hbk,hown.kept (row:=none) ⟨hb.os,hb.tape,hb.output,hb.size,fun k hk _=>hb.block k hk⟩ (by cases hv:v.ownBlock <;> simp),hne⟩
 rcases h1 with h | h
 ·exact .inl (key _ h)
 ·exact .inr (key _ h)
theorem Bld.new {B:Nat} {W0 w:World} (hb:Below B W0 w) (hB:B <= w.heap.size):Bld B w.heap.size [] W0 (w.alloc (.cells #[.pointer none,.slice none 0 0] 78)) :=
 ⟨.inl ⟨hB,.slice none 0 0,heap_alloc_new w _,World.ownsRow_nil _ B _ 1,by simp [Value.ownBlock]⟩,hb.alloc hB _,by simp;omega⟩
def KT (w w':World):Prop:=∀ (g:Nat) (cur:Array Value) (T:TypeId) (fz:Nat × Nat),w.heap[g]? = some (Obj.cells cur T fz) -> T ≠ 5 -> T ≠ 78 -> w'.heap[g]? = w.heap[g]?
theorem KT.refl (w:World):KT w w:=fun _ _ _ _ _ _ _=>rfl
theorem KT.trans {a b c:World} (h:KT a b) (k:KT b c):KT a c:=fun g cur T fz hg h1 h2=>by
 have e:=h g cur T fz hg h1 h2;exact (k g cur T fz (e.trans hg) h1 h2).trans e
theorem KT.below {w w':World} (h:Below w.heap.size w w'):KT w w':=fun g cur T fz hg _ _=>h.block g (Array.getElem?_eq_some_iff.1 hg).1
theorem KT.alloc (w:World) (o:Obj):KT w (w.alloc o):=fun g cur T fz hg _ _=>Below.heap_alloc w o g (Array.getElem?_eq_some_iff.1 hg).1
theorem KT.set {w:World} {b:Nat} {cs:Array Value} {fr:Nat × Nat} (h:w.heap[b]? = some (.cells cs 78 fr)) (i:Nat) (v:Value):KT w (w.setCell ⟨b,i,none⟩ v):=fun g cur T fz hg _ h2=>by
 have hne:g ≠ b:=by
  rintro rfl;rw [h] at hg;injection hg with hg;injection hg with _ e;exact h2 e.symm
 exact Below.heap_setCell w _ v g hne
theorem KT.own {w w':World} {B n:Nat} {v:Value} {xs:List Value} (h:w.ownsRow B 5 1 v n xs) (hg:w.grownBy w' v.ownBlock):KT w w':=fun m cur T fz hm h1 _=>by
 refine hg.block m (Array.getElem?_eq_some_iff.1 hm).1 (fun he=>?_);rcases h.2 with ⟨rfl,_⟩ | ⟨g,cap,cur2,rfl,_,hh,_⟩
 ·simp [Value.ownBlock] at he
 ·have e1:g = m:=by simpa [Value.ownBlock] using he.symm
  subst e1;rw [hh] at hm;injection hm with hm;injection hm with _ e;exact h1 e.symm
theorem copyCheckT_any (B b:Nat) (bs:List Value) (w:World) (h:Lib.IsBuilder 78 5 B b bs w) :
  Calls Tryz.prog 103 #[.pointer (some ⟨b,0,none⟩)] w fun e w'=>e = .returned (.tuple #[]) /\ Lib.BuilderAt 78 5 B b (.pointer (some ⟨b,0,none⟩)) bs w' /\ Below B w w' /\ KT w w':=by
 rcases h with h | h
 ·obtain ⟨hB,v,hbk,ho,hne⟩:=id h;refine (copyCheck_fresh b w h.cell0 h.shape h.frozen0).mono ?_;rintro e w' ⟨rfl,rfl⟩;exact ⟨rfl,h.used _,(Below.refl B w).setCell (p:=⟨b,0,none⟩) h.1 _,KT.set hbk _ _⟩
 ·refine (copyCheck_used b w h.cell0).mono ?_;rintro e w' ⟨rfl,rfl⟩;exact ⟨rfl,h,Below.refl B _,KT.refl _⟩
theorem writeStringT_any (B b : Nat) (l : List UInt8) (s : ByteArray) (W0 w : World) (h : Bld B b l W0 w) (hlen : l.length + s.size ≤ 140737488355328) :
    Calls Tryz.prog 64 #[.pointer (some ⟨b, 0, none⟩), .string s] w fun e w' => e = .returned (.tuple #[.int .i64 s.size, .nilIface]) ∧ Bld B b (l ++ s.data.toList) W0 w' ∧ KT w w' := by
  obtain ⟨h, hbel, hBw⟩ := h
  obtain ⟨i0, hi, hz0, hz1, hz2⟩ := info_parts info_u8
  have HBL := hide hbel
  clear hbel
  go_enter Tryz.func64, Tryz.ntmps64
  go_wp2_with fail
  refine (copyCheckT_any B b (cellsOf l) _ h).mono ?_
  rintro e w1 ⟨rfl, h1, hb1, hk1⟩
  have HK1 := hide hk1
  clear hk1
  obtain ⟨hB, v, hbk, hown, hne⟩ := h1
  have c1 : w1.cell? ⟨b, 1, none⟩ = some v := by rw [Lib.cell_of_heap hbk]; rfl
  have hlt : b < w1.heap.size := lt_of_block hbk
  have hl1 : (cellsOf l).length = l.length := cellsOf_length l
  have HBK := hide hbk
  have HOWN := hide hown
  have HNE := hide hne
  have HB1 := hide hb1
  have hsz1 := hb1.size
  have HI := hide hi
  have HZ0 := hide hz0
  have HZ1 := hide hz1
  have HZ2 := hide hz2
  have HL1 := hide hl1
  clear hbk hown hne hb1 hi hz0 hz1 hz2 h
  go_wp2_with (refine Lib.wpList_append_own_string _ rfl _ _ 56 9 rfl B 5 i0 Tryz.underlying56 Tryz.underlying9 HI.out HZ0.out HZ1.out HZ2.out v (cellsOf l).length (cellsOf l) rfl HOWN.out s rfl (by rw [HL1.out]; unfold maxLen; omega) (by rw [HL1.out]; omega) (by omega) ?_
               intro v' w2 hown' hgrow _
               obtain ⟨ao, n', cap, rfl⟩ : ∃ ao n' cap, v' = .slice ao n' cap := by
                 rcases hown'.2 with ⟨hv, _⟩ | ⟨g, cap, cur, hv, _⟩
                 · exact ⟨_, _, _, hv⟩
                 · exact ⟨_, _, _, hv⟩
               have hb2 : w2.heap[b]? = some (.cells #[.pointer (some ⟨b, 0, none⟩), v] 78 (0, 0)) := by
                 rw [hgrow.block b hlt (fun e => HNE.out e.symm)]
                 exact HBK.out
               have d1 : w2.cell? ⟨b, 1, none⟩ = some v := by rw [Lib.cell_of_heap hb2]; rfl
               have f1 : w2.frozen? ⟨b, 1, none⟩ = false := Lib.frozen_of_heap hb2 1
               have HKT := hide (HK1.out.trans (KT.own HOWN.out hgrow))
               have HO2 := hide hown'
               have HG2 := hide hgrow
               have HB2 := hide hb2
               clear hown' hgrow hb2)
  go_ret2
  have hb3 : Below B w w2 := HB1.out.grown HG2.out (by omega) (fun k hk => (HOWN.out.lt k hk).1)
  refine ⟨rfl, ⟨.inr ?_, (HBL.out.trans hb3).setCell (p := ⟨b, 1, none⟩) hB _, ?_⟩, HKT.out.trans (KT.set HB2.out _ _)⟩
  · refine Lib.BuilderAt.put (T := 78) (e := 5) hB HB2.out (bs' := cellsOf (l ++ s.data.toList)) ?_ (by decide)
    have ho := HO2.out
    have e1 : cellsOf (l ++ s.data.toList) = cellsOf l ++ Lib.strCells s := by rw [cellsOf_str, cellsOf, List.map_append]; rfl
    rw [e1, List.length_append, Lib.strCells_length]
    exact ho
  · have := hb3.size
    simp [World.setCell]
    omega
theorem bld_inv (B b:Nat) (W0:World):InvOK B (fun s w=>Bld B b s W0 w):=by
 intro s w w' row hi hg hr;obtain ⟨h1,h2,h3⟩:=hi;refine ⟨?_,h2.grown hg h3 (fun k hk=>(hr k hk).1),Nat.le_trans h3 hg.size⟩
 have key:∀ p,Lib.BuilderAt 78 5 B b p (cellsOf s) w -> Lib.BuilderAt 78 5 B b p (cellsOf s) w':=by
  intro p h;have hlt:=h.lt;obtain ⟨hB,v,hbk,hown,hne⟩:=h;refine ⟨hB,v,(hg.block b hlt (fun e=>?_)).trans hbk,hown.kept hg ?_,hne⟩
  ·obtain ⟨_,cur,h4⟩:=hr b e.symm;rw [hbk] at h4;injection h4 with h4;injection h4 with _ h4
   exact absurd h4 (by decide)
  ·rcases hown.2 with ⟨rfl,_⟩ | ⟨g,cap,cur2,rfl,_,hh,_⟩
   ·exact .inl (by simp [Value.ownBlock])
   ·refine .inr (fun e=>?_);obtain ⟨_,cur,h4⟩:=hr g (by rw [<- e];simp [Value.ownBlock]);rw [hh] at h4;injection h4 with h4;injection h4 with _ h4
    exact absurd h4 (by decide)
 rcases h1 with h | h
 ·exact .inl (key _ h)
 ·exact .inr (key _ h)
theorem frl_kt {B:Nat} {w w':World} (hb:Below B w w') (hk:KT w w'):FrL B w w' :=
 ⟨hb,fun g cur T fz hg hT=>hk g cur T fz hg (by rcases hT with rfl | rfl <;> decide) (by rcases hT with rfl | rfl <;> decide)⟩
def textT:Tr -> List UInt8
  | .nil=>[]
  | .cons h K R=>(if h.name = [] then h.text else textT K) ++ textT R
def textBg (s:List UInt8) (h:NdH) (_:Tr):List UInt8:=if h.name = [] then s ++ h.text else s
def elemB (h:NdH):Bool:=decide (h.name ≠ [])
theorem vis_text (T:Tr) (s:List UInt8):vis textBg (fun s _=>s) elemB T s = s ++ textT T:=by
 induction T generalizing s with
 | nil=>simp [vis,textT]
 | cons h K R ihk ihr =>
  simp only [vis,textT,textBg]
  by_cases hn:h.name = []
  ·have e:elemB h = false:=by simp [elemB,hn]
   simp [hn,e,ihr]
  ·have e:elemB h = true:=by simp [elemB,hn]
   simp [hn,e,ihk,ihr]
theorem isText_any (h:NdH) (A1 A2:Option Addr) (n1 c1 n2 c2:Nat) (w:World) :
  Calls Tryz.prog 63 #[.agg #[.string (str h.name),.slice A1 n1 c1,.string (str h.text),.slice A2 n2 c2]] w fun e w'=>e = .returned (.bool (!elemB h)) /\ Below w.heap.size w w':=by
 have HBK:=hide (below_one w (Obj.cells #[.string (str h.name),.slice A1 n1 c1,.string (str h.text),.slice A2 n2 c2] 33));obtain ⟨X,hX⟩:∃ X,X = str h.name:=⟨_,rfl⟩
 rw [<- hX] at HBK ⊢
 by_cases hn:h.name = []
 ·have e:elemB h = false:=by simp [elemB,hn]
  have hX0:X = ⟨#[]⟩:=by rw [hX,hn];rfl
  rw [e];clear hX hn e;subst hX0;go_enter Tryz.func63,Tryz.ntmps63;go_wp2_with fail;go_ret;exact ⟨rfl,HBK.out⟩
 ·have e:elemB h = true:=by simp [elemB,hn]
  have s1:X.toList.isEmpty = false:=by
   rw [hX,str_list];cases hx:h.name with
   | nil=>exact absurd hx hn
   | cons _ _=>rfl
  rw [e];clear hX hn e;go_enter Tryz.func63,Tryz.ntmps63;go_wp2_with fail;go_ret;exact ⟨rfl,HBK.out⟩
theorem bl_one {w w1 w2:World} (h:Below w.heap.size w w1) (h2:Below w1.heap.size w1 w2):Below w.heap.size w w2:=h.trans (h2.mono h.size)
theorem text_beg (B:Nat) (W0:World):BegOK B 62 #[.pointer (some ⟨B,0,none⟩)] (fun s w=>Bld B B s W0 w) textBg elemB List.length 1000000000 (fun _ _=>True):=by
 intro s w h K av A m c hi hB _ ha hk hm;obtain ⟨A1,c1,rfl⟩:=ha.1.form;have hbk:=below_one w (Obj.cells #[.string (str h.name),.slice A1 h.attrs.length c1,.string (str h.text),.slice A m c] 33);show Calls Tryz.prog _ #[ndV h _ _,.pointer (some ⟨B,0,none⟩)] w _
 unfold ndV;obtain ⟨R,hR⟩:∃ R,R = (if elemB h = true then Value.slice A m c else Value.slice none 0 0):=⟨_,rfl⟩
 rw [<- hR];have HRR:=hide hR;clear hR;go_enter Tryz.func62,Tryz.ntmps62;go_wp2_with fail;refine (isText_any h A1 A _ _ _ _ _).mono ?_;rintro e w1 ⟨rfl,hb1⟩;have hb:=bl_one hbk hb1;have hcell:=(hb1.block w.heap.size (by rw [World.size_alloc];omega)).trans (heap_alloc_new w _);have d2:w1.cell? ⟨w.heap.size,2,none⟩ = some (.string (str h.text)):=(Lib.cell_of_heap hcell 2).trans rfl;have d3:w1.cell? ⟨w.heap.size,3,none⟩ = some (.slice A m c):=(Lib.cell_of_heap hcell 3).trans rfl;obtain ⟨Y,hY⟩:∃ Y,Y = str h.text:=⟨_,rfl⟩
 have hYl:Y.data.toList = h.text:=by rw [hY,str_toList]
 rw [<- hY] at d2;obtain ⟨X,hX⟩:∃ X,X = str h.name:=⟨_,rfl⟩
 rw [<- hY,<- hX];have HF:=hide (FrL.kept (B:=B) hb hB);have HKT:=hide (KT.below hb);have HBB:=hide (hb.mono hB);have HI:=hide hi;have HI1:=hide (hi.kept hb)
 by_cases e:elemB h = false
 ·rw [e];have hn:h.name = []:=by simpa [elemB] using e
  have hs:textBg s h K = s ++ h.text:=by simp [textBg,hn]
  rw [hs] at hm;have HS:=hide hs;have HEL:=hide e;rw [List.length_append] at hm;have HWS:=hide (writeStringT_any B B s Y w w1 ⟨HI1.out.1,HBB.out,HI1.out.2.2⟩ (by rw [<- toList_length,hYl];omega));rw [hYl] at HWS;clear hs hn hm hi hb hbk hb1 hcell ha hk hY hYl hX e;go_wp2_with fail;refine HWS.out.mono ?_;rintro e w2 ⟨rfl,hb2,hk2⟩;have HR:Hid (Bld B B (s ++ h.text) W0 w2 /\ FrL B w w2):=hide ⟨⟨hb2.1,HI.out.2.1.trans hb2.2.1,hb2.2.2⟩,frl_kt hb2.2.1 (HKT.out.trans hk2)⟩;clear hb2 hk2;go_wp2_with fail;go_ret;exact ⟨by rw [HRR.out,HEL.out];rfl,by rw [HS.out];exact HR.out⟩
 ·replace e:elemB h = true:=by simpa using e
  rw [e];have hn:h.name ≠ []:=by simpa [elemB] using e
  have hs:textBg s h K = s:=by simp [textBg,hn]
  have HS:=hide hs;have HEL:=hide e;clear hs hn hm hi hb hbk hb1 hcell ha hk hY hYl hX e;go_wp2_with fail;go_ret;exact ⟨by rw [HRR.out,HEL.out];rfl,by rw [HS.out];exact HI1.out,HF.out⟩
theorem textT_le (s:List UInt8) (h:NdH) (K:Tr):s.length <= (textBg s h K).length:=by
 unfold textBg;split
 ·rw [List.length_append];omega
 ·exact Nat.le_refl _
theorem serText_any (v:Value) (T:Tr) (w:World) (hT:NodesIn w v T) (hc:T.count <= 1000000) (hl:(textT T).length <= 1000000000) :
  Calls Tryz.prog 23 #[v] w fun e w'=>e = .returned (.string (str (textT T))) /\ Below w.heap.size w w':=by
 have hbk:=below_one w (Obj.cells #[.pointer none,.slice none 0 0] 78);have hnew:Bld w.heap.size w.heap.size [] w (w.alloc (Obj.cells #[.pointer none,.slice none 0 0] 78)):=Bld.new (Below.refl _ _) (Nat.le_refl _);have HB:=hide (begins_gen w.heap.size 62 #[.pointer (some ⟨w.heap.size,0,none⟩)] (enters_of Tryz.func62 (by kernel_rfl) rfl) (fun s w'=>Bld w.heap.size w.heap.size s w w') textBg elemB List.length 1000000000 (fun _ _=>True) (fun s h K=>textT_le s h K) (bld_inv _ _ _) (text_beg _ _) v T [] (w.alloc (Obj.cells #[.pointer none,.slice none 0 0] 78)) (NodesC.mono hT (same_below hbk) (fun _ x=>x)) (Tr.ev_true T) hc (by rw [vis_text,List.nil_append];exact hl) hnew hbk.size);rw [vis_text,List.nil_append] at HB;obtain ⟨A,c,rfl⟩:=NodesC.form hT;have hmf:∀ (fn:Fn) (first cap:Array Value) (w:World),(Instr.makeFunc fn first cap).run Tryz.prog w = .ok (.func fn first cap) w:=fun _ _ _ _=>rfl
 clear hT hbk hnew;go_enter Tryz.func23,Tryz.ntmps23;go_wp2_with fail;refine HB.out.mono ?_;rintro e w1 ⟨rfl,h1,h2⟩;have HS:=hide h1.string;clear h1 h2;go_wp2_with fail;refine HS.out.mono ?_;rintro e w2 ⟨rfl,h3⟩;have H3:=hide h3;clear h3;go_wp2_with fail;go_ret;exact ⟨rfl,H3.out⟩
theorem size0 {t:ByteArray} (h:t.size = 0):t.data.toList = [] /\ t.toList.isEmpty = true:=by
 have e:t.data.toList = []:=List.eq_nil_of_length_eq_zero (by rw [toList_length];exact h);exact ⟨e,by rw [bytes_list,e];rfl⟩
theorem sizeP {t:ByteArray} (h:¬ t.size = 0):t.data.toList ≠ [] /\ t.toList.isEmpty = false:=by
 have hne:t.data.toList ≠ []:=fun e=>by have:=toList_length t;rw [e] at this;simp at this;omega
 refine ⟨hne,?_⟩;rw [bytes_list];cases h:t.data.toList with
 | nil=>exact absurd h hne
 | cons _ _=>rfl
theorem or32 (c:UInt8):bits .or .u8 (c.toNat:Int) 32 = ((c ||| 32).toNat:Int):=u8_all (p:=fun c=>bits .or .u8 (c.toNat:Int) 32 = ((c ||| 32).toNat:Int)) (by decide +kernel) c
def szOfS:Value -> Nat
  | .string t=>t.size
  | _=>0
def mapC (c:UInt8):Nat:=if c = 38 then 0 else if c = 60 then 1 else if c = 62 then 2 else if c = 160 then 3 else if c = 194 then 4 else 5
def ampT:List UInt8:=[38,97,109,112,59]
def ltT:List UInt8:=[38,108,116,59]
def gtT:List UInt8:=[38,103,116,59]
def nbT:List UInt8:=[38,110,98,115,112,59]
def Node (w:World) (b:Nat) (val:ByteArray) (prio:Int) (pre:ByteArray) (nx:Option Addr) (tab:Value):Prop :=
  w.cell? ⟨b,0,none⟩ = some (.string val) /\ w.cell? ⟨b,1,none⟩ = some (.int .i64 prio) /\ w.cell? ⟨b,2,none⟩ = some (.string pre) /\ w.cell? ⟨b,3,none⟩ = some (.pointer nx) /\ w.cell? ⟨b,4,none⟩ = some tab
structure Trie (w:World) (G T n0 n1 n2 n4 n5:Nat):Prop where
  root:Node w G ⟨#[]⟩ 0 ⟨#[]⟩ none (.slice (some ⟨T,0,none⟩) 5 5)
  size:w.cell? ⟨G,5,none⟩ = some (.int .i64 5)
  map:∀ c:UInt8,w.cell? ⟨G,6 + c.toNat,none⟩ = some (.int .u8 (mapC c))
  t0:w.cell? ⟨T,0,none⟩ = some (.pointer (some ⟨n0,0,none⟩))
  t1:w.cell? ⟨T,1,none⟩ = some (.pointer (some ⟨n1,0,none⟩))
  t2:w.cell? ⟨T,2,none⟩ = some (.pointer (some ⟨n2,0,none⟩))
  t3:w.cell? ⟨T,3,none⟩ = some (.pointer none)
  t4:w.cell? ⟨T,4,none⟩ = some (.pointer (some ⟨n4,0,none⟩))
  k0:Node w n0 (str ampT) 8 ⟨#[]⟩ none (.slice none 0 0)
  k1:Node w n1 (str ltT) 6 ⟨#[]⟩ none (.slice none 0 0)
  k2:Node w n2 (str gtT) 4 ⟨#[]⟩ none (.slice none 0 0)
  k4:Node w n4 ⟨#[]⟩ 0 ⟨#[160]⟩ (some ⟨n5,0,none⟩) (.slice none 0 0)
  k5:Node w n5 (str nbT) 2 ⟨#[]⟩ none (.slice none 0 0)
def lookL:List UInt8 -> Option (List UInt8 × Nat)
  | 38 :: _=>some (ampT,1)
  | 60 :: _=>some (ltT,1)
  | 62 :: _=>some (gtT,1)
  | 194 :: 160 :: _=>some (nbT,2)
  | _=>none
theorem below_drewN (w:World) (n:Nat):Below w.heap.size w (w.drewN n):=⟨rfl,rfl,rfl,Nat.le_refl _,fun _ _=>rfl⟩
def lookV:Option (List UInt8 × Nat) -> Value
  | some (t,n)=>.tuple #[.string (str t),.int .i64 n,.bool true]
  | none=>.tuple #[.string ⟨#[]⟩,.int .i64 0,.bool false]
def LookP (s:ByteArray) (w:World) (e:Ending) (w':World):Prop:=e = .returned (lookV (lookL s.data.toList)) /\ Below w.heap.size w w'
theorem chr_lt (c:UInt8):c.toNat < 256:=c.toBitVec.isLt
theorem mapC_none {c:UInt8} (ho:c ≠ 38 /\ c ≠ 60 /\ c ≠ 62 /\ c ≠ 160 /\ c ≠ 194):mapC c = 5:=by
 obtain ⟨a,b,d,e,f⟩:=ho;rw [mapC,if_neg a,if_neg b,if_neg d,if_neg e,if_neg f]
theorem look_none {c:UInt8} {r:List UInt8} (ho:c ≠ 38 /\ c ≠ 60 /\ c ≠ 62 /\ c ≠ 160 /\ c ≠ 194):lookL (c :: r) = none:=by
 obtain ⟨a,b,d,e,f⟩:=ho;unfold lookL;split <;> first | rfl | (rename_i h;injection h with h1 h2;exact absurd h1 (by assumption))
theorem look_194n {a:UInt8} {r:List UInt8} (h:a ≠ 160):lookL (194 :: a :: r) = none:=by
 unfold lookL;split <;> first | rfl | (rename_i h';injection h' with h1 h2;first | (injection h2 with h3 h4;exact absurd h3 h) | exact absurd h1 (by decide))
theorem look_nil (s:ByteArray) (G T n0 n1 n2 n4 n5:Nat) (w:World) (h:Trie w G T n0 n1 n2 n4 n5) (hl:s.data.toList = []) :
  Calls Tryz.prog 310 #[.pointer (some ⟨G,0,none⟩),.string s,.bool false] w (LookP s w):=by
 have HT:=hide h;obtain ⟨r0,r1,r2,r3,r4⟩:=h.root;have rs:=h.size;clear h;have z:=size0 (t:=s) (by rw [<- toList_length,hl];rfl);have q1:=z.2;have HL:=hide hl;clear z hl;go_enter Tryz.func310,Tryz.ntmps310;go_wp2_with fail;go_loop [1,6,7,8,9,10,11] (fun sv a1 a2 a3 bv nd nv=>sv = .string s /\ a1 = .string ⟨#[]⟩ /\ a2 = .int .i64 0 /\ a3 = .bool false /\ bv = .int .i64 0 /\ nd = .pointer (some ⟨G,0,none⟩) /\ nv = .int .i64 0) (fun _ _ _ _ _ _ _=>0)
 case atStart=>exact ⟨rfl,rfl,rfl,rfl,rfl,rfl,rfl⟩
 case round =>
  obtain ⟨rfl,rfl,rfl,rfl,rfl,rfl,rfl⟩:=hrel;go_wp2_with fail;go_ret3;exact ⟨by rw [HL.out];rfl,Below.refl _ _⟩
theorem look_38 (s:ByteArray) (G T n0 n1 n2 n4 n5:Nat) (w:World) (h:Trie w G T n0 n1 n2 n4 n5) (r:List UInt8) (hl:s.data.toList = 38 :: r) :
  Calls Tryz.prog 310 #[.pointer (some ⟨G,0,none⟩),.string s,.bool false] w (LookP s w):=by
 have HT:=hide h;obtain ⟨r0,r1,r2,r3,r4⟩:=h.root;have rs:=h.size;clear h;have h0:0 < s.size:=by rw [<- toList_length,hl];exact Nat.succ_pos _
 have hs0:s[0] = 38:=by
  have:=drop_cons s 0 h0;rw [List.drop_zero,hl] at this;injection this with e _;exact e.symm
 have q1:s.toList.isEmpty = false:=by rw [bytes_list,hl];rfl
 have hm1:w.cell? ⟨G,6 + s[0].toNat,none⟩ = some (.int .u8 0):=by rw [HT.out.map s[0],hs0];rfl
 have b1:s[0].toNat < 256:=chr_lt _;have b2:(s[0].toNat:Int) < 256:=by omega
 have k1:(1:Int) <= s.size:=by omega
 have hd:(s.extract 1 s.size).data.toList = r:=by rw [extract_end,hl];rfl
 have HL:=hide hl;clear hl hs0;have tj:=HT.out.t0;obtain ⟨p0,p1,p2,p3,p4⟩:=HT.out.k0;obtain ⟨VT,hVT⟩:∃ VT,VT = str ampT:=⟨_,rfl⟩
 rw [<- hVT] at p0;have HVT:=hide hVT;clear hVT hd;go_enter Tryz.func310,Tryz.ntmps310;go_wp2_with fail;go_loopw [1,6,7,8,9,10,11] (fun sv a1 a2 a3 bv nd nv wr=>(a1 = .string ⟨#[]⟩ /\ a2 = .int .i64 0 /\ a3 = .bool false /\ bv = .int .i64 0) /\ (∃ m,Hid (wr = w.drewN m)) /\ ((sv = .string s /\ nd = .pointer (some ⟨G,0,none⟩) /\ nv = .int .i64 0) \/ (sv = .string (s.extract 1 s.size) /\ nd = .pointer (some ⟨n0,0,none⟩) /\ nv = .int .i64 1))) (fun _ _ _ _ _ _ nv _=>3 - (intOf nv).toNat)
 case atStart=>exact ⟨⟨rfl,rfl,rfl,rfl⟩,⟨0,hide rfl⟩,.inl ⟨rfl,rfl,rfl⟩⟩
 case round =>
  obtain ⟨⟨rfl,rfl,rfl,rfl⟩,⟨m,HW⟩,⟨rfl,rfl,rfl⟩ | ⟨rfl,rfl,rfl⟩⟩:=hrel
  ·have hw:=HW.out;clear HW;subst hw;go_wp2_with fail;go_quiet (fail);go_wp2_with fail;go_roundw
   case rel=>exact ⟨⟨rfl,rfl,rfl,rfl⟩,⟨_,hide rfl⟩,.inr ⟨rfl,rfl,rfl⟩⟩
   case measure=>simp [intOf]
  ·have hw:=HW.out;clear HW;subst hw;cases hz:(s.extract 1 s.size).toList.isEmpty
   ·go_wp2_with fail;go_ret3;exact ⟨by rw [HL.out,HVT.out];rfl,below_drewN _ _⟩
   ·go_wp2_with fail;go_ret3;exact ⟨by rw [HL.out,HVT.out];rfl,below_drewN _ _⟩
theorem look_60 (s:ByteArray) (G T n0 n1 n2 n4 n5:Nat) (w:World) (h:Trie w G T n0 n1 n2 n4 n5) (r:List UInt8) (hl:s.data.toList = 60 :: r) :
  Calls Tryz.prog 310 #[.pointer (some ⟨G,0,none⟩),.string s,.bool false] w (LookP s w):=by
 have HT:=hide h;obtain ⟨r0,r1,r2,r3,r4⟩:=h.root;have rs:=h.size;clear h;have h0:0 < s.size:=by rw [<- toList_length,hl];exact Nat.succ_pos _
 have hs0:s[0] = 60:=by
  have:=drop_cons s 0 h0;rw [List.drop_zero,hl] at this;injection this with e _;exact e.symm
 have q1:s.toList.isEmpty = false:=by rw [bytes_list,hl];rfl
 have hm1:w.cell? ⟨G,6 + s[0].toNat,none⟩ = some (.int .u8 1):=by rw [HT.out.map s[0],hs0];rfl
 have b1:s[0].toNat < 256:=chr_lt _;have b2:(s[0].toNat:Int) < 256:=by omega
 have k1:(1:Int) <= s.size:=by omega
 have hd:(s.extract 1 s.size).data.toList = r:=by rw [extract_end,hl];rfl
 have HL:=hide hl;clear hl hs0;have tj:=HT.out.t1;obtain ⟨p0,p1,p2,p3,p4⟩:=HT.out.k1;obtain ⟨VT,hVT⟩:∃ VT,VT = str ltT:=⟨_,rfl⟩
 rw [<- hVT] at p0;have HVT:=hide hVT;clear hVT hd;go_enter Tryz.func310,Tryz.ntmps310;go_wp2_with fail;go_loopw [1,6,7,8,9,10,11] (fun sv a1 a2 a3 bv nd nv wr=>(a1 = .string ⟨#[]⟩ /\ a2 = .int .i64 0 /\ a3 = .bool false /\ bv = .int .i64 0) /\ (∃ m,Hid (wr = w.drewN m)) /\ ((sv = .string s /\ nd = .pointer (some ⟨G,0,none⟩) /\ nv = .int .i64 0) \/ (sv = .string (s.extract 1 s.size) /\ nd = .pointer (some ⟨n1,0,none⟩) /\ nv = .int .i64 1))) (fun _ _ _ _ _ _ nv _=>3 - (intOf nv).toNat)
 case atStart=>exact ⟨⟨rfl,rfl,rfl,rfl⟩,⟨0,hide rfl⟩,.inl ⟨rfl,rfl,rfl⟩⟩
 case round =>
  obtain ⟨⟨rfl,rfl,rfl,rfl⟩,⟨m,HW⟩,⟨rfl,rfl,rfl⟩ | ⟨rfl,rfl,rfl⟩⟩:=hrel
  ·have hw:=HW.out;clear HW;subst hw;go_wp2_with fail;go_quiet (fail);go_wp2_with fail;go_roundw
   case rel=>exact ⟨⟨rfl,rfl,rfl,rfl⟩,⟨_,hide rfl⟩,.inr ⟨rfl,rfl,rfl⟩⟩
   case measure=>simp [intOf]
  ·have hw:=HW.out;clear HW;subst hw;cases hz:(s.extract 1 s.size).toList.isEmpty
   ·go_wp2_with fail;go_ret3;exact ⟨by rw [HL.out,HVT.out];rfl,below_drewN _ _⟩
   ·go_wp2_with fail;go_ret3;exact ⟨by rw [HL.out,HVT.out];rfl,below_drewN _ _⟩
theorem look_62 (s:ByteArray) (G T n0 n1 n2 n4 n5:Nat) (w:World) (h:Trie w G T n0 n1 n2 n4 n5) (r:List UInt8) (hl:s.data.toList = 62 :: r) :
  Calls Tryz.prog 310 #[.pointer (some ⟨G,0,none⟩),.string s,.bool false] w (LookP s w):=by
 have HT:=hide h;obtain ⟨r0,r1,r2,r3,r4⟩:=h.root;have rs:=h.size;clear h;have h0:0 < s.size:=by rw [<- toList_length,hl];exact Nat.succ_pos _
 have hs0:s[0] = 62:=by
  have:=drop_cons s 0 h0;rw [List.drop_zero,hl] at this;injection this with e _;exact e.symm
 have q1:s.toList.isEmpty = false:=by rw [bytes_list,hl];rfl
 have hm1:w.cell? ⟨G,6 + s[0].toNat,none⟩ = some (.int .u8 2):=by rw [HT.out.map s[0],hs0];rfl
 have b1:s[0].toNat < 256:=chr_lt _;have b2:(s[0].toNat:Int) < 256:=by omega
 have k1:(1:Int) <= s.size:=by omega
 have hd:(s.extract 1 s.size).data.toList = r:=by rw [extract_end,hl];rfl
 have HL:=hide hl;clear hl hs0;have tj:=HT.out.t2;obtain ⟨p0,p1,p2,p3,p4⟩:=HT.out.k2;obtain ⟨VT,hVT⟩:∃ VT,VT = str gtT:=⟨_,rfl⟩
 rw [<- hVT] at p0;have HVT:=hide hVT;clear hVT hd;go_enter Tryz.func310,Tryz.ntmps310;go_wp2_with fail;go_loopw [1,6,7,8,9,10,11] (fun sv a1 a2 a3 bv nd nv wr=>(a1 = .string ⟨#[]⟩ /\ a2 = .int .i64 0 /\ a3 = .bool false /\ bv = .int .i64 0) /\ (∃ m,Hid (wr = w.drewN m)) /\ ((sv = .string s /\ nd = .pointer (some ⟨G,0,none⟩) /\ nv = .int .i64 0) \/ (sv = .string (s.extract 1 s.size) /\ nd = .pointer (some ⟨n2,0,none⟩) /\ nv = .int .i64 1))) (fun _ _ _ _ _ _ nv _=>3 - (intOf nv).toNat)
 case atStart=>exact ⟨⟨rfl,rfl,rfl,rfl⟩,⟨0,hide rfl⟩,.inl ⟨rfl,rfl,rfl⟩⟩
 case round =>
  obtain ⟨⟨rfl,rfl,rfl,rfl⟩,⟨m,HW⟩,⟨rfl,rfl,rfl⟩ | ⟨rfl,rfl,rfl⟩⟩:=hrel
  ·have hw:=HW.out;clear HW;subst hw;go_wp2_with fail;go_quiet (fail);go_wp2_with fail;go_roundw
   case rel=>exact ⟨⟨rfl,rfl,rfl,rfl⟩,⟨_,hide rfl⟩,.inr ⟨rfl,rfl,rfl⟩⟩
   case measure=>simp [intOf]
  ·have hw:=HW.out;clear HW;subst hw;cases hz:(s.extract 1 s.size).toList.isEmpty
   ·go_wp2_with fail;go_ret3;exact ⟨by rw [HL.out,HVT.out];rfl,below_drewN _ _⟩
   ·go_wp2_with fail;go_ret3;exact ⟨by rw [HL.out,HVT.out];rfl,below_drewN _ _⟩
theorem look_160 (s:ByteArray) (G T n0 n1 n2 n4 n5:Nat) (w:World) (h:Trie w G T n0 n1 n2 n4 n5) (r:List UInt8) (hl:s.data.toList = 160 :: r) :
  Calls Tryz.prog 310 #[.pointer (some ⟨G,0,none⟩),.string s,.bool false] w (LookP s w):=by
 have HT:=hide h;obtain ⟨r0,r1,r2,r3,r4⟩:=h.root;have rs:=h.size;clear h;have h0:0 < s.size:=by rw [<- toList_length,hl];exact Nat.succ_pos _
 have hs0:s[0] = 160:=by
  have:=drop_cons s 0 h0;rw [List.drop_zero,hl] at this;injection this with e _;exact e.symm
 have q1:s.toList.isEmpty = false:=by rw [bytes_list,hl];rfl
 have hm1:w.cell? ⟨G,6 + s[0].toNat,none⟩ = some (.int .u8 3):=by rw [HT.out.map s[0],hs0];rfl
 have b1:s[0].toNat < 256:=chr_lt _;have b2:(s[0].toNat:Int) < 256:=by omega
 have k1:(1:Int) <= s.size:=by omega
 have hd:(s.extract 1 s.size).data.toList = r:=by rw [extract_end,hl];rfl
 have HL:=hide hl;clear hl hs0;have tj:=HT.out.t3;clear hd;go_enter Tryz.func310,Tryz.ntmps310;go_wp2_with fail;go_loopw [1,6,7,8,9,10,11] (fun sv a1 a2 a3 bv nd nv wr=>(a1 = .string ⟨#[]⟩ /\ a2 = .int .i64 0 /\ a3 = .bool false /\ bv = .int .i64 0) /\ (∃ m,Hid (wr = w.drewN m)) /\ ((sv = .string s /\ nd = .pointer (some ⟨G,0,none⟩) /\ nv = .int .i64 0) \/ (sv = .string (s.extract 1 s.size) /\ nd = .pointer none /\ nv = .int .i64 1))) (fun _ _ _ _ _ _ nv _=>3 - (intOf nv).toNat)
 case atStart=>exact ⟨⟨rfl,rfl,rfl,rfl⟩,⟨0,hide rfl⟩,.inl ⟨rfl,rfl,rfl⟩⟩
 case round =>
  obtain ⟨⟨rfl,rfl,rfl,rfl⟩,⟨m,HW⟩,⟨rfl,rfl,rfl⟩ | ⟨rfl,rfl,rfl⟩⟩:=hrel
  ·have hw:=HW.out;clear HW;subst hw;go_wp2_with fail;go_quiet (fail);go_wp2_with fail;go_roundw
   case rel=>exact ⟨⟨rfl,rfl,rfl,rfl⟩,⟨_,hide rfl⟩,.inr ⟨rfl,rfl,rfl⟩⟩
   case measure=>simp [intOf]
  ·have hw:=HW.out;clear HW;subst hw;go_wp2_with fail;go_ret3;exact ⟨by rw [HL.out];rfl,below_drewN _ _⟩
theorem look_other (s:ByteArray) (G T n0 n1 n2 n4 n5:Nat) (w:World) (h:Trie w G T n0 n1 n2 n4 n5) (c:UInt8) (r:List UInt8) (hl:s.data.toList = c :: r) (ho:c ≠ 38 /\ c ≠ 60 /\ c ≠ 62 /\ c ≠ 160 /\ c ≠ 194) :
  Calls Tryz.prog 310 #[.pointer (some ⟨G,0,none⟩),.string s,.bool false] w (LookP s w):=by
 have HT:=hide h;obtain ⟨r0,r1,r2,r3,r4⟩:=h.root;have rs:=h.size;clear h;have h0:0 < s.size:=by rw [<- toList_length,hl];exact Nat.succ_pos _
 have hs0:s[0] = c:=by
  have:=drop_cons s 0 h0;rw [List.drop_zero,hl] at this;injection this with e _;exact e.symm
 have q1:s.toList.isEmpty = false:=by rw [bytes_list,hl];rfl
 have hm1:w.cell? ⟨G,6 + s[0].toNat,none⟩ = some (.int .u8 5):=by rw [HT.out.map s[0],hs0];rw [mapC_none ho];rfl
 have b1:s[0].toNat < 256:=chr_lt _;have b2:(s[0].toNat:Int) < 256:=by omega
 have k1:(1:Int) <= s.size:=by omega
 have hd:(s.extract 1 s.size).data.toList = r:=by rw [extract_end,hl];rfl
 have HL:=hide hl;clear hl hs0;clear hd;go_enter Tryz.func310,Tryz.ntmps310;go_wp2_with fail;go_loopw [1,6,7,8,9,10,11] (fun sv a1 a2 a3 bv nd nv wr=>(sv = .string s /\ nd = .pointer (some ⟨G,0,none⟩) /\ nv = .int .i64 0) /\ (a1 = .string ⟨#[]⟩ /\ a2 = .int .i64 0 /\ a3 = .bool false /\ bv = .int .i64 0) /\ Hid (wr = w)) (fun _ _ _ _ _ _ _ _=>0)
 case atStart=>exact ⟨⟨rfl,rfl,rfl⟩,⟨rfl,rfl,rfl,rfl⟩,hide rfl⟩
 case round =>
  obtain ⟨⟨rfl,rfl,rfl⟩,⟨rfl,rfl,rfl,rfl⟩,HW⟩:=hrel;have hw:=HW.out;clear HW;subst hw;go_wp2_with fail;go_quiet (fail);go_wp2_with fail;go_ret3;exact ⟨by rw [HL.out,look_none ho];rfl,below_drewN _ _⟩
theorem look_194 (s:ByteArray) (G T n0 n1 n2 n4 n5:Nat) (w:World) (h:Trie w G T n0 n1 n2 n4 n5) (r:List UInt8) (hl:s.data.toList = 194 :: r) :
  Calls Tryz.prog 310 #[.pointer (some ⟨G,0,none⟩),.string s,.bool false] w (LookP s w):=by
 have HT:=hide h;obtain ⟨r0,r1,r2,r3,r4⟩:=h.root;have rs:=h.size;clear h;have h0:0 < s.size:=by rw [<- toList_length,hl];exact Nat.succ_pos _
 have hs0:s[0] = 194:=by
  have:=drop_cons s 0 h0;rw [List.drop_zero,hl] at this;injection this with e _;exact e.symm
 have q1:s.toList.isEmpty = false:=by rw [bytes_list,hl];rfl
 have hm1:w.cell? ⟨G,6 + s[0].toNat,none⟩ = some (.int .u8 4):=by rw [HT.out.map s[0],hs0];rfl
 have b1:s[0].toNat < 256:=chr_lt _;have b2:(s[0].toNat:Int) < 256:=by omega
 have k1:(1:Int) <= s.size:=by omega
 have hd:(s.extract 1 s.size).data.toList = r:=by rw [extract_end,hl];rfl
 have HL:=hide hl;clear hl hs0;have tj:=HT.out.t4;obtain ⟨p0,p1,p2,p3,p4⟩:=HT.out.k4;obtain ⟨o0,o1,o2,o3,o4⟩:=HT.out.k5;obtain ⟨VT,hVT⟩:∃ VT,VT = str nbT:=⟨_,rfl⟩
 rw [<- hVT] at o0;have HVT:=hide hVT;obtain ⟨S1,hS1⟩:∃ S1,S1 = s.extract 1 s.size:=⟨_,rfl⟩
 have hd1:S1.data.toList = r:=by rw [hS1];exact hd
 cases hp:Lib.hasPrefix S1.data.toList [160] with
 | true =>
  obtain ⟨r1,hr1⟩:∃ r1,r = 160 :: r1:=by
   rw [hd1] at hp;cases r with
   | nil=>simp [Lib.hasPrefix] at hp
   | cons a r1=>exact ⟨r1,by simp [Lib.hasPrefix] at hp;rw [hp]⟩
  have q2:S1.toList.isEmpty = false:=by rw [bytes_list,hd1,hr1];rfl
  have k2:(1:Int) <= S1.size:=by
   have:0 < S1.size:=by rw [<- toList_length,hd1,hr1];exact Nat.succ_pos _
   omega
  have HR:=hide hr1;have HC:=hide (Tryz.strings_HasPrefix S1 ⟨#[160]⟩);have HP:=hide hp;have HS:=hide hS1;clear hVT hd hr1 hd1 hp hS1;go_enter Tryz.func310,Tryz.ntmps310;go_wp2_with fail;go_loopw [1,6,7,8,9,10,11] (fun sv a1 a2 a3 bv nd nv wr=>(a1 = .string ⟨#[]⟩ /\ a2 = .int .i64 0 /\ a3 = .bool false /\ bv = .int .i64 0) /\ (∃ m,Hid (wr = w.drewN m)) /\ ((sv = .string s /\ nd = .pointer (some ⟨G,0,none⟩) /\ nv = .int .i64 0) \/ (sv = .string S1 /\ nd = .pointer (some ⟨n4,0,none⟩) /\ nv = .int .i64 1) \/ (∃ S2,sv = .string S2 /\ nd = .pointer (some ⟨n5,0,none⟩) /\ nv = .int .i64 2))) (fun _ _ _ _ _ _ nv _=>3 - (intOf nv).toNat)
  case atStart=>exact ⟨⟨rfl,rfl,rfl,rfl⟩,⟨0,hide rfl⟩,.inl ⟨rfl,rfl,rfl⟩⟩
  case round =>
   obtain ⟨⟨rfl,rfl,rfl,rfl⟩,⟨m,HW⟩,⟨rfl,rfl,rfl⟩ | ⟨rfl,rfl,rfl⟩ | ⟨S2,rfl,rfl,rfl⟩⟩:=hrel
   ·have hw:=HW.out;clear HW;subst hw;go_wp2_with fail;go_quiet (fail);go_wp2_with fail;go_roundw
    case rel=>exact ⟨⟨rfl,rfl,rfl,rfl⟩,⟨_,hide rfl⟩,.inr (.inl ⟨by rw [<- HS.out],rfl,rfl⟩)⟩
    case measure=>simp [intOf]
   ·have hw:=HW.out;clear HW;subst hw;go_wp2_with (refine (HC.out _).mono ?_;rintro e w1 ⟨rfl,rfl⟩;rw [show Lib.hasPrefix S1.data.toList (⟨#[160]⟩:ByteArray).data.toList = true from HP.out]);go_roundw
    case rel=>exact ⟨⟨rfl,rfl,rfl,rfl⟩,⟨_,hide rfl⟩,.inr (.inr ⟨_,rfl,rfl,rfl⟩)⟩
    case measure=>simp [intOf]
   ·have hw:=HW.out;clear HW;subst hw;cases hz:S2.toList.isEmpty
    ·go_wp2_with fail;go_ret3;exact ⟨by rw [HL.out,HVT.out,HR.out];rfl,below_drewN _ _⟩
    ·go_wp2_with fail;go_ret3;exact ⟨by rw [HL.out,HVT.out,HR.out];rfl,below_drewN _ _⟩
 | false =>
  have hR:lookL (194 :: r) = none:=by
   rw [hd1] at hp;cases r with
   | nil=>rfl
   | cons a r1=>exact look_194n (by rintro rfl;simp [Lib.hasPrefix] at hp)
  have HR:=hide hR;have HC:=hide (Tryz.strings_HasPrefix S1 ⟨#[160]⟩);have HP:=hide hp;have HS:=hide hS1;clear hVT hd hd1 hp hR hS1;go_enter Tryz.func310,Tryz.ntmps310;go_wp2_with fail;go_loopw [1,6,7,8,9,10,11] (fun sv a1 a2 a3 bv nd nv wr=>(a1 = .string ⟨#[]⟩ /\ a2 = .int .i64 0 /\ a3 = .bool false /\ bv = .int .i64 0) /\ (∃ m,Hid (wr = w.drewN m)) /\ ((sv = .string s /\ nd = .pointer (some ⟨G,0,none⟩) /\ nv = .int .i64 0) \/ (sv = .string S1 /\ nd = .pointer (some ⟨n4,0,none⟩) /\ nv = .int .i64 1))) (fun _ _ _ _ _ _ nv _=>3 - (intOf nv).toNat)
  case atStart=>exact ⟨⟨rfl,rfl,rfl,rfl⟩,⟨0,hide rfl⟩,.inl ⟨rfl,rfl,rfl⟩⟩
  case round =>
   obtain ⟨⟨rfl,rfl,rfl,rfl⟩,⟨m,HW⟩,⟨rfl,rfl,rfl⟩ | ⟨rfl,rfl,rfl⟩⟩:=hrel
   ·have hw:=HW.out;clear HW;subst hw;go_wp2_with fail;go_quiet (fail);go_wp2_with fail;go_roundw
    case rel=>exact ⟨⟨rfl,rfl,rfl,rfl⟩,⟨_,hide rfl⟩,.inr ⟨by rw [<- HS.out],rfl,rfl⟩⟩
    case measure=>simp [intOf]
   ·have hw:=HW.out;clear HW;subst hw;cases hz:S1.toList.isEmpty
    ·go_wp2_with (refine (HC.out _).mono ?_;rintro e w1 ⟨rfl,rfl⟩;rw [show Lib.hasPrefix S1.data.toList (⟨#[160]⟩:ByteArray).data.toList = false from HP.out]);go_ret3;exact ⟨by rw [HL.out,HR.out];rfl,below_drewN _ _⟩
    ·go_wp2_with fail;go_ret3;exact ⟨by rw [HL.out,HR.out];rfl,below_drewN _ _⟩
theorem look_any (s:ByteArray) (G T n0 n1 n2 n4 n5:Nat) (w:World) (h:Trie w G T n0 n1 n2 n4 n5) :
  Calls Tryz.prog 310 #[.pointer (some ⟨G,0,none⟩),.string s,.bool false] w (LookP s w):=by
 cases hl:s.data.toList with
 | nil=>exact look_nil s G T n0 n1 n2 n4 n5 w h hl
 | cons c r =>
  by_cases e1:c = 38
  ·subst e1;exact look_38 s G T n0 n1 n2 n4 n5 w h r hl
  by_cases e2:c = 60
  ·subst e2;exact look_60 s G T n0 n1 n2 n4 n5 w h r hl
  by_cases e3:c = 62
  ·subst e3;exact look_62 s G T n0 n1 n2 n4 n5 w h r hl
  by_cases e4:c = 160
  ·subst e4;exact look_160 s G T n0 n1 n2 n4 n5 w h r hl
  by_cases e5:c = 194
  ·subst e5;exact look_194 s G T n0 n1 n2 n4 n5 w h r hl
  exact look_other s G T n0 n1 n2 n4 n5 w h c r hl ⟨e1,e2,e3,e4,e5⟩
def WBuf (B b:Nat) (l:List UInt8) (W0 w:World):Prop:=B <= b /\ ∃ v,Box w b 311 v /\ Buf B v l W0 w
theorem WBuf.drewN {B b:Nat} {l:List UInt8} {W0 w:World} (h:WBuf B b l W0 w) (n:Nat):WBuf B b l W0 (w.drewN n):=by
 obtain ⟨hB,v,h1,h2⟩:=h;exact ⟨hB,v,h1.drewN n,h2.drewN n⟩
theorem WBuf.below {B b:Nat} {l:List UInt8} {W0 w:World} (h:WBuf B b l W0 w):Below B W0 w:=by
 obtain ⟨hB,v,h1,h2⟩:=h;exact h2.below
theorem WBuf.kept {B b:Nat} {l:List UInt8} {W0 w w':World} (h:WBuf B b l W0 w) (hb:Below w.heap.size w w'):WBuf B b l W0 w':=by
 obtain ⟨hB,v,h1,h2⟩:=h;exact ⟨hB,v,h1.below hb h1.lt,h2.kept hb⟩
theorem wpList_wbuf_text {ops:Array Oper} {rest:List Oper} {o:Oper} {a:Act} {Q:Exit -> Act -> World -> Prop} {w:World} (hgd:o.guard = none) (sl x:Operand)
  (ho:o.op = .call { callee:=.builtin .append,args:=#[sl,x],argTypes:=#[311,9] })
  (B:Nat) (v:Value) (l:List UInt8) (hs:a.eval sl = v) (W0:World) (hb:Buf B v l W0 w) (s:ByteArray) (hx:a.eval x = .string s) (hlen:l.length + s.size <= 140737488355328)
  (h:∀ v' w',Buf B v' (l ++ s.data.toList) W0 w' -> w.grownBy w' v.ownBlock -> wpList Tryz.prog ops Q rest (a.put o.dst v') w'):wpList Tryz.prog ops Q (o :: rest) a w:=by
 obtain ⟨i0,hi,hz0,hz1,hz2⟩:=info_parts info_u8;refine Lib.wpList_append_own_string w hgd sl x 311 9 ho B 5 i0 Tryz.underlying311 Tryz.underlying9 hi hz0 hz1 hz2 v l.length (cellsOf l) hs hb.1 s hx (by unfold maxLen;omega) hlen hb.2.2 ?_;intro v' w' ho' hg _;refine h v' w' (hb.grown (l':=l ++ s.data.toList) ?_ hg) hg;rw [List.length_append,toList_length,cellsOf,List.map_append];exact ho'
theorem appender_any (B b:Nat) (l:List UInt8) (s:ByteArray) (W0 w:World) (h:WBuf B b l W0 w) (hlen:l.length + s.size <= 140737488355328) :
  Calls Tryz.prog 320 #[.pointer (some ⟨b,0,none⟩),.string s] w fun e w'=>e = .returned (.tuple #[.int .i64 s.size,.nilIface]) /\ WBuf B b (l ++ s.data.toList) W0 w':=by
 obtain ⟨hB,v,hbx,hbf⟩:=h;have c0:=hbx.cell;have HBX:=hide hbx;have HBF:=hide hbf;clear hbx hbf;go_enter Tryz.func320,Tryz.ntmps320;go_wp2_with (refine wpList_wbuf_text rfl _ _ rfl B v l rfl W0 HBF.out s rfl hlen ?_;intro v' w2 hbf2 hgr;have hbx2:Box w2 b 311 v:=(kept_own HBF.out hgr) b _ v (by decide) HBX.out;have f2:=hbx2.free;have d2:=hbx2.cell;have HF2:=hide hbf2;have HX2:=hide hbx2;clear hbf2 hgr hbx2;obtain ⟨A,n,c,rfl⟩:=HF2.out.slice);go_ret2;exact ⟨rfl,hB,_,HX2.out.set _,HF2.out.setBox HX2.out (by decide) hB _⟩
theorem assert_writer (a:Addr) (w:World):(Instr.typeAssert (.iface 312 (.pointer (some a))) 314 316 true).run Tryz.prog w = .ok (.tuple #[.iface 312 (.pointer (some a)),.bool true]) w:=by kernel_rfl
theorem getWriter_any (b:Nat) (w:World) :
  Calls Tryz.prog 309 #[.iface 312 (.pointer (some ⟨b,0,none⟩))] w fun e w'=>e = .returned (.iface 312 (.pointer (some ⟨b,0,none⟩))) /\ w' = w:=by
 have hta:=assert_writer;go_enter Tryz.func309,Tryz.ntmps309;go_wp2_with fail;go_ret;exact ⟨rfl,rfl⟩
theorem meth_append (a : Addr) (w : World) : (method 423 312 (.pointer (some a)) "WriteString").run Tryz.prog w = .ok (320, .pointer (some a)) w := by kernel_rfl
def escG:List UInt8 -> List UInt8
  | []=>[]
  | c :: r=>match lookL (c :: r) with
    | some (t,n)=>t ++ escG (r.drop (n - 1))
    | none=>c :: escG r
termination_by l=>l.length
decreasing_by all_goals simp;try omega
theorem lookL_some {l:List UInt8} {t:List UInt8} {n:Nat} (h:lookL l = some (t,n)):1 <= n /\ n <= 2 /\ n <= l.length /\ t.length <= 6 /\ t ≠ []:=by
 unfold lookL at h;split at h <;> first | (injection h with h;injection h with h1 h2;subst h1 h2;refine ⟨by omega,by omega,by simp,by decide,by decide⟩) | cases h
theorem escG_some {l:List UInt8} {t:List UInt8} {n:Nat} (h:lookL l = some (t,n)):escG l = t ++ escG (l.drop n):=by
 have hp:=lookL_some h;cases l with
 | nil=>simp [lookL] at h
 | cons c r =>
  rw [escG,h];obtain ⟨k,rfl⟩:∃ k,n = k + 1:=⟨n - 1,by omega⟩
  rfl
theorem escG_none {c:UInt8} {r:List UInt8} (h:lookL (c :: r) = none):escG (c :: r) = c :: escG r:=by
 rw [escG,h]
theorem escG_len:∀ (k:Nat) (l:List UInt8),l.length <= k -> (escG l).length <= 6 * l.length
 | 0,l,h=>by
  have:l = []:=List.eq_nil_of_length_eq_zero (by omega);subst this;rw [escG];simp
 | k + 1,[],h=>by rw [escG];simp
 | k + 1,c :: r,h=>by
  cases e:lookL (c :: r) with
  | none =>
   rw [escG_none e];have:=escG_len k r (by simp at h;omega);simp only [List.length_cons];omega
  | some p =>
   obtain ⟨t,n⟩:=p;have hp:=lookL_some e;rw [escG_some e];have:=escG_len k ((c :: r).drop n) (by rw [List.length_drop];simp at h ⊢;omega);rw [List.length_append];rw [List.length_drop] at this;omega
theorem Trie.below {w w':World} {G T n0 n1 n2 n4 n5 B:Nat} (h:Trie w G T n0 n1 n2 n4 n5) (hb:Below B w w') (hB:G < B /\ T < B /\ n0 < B /\ n1 < B /\ n2 < B /\ n4 < B /\ n5 < B):Trie w' G T n0 n1 n2 n4 n5:=by
 have key:∀ (b o:Nat),b < B -> w'.cell? ⟨b,o,none⟩ = w.cell? ⟨b,o,none⟩:=fun b o hb'=>hb.cell (p:=⟨b,o,none⟩) hb'
 have kn:∀ {b val prio pre nx tab},b < B -> Node w b val prio pre nx tab -> Node w' b val prio pre nx tab:=by
  intro b val prio pre nx tab hb' ⟨a0,a1,a2,a3,a4⟩;exact ⟨(key _ _ hb').trans a0,(key _ _ hb').trans a1,(key _ _ hb').trans a2,(key _ _ hb').trans a3,(key _ _ hb').trans a4⟩
 obtain ⟨b0,b1,b2,b3,b4,b5,b6⟩:=hB;exact ⟨kn b0 h.root,(key _ _ b0).trans h.size,fun c=>(key _ _ b0).trans (h.map c),(key _ _ b1).trans h.t0,(key _ _ b1).trans h.t1,(key _ _ b1).trans h.t2,(key _ _ b1).trans h.t3,(key _ _ b1).trans h.t4,kn b2 h.k0,kn b3 h.k1,kn b4 h.k2,kn b5 h.k4,kn b6 h.k5⟩
theorem Trie.drewN {w:World} {G T n0 n1 n2 n4 n5:Nat} (h:Trie w G T n0 n1 n2 n4 n5) (n:Nat):Trie (w.drewN n) G T n0 n1 n2 n4 n5:=⟨h.1,h.2,h.3,h.4,h.5,h.6,h.7,h.8,h.9,h.10,h.11,h.12,h.13⟩
theorem Trie.on {w:World} {G T n0 n1 n2 n4 n5:Nat} (h:Trie w G T n0 n1 n2 n4 n5) {c:UInt8} (hc:c = 38 \/ c = 60 \/ c = 62 \/ c = 194) :
  ∃ j nx:Nat,j < 5 /\ w.cell? ⟨G,6 + c.toNat,none⟩ = some (.int .u8 (j:Int)) /\ w.cell? ⟨T,j,none⟩ = some (.pointer (some ⟨nx,0,none⟩)):=by
 rcases hc with rfl | rfl | rfl | rfl
 ·exact ⟨0,n0,by omega,h.map 38,h.t0⟩
 ·exact ⟨1,n1,by omega,h.map 60,h.t1⟩
 ·exact ⟨2,n2,by omega,h.map 62,h.t2⟩
 ·exact ⟨4,n4,by omega,h.map 194,h.t4⟩
theorem look_off {c:UInt8} {r:List UInt8} (hc:¬(c = 38 \/ c = 60 \/ c = 62 \/ c = 194)):lookL (c :: r) = none:=by
 unfold lookL;split <;> first | rfl | (rename_i h;injection h with h1 h2;exact absurd h1 (by intro e;exact hc (by simp [e])))
def WInv (L:List UInt8) (i m:Nat) (acc:List UInt8):Prop:=m <= i /\ i <= L.length + 1 /\ m <= L.length /\ acc ++ (L.take i).drop m ++ escG (L.drop i) = escG L
theorem WInv.skip {L:List UInt8} {i m:Nat} {acc:List UInt8} (h:WInv L i m acc) (hi:i < L.length) (hn:lookL (L.drop i) = none):WInv L (i + 1) m acc:=by
 obtain ⟨h1,h2,h3,h4⟩:=h;refine ⟨by omega,by omega,h3,?_⟩;rw [<- h4];have e:L.drop i = L[i] :: L.drop (i + 1):=List.drop_eq_getElem_cons hi;rw [e] at hn ⊢;rw [escG_none hn,List.take_add_one,List.getElem?_eq_getElem hi,List.drop_append_of_le_length (by rw [List.length_take];omega)];simp
theorem WInv.last {L:List UInt8} {m:Nat} {acc:List UInt8} (h:WInv L L.length m acc):WInv L (L.length + 1) m acc:=by
 obtain ⟨h1,h2,h3,h4⟩:=h;refine ⟨by omega,by omega,h3,?_⟩;rw [<- h4,List.take_of_length_le (Nat.le_succ _),List.take_length,List.drop_length,List.drop_eq_nil_of_le (Nat.le_succ _)]
theorem WInv.hit {L:List UInt8} {i m n:Nat} {acc t:List UInt8} (h:WInv L i m acc) (hn:lookL (L.drop i) = some (t,n)):i + n <= L.length /\ WInv L (i + n) (i + n) (acc ++ (L.take i).drop m ++ t):=by
 obtain ⟨h1,h2,h3,h4⟩:=h;have hp:=lookL_some hn;rw [List.length_drop] at hp;refine ⟨by omega,by omega,by omega,by omega,?_⟩;rw [<- h4,escG_some hn,List.drop_drop,show (L.take (i + n)).drop (i + n) = [] from List.drop_eq_nil_of_le (by rw [List.length_take];omega)];simp
theorem WInv.len {L:List UInt8} {i m:Nat} {acc:List UInt8} (h:WInv L i m acc):acc.length <= 6 * L.length:=by
 have:=escG_len L.length L (Nat.le_refl _);rw [<- h.2.2.2] at this;simp only [List.length_append] at this;omega
theorem WInv.fin {L:List UInt8} {m:Nat} {acc:List UInt8} (h:WInv L (L.length + 1) m acc):acc ++ L.drop m = escG L:=by
 obtain ⟨h1,h2,h3,h4⟩:=h;rw [<- h4,List.take_of_length_le (Nat.le_succ _),show L.drop (L.length + 1) = [] from List.drop_eq_nil_of_le (Nat.le_succ _)];simp [escG]
theorem ahead_append (a : Addr) (w : World) : (nilAhead 423 312 (.pointer (some a)) "WriteString").run Tryz.prog w = .ok (some false) w := by kernel_rfl
def WSt (s:ByteArray) (B b i m:Nat) (N:Int) (W0 wr:World):Prop:=∃ acc,WInv s.data.toList i m acc /\ N = acc.length /\ WBuf B b acc W0 wr
theorem gwrite_any (s:ByteArray) (B b G T n0 n1 n2 n4 n5:Nat) (W0 w:World) (hT:Trie W0 G T n0 n1 n2 n4 n5) (hB:G < B /\ T < B /\ n0 < B /\ n1 < B /\ n2 < B /\ n4 < B /\ n5 < B) (hw:WBuf B b [] W0 w) (hs:s.size <= 17592186044416) :
  Calls Tryz.prog 308 #[.pointer (some ⟨G,0,none⟩),.iface 312 (.pointer (some ⟨b,0,none⟩)),.string s] w fun e w'=>(∃ n,e = .returned (.tuple #[.int .i64 n,.nilIface])) /\ WBuf B b (escG s.data.toList) W0 w':=by
 have HT:=hide hT;have HB:=hide hB;have HW0:=hide hw;have HS:=hide hs;have hmt:=meth_append;have hmf:∀ (fn:Fn) (first cap:Array Value) (w:World),(Instr.makeFunc fn first cap).run Tryz.prog w = .ok (.func fn first cap) w:=fun _ _ _ _=>rfl
 have hna:=ahead_append;have HSL:=hide (toList_length s);clear hT hB hw;go_enter Tryz.func308,Tryz.ntmps308;go_wp2_with (refine (getWriter_any b _).mono ?_;rintro e w1 ⟨rfl,rfl⟩);go_loopw [6,7,9,10,11,12,13,14,15,16] (fun a6 a7 a9 _ a11 a12 _ _ _ _ wr=>∃ (i m:Nat) (N:Int),a12 = .int .i64 i /\ a9 = .int .i64 m /\ a6 = .int .i64 N /\ a7 = .nilIface /\ a11 = .bool false /\ Hid (WSt s B b i m N W0 wr)) (fun _ _ _ _ _ a12 _ _ _ _ _=>s.size + 2 - (intOf a12).toNat)
 case atStart=>exact ⟨0,0,0,rfl,rfl,rfl,rfl,rfl,hide ⟨[],⟨Nat.le_refl _,by omega,by omega,by simp⟩,rfl,HW0.out⟩⟩
 case round =>
  obtain ⟨i,m,N,rfl,rfl,rfl,rfl,rfl,HST⟩:=hrel
  obtain ⟨hmi,hin,hmn⟩:m <= i /\ i <= s.size + 1 /\ m <= s.size:=by
   obtain ⟨acc,h,_,_⟩:=HST.out;have:=HSL.out;exact ⟨h.1,by have:=h.2.1;omega,by have:=h.2.2.1;omega⟩
  have HTR:Hid (Trie wr G T n0 n1 n2 n4 n5):=hide (by
   obtain ⟨acc,_,_,h⟩:=HST.out;exact HT.out.below h.below HB.out)
  obtain ⟨r0,r1,r2,r3,r4⟩:=HTR.out.root;have rs:=HTR.out.size
  by_cases h1:i < s.size
  ·have tA:decide ((i:Int) <= s.size) = true:=decide_eq_true (by omega);have tB:((i:Int) == s.size) = false:=beq_eq_false_iff_ne.2 (by omega);have b1:s[i].toNat < 256:=chr_lt _;have b2:(s[i].toNat:Int) < 256:=by omega
   have hd:s.data.toList.drop i = s[i] :: s.data.toList.drop (i + 1):=drop_cons s i h1
   by_cases hc:s[i] = 38 \/ s[i] = 60 \/ s[i] = 62 \/ s[i] = 194
   ·obtain ⟨j,nx,j5,hm1,hj⟩:=HTR.out.on hc;have tj:((j:Int) == 5) = false:=beq_eq_false_iff_ne.2 (by omega);have j5':(j:Int) < 5:=by omega
    clear hc;cases hlk:lookL (s.data.toList.drop i) with
    | none =>
     have HN:∀ w',Below wr.heap.size wr w' -> Hid (WSt s B b (i + 1) m N W0 w'):=fun w' hb=>by
      obtain ⟨acc,h,hN,hW⟩:=HST.out;exact hide ⟨acc,h.skip (by rw [HSL.out];exact h1) hlk,hN,hW.kept hb⟩
     have HLK:=hide (fun (w':World) (h:Trie w' G T n0 n1 n2 n4 n5)=>look_any (s.extract i s.size) G T n0 n1 n2 n4 n5 w' h);have HLV:Hid (lookV (lookL (s.extract i s.size).data.toList) = .tuple #[.string ⟨#[]⟩,.int .i64 0,.bool false]):=hide (by rw [extract_end,hlk];rfl);clear hlk hd;go_wp2_with fail;go_quiet (fail);have HTQ:Trie (wr.drewN nq) G T n0 n1 n2 n4 n5:=HTR.out.drewN nq;go_wp2_with (go_at_call 310;refine (HLK.out _ (by assumption)).mono ?_;rintro e w5 ⟨rfl,hb5⟩;rw [HLV.out];have HB5:=hide hb5;clear hb5);go_roundw
     case rel=>exact ⟨i + 1,m,N,by go_num,rfl,rfl,rfl,rfl,HN _ ((below_drewN _ _).trans HB5.out)⟩
     case measure=>simp [intOf];omega
    | some p =>
     obtain ⟨t,k⟩:=p;have hp:=lookL_some hlk;obtain ⟨acc,hv,hNe,hW⟩:=HST.out;have hlen:=hv.len;rw [HSL.out] at hlen;have hh:=hv.hit hlk;rw [HSL.out] at hh;have hik:=hh.1;have hk1:1 <= k:=hp.1;have tk:((k:Int) == 0) = false:=beq_eq_false_iff_ne.2 (by omega);have hE:(s.extract m i).data.toList = (s.data.toList.take i).drop m:=extract_list s m i;obtain ⟨E1,hE1⟩:∃ E1,E1 = s.extract m i:=⟨_,rfl⟩
     rw [<- hE1] at hE;have e1s:E1.size <= s.size:=by rw [hE1];have:=extract_size_le s m i;omega
     obtain ⟨V,hV⟩:∃ V,V = str t:=⟨_,rfl⟩
     have vs:V.size <= 6:=by rw [hV,str_size];exact hp.2.2.2.1
     have N0:0 <= N:=by omega
     have Nb:N <= 105553116266496:=by omega
     have hl1:acc.length + E1.size <= 140737488355328:=by omega
     have hl2:(acc ++ E1.data.toList).length + V.size <= 140737488355328:=by rw [List.length_append,toList_length];omega
     have HL1:=hide hl1;have HL2:=hide hl2;have HWA:Hid (∀ w',Below wr.heap.size wr w' -> WBuf B b acc W0 w'):=hide fun w' hb=>hW.kept hb
     have HFIN:Hid (∀ w',WBuf B b (acc ++ E1.data.toList ++ V.data.toList) W0 w' -> WSt s B b (i + k) (i + k) (N + E1.size + V.size) W0 w'):=hide fun w' h=>⟨_,by rw [hE,hV,str_toList];exact hh.2,by rw [List.length_append,List.length_append,toList_length,toList_length,hNe];omega,h⟩
     have HLK:=hide (fun (w':World) (h:Trie w' G T n0 n1 n2 n4 n5)=>look_any (s.extract i s.size) G T n0 n1 n2 n4 n5 w' h);have HLV:Hid (lookV (lookL (s.extract i s.size).data.toList) = .tuple #[.string V,.int .i64 k,.bool true]):=hide (by rw [extract_end,hlk,hV];rfl);have HE1:Hid (E1 = s.extract m i):=hide hE1;clear hlk hd hp hv hNe hW hlen hh hE hE1 hV hl1 hl2 HST;go_wp2_with fail;go_quiet (fail);have HTQ:Trie (wr.drewN nq) G T n0 n1 n2 n4 n5:=HTR.out.drewN nq;go_wp2_with (go_at_call 310;refine (HLK.out _ (by assumption)).mono ?_;rintro e w5 ⟨rfl,hb5⟩;rw [HLV.out];have HB5:=hide hb5;clear hb5);go_region_with (go_at_call 320;rw [<- HE1.out];refine (appender_any B b acc E1 W0 _ (HWA.out _ (by first | exact (below_drewN _ _).trans HB5.out | exact ((below_drewN _ _).trans HB5.out).drew | exact (((below_drewN _ _).trans HB5.out).drew).drew)) HL1.out).mono ?_;rintro e w6 ⟨rfl,hW6⟩;have HW6:=hide hW6;clear hW6)
     all_goals
      try go_wp2_with (go_at_call 320;refine (appender_any B b (acc ++ E1.data.toList) V W0 _ HW6.out HL2.out).mono ?_;rintro e w7 ⟨rfl,hW7⟩;have HW7:=hide hW7;clear hW7)
      go_roundw
      case rel=>exact ⟨i + k,i + k,N + E1.size + V.size,by go_num,by go_num,rfl,rfl,rfl,hide (HFIN.out _ HW7.out)⟩
      case measure=>simp [intOf];omega
   ·have hlk:lookL (s.data.toList.drop i) = none:=by rw [hd];exact look_off hc
    have HN:∀ w',Below wr.heap.size wr w' -> Hid (WSt s B b (i + 1) m N W0 w'):=fun w' hb=>by
     obtain ⟨acc,h,hN,hW⟩:=HST.out;exact hide ⟨acc,h.skip (by rw [HSL.out];exact h1) hlk,hN,hW.kept hb⟩
    clear hlk hd
    by_cases h160:s[i] = 160
    ·have hm1:wr.cell? ⟨G,6 + s[i].toNat,none⟩ = some (.int .u8 3):=by rw [HTR.out.map s[i],h160];rfl
     have t3:=HTR.out.t3;clear hc h160;go_wp2_with fail;go_quiet (fail);go_wp2_with fail;go_roundw
     case rel=>exact ⟨i + 1,m,N,by go_num,rfl,rfl,rfl,rfl,HN _ (below_drewN _ _)⟩
     case measure=>simp [intOf];omega
    ·have hm1:wr.cell? ⟨G,6 + s[i].toNat,none⟩ = some (.int .u8 5):=by
      rw [HTR.out.map s[i],mapC_none ⟨fun e=>hc (.inl e),fun e=>hc (.inr (.inl e)),fun e=>hc (.inr (.inr (.inl e))),h160,fun e=>hc (.inr (.inr (.inr e)))⟩];rfl
     clear hc h160;go_wp2_with fail;go_quiet (fail);go_wp2_with fail;go_roundw
     case rel=>exact ⟨i + 1,m,N,by go_num,rfl,rfl,rfl,rfl,HN _ (below_drewN _ _)⟩
     case measure=>simp [intOf];omega
  ·by_cases h2:i = s.size
   ·have HN:∀ w',Below wr.heap.size wr w' -> Hid (WSt s B b (i + 1) m N W0 w'):=fun w' hb=>by
     obtain ⟨acc,h,hN,hW⟩:=HST.out;rw [h2,<- HSL.out] at h ⊢;exact hide ⟨acc,h.last,hN,hW.kept hb⟩
    have tA:decide ((i:Int) <= s.size) = true:=decide_eq_true (by omega);have tB:((i:Int) == s.size) = true:=beq_iff_eq.2 (by omega);have hi1:i <= s.size:=by omega
    have HLV:Hid (lookV (lookL ByteArray.empty.data.toList) = .tuple #[.string ⟨#[]⟩,.int .i64 0,.bool false]):=hide rfl;have H2:=hide h2;clear h1 h2 HST;go_wp2_with (go_at_call 310;refine (look_any ByteArray.empty G T n0 n1 n2 n4 n5 _ HTR.out).mono ?_;rintro e w5 ⟨rfl,hb5⟩;rw [HLV.out];have HB5:=hide hb5;clear hb5);go_roundw
    case rel=>exact ⟨i + 1,m,N,by rw [H2.out];go_num,rfl,rfl,rfl,rfl,HN _ HB5.out⟩
    case measure =>
     have:=H2.out;simp [intOf];omega
   ·have h3:i = s.size + 1:=by omega
    subst h3;obtain ⟨acc,hv,hNe,hW⟩:=HST.out;have hlen:=hv.len;rw [HSL.out] at hlen;rw [<- HSL.out] at hv;have hf:=hv.fin;have tA:decide (((s.size + 1:Nat):Int) <= s.size) = false:=decide_eq_false (by omega);have tA':decide ((s.size:Int) + 1 <= s.size) = false:=decide_eq_false (by omega)
    by_cases hms:m = s.size
    ·have tm:((m:Int) == s.size) = true:=beq_iff_eq.2 (by omega)
     have HF:Hid (WBuf B b (escG s.data.toList) W0 wr):=hide (by
      rw [<- hf,hms,List.drop_eq_nil_of_le (by rw [HSL.out];exact Nat.le_refl _),List.append_nil];exact hW)
     clear hv hNe hW hlen hf hms HST;go_wp2_with fail;go_ret2;exact ⟨⟨_,rfl⟩,HF.out⟩
    ·have tm:((m:Int) == s.size) = false:=beq_eq_false_iff_ne.2 (by omega);obtain ⟨E1,hE1⟩:∃ E1,E1 = s.extract m s.size:=⟨_,rfl⟩
     have e1s:E1.size <= s.size:=by rw [hE1];have:=extract_size_le s m s.size;omega
     have N0:0 <= N:=by omega
     have Nb:N <= 105553116266496:=by omega
     have HL1:Hid (acc.length + E1.size <= 140737488355328):=hide (by omega);have HWA:Hid (∀ w',Below wr.heap.size wr w' -> WBuf B b acc W0 w'):=hide fun w' hb=>hW.kept hb
     have HFIN:Hid (∀ w',WBuf B b (acc ++ E1.data.toList) W0 w' -> WBuf B b (escG s.data.toList) W0 w'):=hide fun w' h=>by
      rw [hE1,extract_end,hf] at h;exact h
     have HE1:Hid (E1 = s.extract m s.size):=hide hE1;clear hv hNe hW hlen hf hms HST hE1;go_wp2_with fail;go_region_with (go_at_call 320;rw [<- HE1.out];refine (appender_any B b acc E1 W0 _ (HWA.out _ (by first | exact Below.refl _ _ | exact (Below.refl _ _).drew | exact (Below.refl _ _).drew.drew)) HL1.out).mono ?_;rintro e w6 ⟨rfl,hW6⟩;have HW6:=hide hW6;clear hW6)
     all_goals
      try go_wp2_with fail
      go_ret2;exact ⟨⟨_,rfl⟩,HFIN.out _ HW6.out⟩
theorem wpList_wbuf_make {ops:Array Oper} {rest:List Oper} {o:Oper} {a:Act} {Q:Exit -> Act -> World -> Prop} {w:World} (hgd:o.guard = none) (x y:Operand)
  (ho:o.op = .makeSlice 311 x y) (B:Nat) (W0:World) (hb:Below B W0 w) (hB:B <= w.heap.size) (c:Nat) (C:Int) (hx:a.eval x = .int .i64 0) (hy:a.eval y = .int .i64 C) (hC:C = c) (hc:c <= 281474976710656)
  (h:∀ v' w',Buf B v' [] W0 w' -> wpList Tryz.prog ops Q rest (a.put o.dst v') w'):wpList Tryz.prog ops Q (o :: rest) a w:=by
 obtain ⟨i0,hi,hz0,hz1,hz2⟩:=info_parts info_u8;refine wpList_make_own w hgd x y 311 ho B 5 i0 (.int .u8 0) 1 Tryz.underlying311 hi hz0 hz1 .i64 .i64 C c hx hy hC (by rw [hz2];omega) (by unfold maxLen;omega) hB ?_;intro w' ho' hg;exact h _ _ ⟨ho',hb.grown hg hB (by simp),Nat.le_trans hB hg.size⟩
theorem buf_convertW {B:Nat} {v:Value} {l:List UInt8} {W0 w:World} (h:Buf B v l W0 w):(convert 311 9 v).run Tryz.prog w = .ok (.string (str l)) w:=by
 rcases h.1.2 with ⟨rfl,hl⟩ | ⟨g,cap,cur,rfl,_⟩
 ·have:l = []:=List.eq_nil_of_length_eq_zero hl;subst this;exact run_convert_bytes_nil w 311 5 Tryz.underlying311 Tryz.underlying5 0 0 9 Tryz.underlying9
 ·have hc:=h.1.cells (g:=g) rfl
  have hr:=run_convert_bytes_arg (P:=Tryz.prog) w 311 5 Tryz.underlying311 Tryz.underlying5 g 0 l.length cap (l.map fun b=>(b.toNat:Int)) (by simp) (fun i hi=>by
   have h1:=hc i (.int .u8 l[i].toNat) (by simp [cellsOf,hi]);rw [Addr.add_lit] at h1;rw [h1];simp [List.getD,hi]) 9 Tryz.underlying9
  rw [hr];refine congrArg (fun x=>Result.ok (Value.string x) w) ?_;apply ext_list;rw [strOfNums_data,str_toList,List.map_map]
  conv=>rhs;rw [<- List.map_id l]
  apply List.map_congr_left;intro b _;simp
theorem greplace_any (s:ByteArray) (G T n0 n1 n2 n4 n5:Nat) (w:World) (hT:Trie w G T n0 n1 n2 n4 n5) (hB:G < w.heap.size /\ T < w.heap.size /\ n0 < w.heap.size /\ n1 < w.heap.size /\ n2 < w.heap.size /\ n4 < w.heap.size /\ n5 < w.heap.size) (hs:s.size <= 17592186044416) :
  Calls Tryz.prog 307 #[.pointer (some ⟨G,0,none⟩),.string s] w fun e w'=>e = .returned (.string (str (escG s.data.toList))) /\ Below w.heap.size w w':=by
 have HT:=hide hT;have HB:=hide hB;have HS:=hide hs;clear hT hB;go_enter Tryz.func307,Tryz.ntmps307
 go_wp2_with (first
  |(refine wpList_wbuf_make rfl _ _ rfl w.heap.size w (Below.refl _ _) (Nat.le_refl _) s.size s.size rfl rfl rfl (by omega) ?_;intro v0 w0 hb0;obtain ⟨A0,c0,rfl⟩:=hb0.slice_len;have HB0:=hide hb0;clear hb0)
  |(go_at_call 308;refine (gwrite_any s w.heap.size w0.heap.size G T n0 n1 n2 n4 n5 w _ HT.out HB.out (by first | exact ⟨HB0.out.2.2,_,Box.new _ _ _,HB0.out.alloc _⟩ | exact ⟨HB0.out.2.2,_,(Box.new _ _ _).set _,(HB0.out.alloc _).setBox (Box.new _ _ _) (by decide) HB0.out.2.2 _⟩) HS.out).mono ?_;rintro e w2 ⟨⟨n,rfl⟩,hW2⟩;obtain ⟨_,v2,hx2,hf2⟩:=hW2;have c2:=hx2.cell;have hc2:=buf_convertW hf2;have HF2:=hide hf2;clear hx2 hf2))
 go_ret;exact ⟨rfl,HF2.out.below⟩
end Go.Proofs.YtiejmkjpgjbodaaGreatDoor
