import Derived.Test.YtmgpmdfmkdhfgaaGreatDoorBaseQ
namespace Go.Proofs.YtmgpmdfmkdhfgaaGreatDoor
set_option linter.unusedVariables false
set_option linter.unusedSimpArgs false
set_option maxRecDepth 100000
theorem count_snoc (l:List (NdH × Tr)) (h:NdH) (K:Tr):(Tr.of (l ++ [(h,K)])).count = (Tr.of l).count + 1 + K.count:=by
 induction l with
 | nil=>show 1 + K.count + 0 = 0 + 1 + K.count;omega
 | cons q r ih =>
  obtain ⟨h2,K2⟩:=q;show 1 + K2.count + (Tr.of (r ++ [(h,K)])).count = 1 + K2.count + (Tr.of r).count + 1 + K.count
  rw [ih];omega
theorem all_snoc (f:NdH -> Bool) (l:List (NdH × Tr)) (h:NdH) (K:Tr):(Tr.of (l ++ [(h,K)])).all f = ((Tr.of l).all f && (f h && K.all f)):=by
 induction l with
 | nil=>show (f h && (K.all f && true)) = (true && (f h && K.all f));simp
 | cons q r ih =>
  obtain ⟨h2,K2⟩:=q;show (f h2 && (K2.all f && (Tr.of (r ++ [(h,K)])).all f)) = ((f h2 && (K2.all f && (Tr.of r).all f)) && (f h && K.all f))
  rw [ih];simp [Bool.and_assoc]
def cW (s:WashL):Nat:=(Tr.of s.1).count + (if s.2 = [] then 0 else 1)
theorem cW_end (s:WashL):(Tr.of (wEnd s)).count = cW s:=by
 unfold wEnd cW
 by_cases h:s.2 = []
 ·rw [if_pos h,if_pos h];omega
 ·rw [if_neg h,if_neg h,count_snoc];rfl
theorem cW_add (s:WashL) (q:NdH × Tr):cW (wAdd s q) = cW s + 1 + q.2.count:=by
 show (Tr.of (wEnd s ++ [(q.1,q.2)])).count + (if ([]:List UInt8) = [] then 0 else 1) = _
 rw [count_snoc,cW_end,if_pos rfl];rfl
theorem cW_txt (s:WashL) (t:List UInt8):cW (wTxt s t) <= cW s + 1:=by
 unfold cW wTxt;simp only;split <;> split <;> omega
theorem wash_count (void:List UInt8 -> Bool) (r s:Bool) (F:List FileL) (lk:Bool) (T:Tr) (a:WashL):cW (washL void r s F lk T a) <= cW a + T.count:=by
 induction T generalizing lk a with
 | nil=>exact Nat.le_refl _
 | cons hd K R ihK ihR =>
  unfold washL;refine Nat.le_trans (ihR _ _) ?_;show _ <= cW a + (1 + K.count + R.count)
  have key:∀ {s':WashL},cW s' <= cW a + 1 + K.count -> cW s' + R.count <= cW a + (1 + K.count + R.count):=fun {s'} h=>by omega
  have hK:∀ b,(Tr.of (wEnd (washL void r s F b K ([],[])))).count <= K.count:=fun b=>by
   rw [cW_end];have h2:=ihK b ([],[]);have h3:cW ([],[]) = 0:=rfl;omega
  have htx:∀ t,cW (wTxt a t) <= cW a + 1 + K.count:=fun t=>by have:=cW_txt a t;omega
  have hel:∀ h,cW (wAdd a (h,.nil)) <= cW a + 1 + K.count:=fun h=>by
   rw [cW_add];show cW a + 1 + 0 <= _;omega
  refine key ?_;split
  ·exact htx _
  split
  ·omega
  split
  ·have:=ihK lk a;omega
  split
  ·rw [cW_add];have:=hK true;simp only;omega
  split
  ·unfold wPic;split
   ·omega
   ·split
    ·exact htx _
    ·split
     ·exact hel _
     ·omega
  split
  ·exact hel _
  ·rw [cW_add];have:=hK lk;simp only;omega
theorem washT_count (void:List UInt8 -> Bool) (r s:Bool) (F:List FileL) (T:Tr):(washT void r s F T).count <= T.count:=by
 unfold washT;rw [cW_end];have h2:=wash_count void r s F false T ([],[]);have h3:cW ([],[]) = 0:=rfl;omega
theorem wash_all (void:List UInt8 -> Bool) (r s:Bool) (F:List FileL) (f g:NdH -> Bool) (h1:∀ t,f ⟨[],[],t⟩ = true) (h2:∀ h,g h = true -> f (elemW r s F h) = true) (h3:∀ h,g h = true -> f (linkW r s F h) = true) (lk:Bool) (T:Tr) (a:WashL) (hT:T.all g = true) (ha:(Tr.of a.1).all f = true):(Tr.of (washL void r s F lk T a).1).all f = true:=by
 have hend:∀ a:WashL,(Tr.of a.1).all f = true -> (Tr.of (wEnd a)).all f = true:=fun a ha=>by
  unfold wEnd;split
  ·exact ha
  ·rw [all_snoc,ha,h1];rfl
 have hadd:∀ (a:WashL) (q:NdH × Tr),(Tr.of a.1).all f = true -> f q.1 = true -> q.2.all f = true -> (Tr.of (wAdd a q).1).all f = true:=fun a q ha h4 h5=>by
  show (Tr.of (wEnd a ++ [(q.1,q.2)])).all f = true
  rw [all_snoc,hend a ha,h4,h5];rfl
 induction T generalizing lk a with
 | nil=>exact ha
 | cons hd K R ihK ihR =>
  simp only [Tr.all,Bool.and_eq_true] at hT;obtain ⟨g1,g2,g3⟩:=hT;unfold washL;refine ihR _ _ g3 ?_;have hK:∀ b,(Tr.of (wEnd (washL void r s F b K ([],[])))).all f = true:=fun b=>hend _ (ihK b _ g2 rfl)
  split
  ·exact ha
  split
  ·exact ha
  split
  ·exact ihK _ _ g2 ha
  split
  ·exact hadd _ _ ha (h3 hd g1) (hK true)
  split
  ·unfold wPic;split
   ·exact ha
   ·split
    ·exact ha
    ·split
     ·exact hadd _ _ ha (h2 hd g1) rfl
     ·exact ha
  split
  ·exact hadd _ _ ha (h2 hd g1) rfl
  ·exact hadd _ _ ha (h2 hd g1) (hK lk)
theorem washT_all (void:List UInt8 -> Bool) (r s:Bool) (F:List FileL) (f g:NdH -> Bool) (h1:∀ t,f ⟨[],[],t⟩ = true) (h2:∀ h,g h = true -> f (elemW r s F h) = true) (h3:∀ h,g h = true -> f (linkW r s F h) = true) (T:Tr) (hT:T.all g = true):(washT void r s F T).all f = true:=by
 unfold washT wEnd;have:=wash_all void r s F f g h1 h2 h3 false T ([],[]) hT rfl;split
 ·exact this
 ·rw [all_snoc,this,h1];rfl
theorem linkA_len (l:List AtL):(linkA l).length <= l.length + 1:=by
 unfold linkA;split
 ·rw [List.length_append];exact Nat.le_refl _
 ·omega
def tz:Tr -> Nat
  | .nil=>0
  | .cons h K R=>h.text.length + tz K + tz R
theorem tz_snoc (l:List (NdH × Tr)) (h:NdH) (K:Tr):tz (Tr.of (l ++ [(h,K)])) = tz (Tr.of l) + h.text.length + tz K:=by
 induction l with
 | nil=>show h.text.length + tz K + 0 = 0 + h.text.length + tz K;omega
 | cons q r ih =>
  obtain ⟨h2,K2⟩:=q;show h2.text.length + tz K2 + tz (Tr.of (r ++ [(h,K)])) = h2.text.length + tz K2 + tz (Tr.of r) + h.text.length + tz K
  rw [ih];omega
def tzW (s:WashL):Nat:=tz (Tr.of s.1) + s.2.length
theorem tzW_end (s:WashL):tz (Tr.of (wEnd s)) = tzW s:=by
 unfold wEnd tzW
 by_cases h:s.2 = []
 ·rw [if_pos h,h];rfl
 ·rw [if_neg h,tz_snoc];rfl
theorem tzW_add (s:WashL) (q:NdH × Tr):tzW (wAdd s q) = tzW s + q.1.text.length + tz q.2:=by
 show tz (Tr.of (wEnd s ++ [(q.1,q.2)])) + ([]:List UInt8).length = _
 rw [tz_snoc,tzW_end];rfl
theorem tzW_txt (s:WashL) (t:List UInt8):tzW (wTxt s t) = tzW s + t.length:=by
 unfold tzW wTxt;simp only [List.length_append];omega
theorem wash_text (void:List UInt8 -> Bool) (r s:Bool) (F:List FileL) (M:Nat) (lk:Bool) (T:Tr) (a:WashL) (hT:T.all (fun h=>decide ((validL h.text).length <= M) && decide ((signT h.attrs).length <= M)) = true):tzW (washL void r s F lk T a) <= tzW a + M * T.count:=by
 induction T generalizing lk a with
 | nil=>exact Nat.le_add_right _ _
 | cons hd K R ihK ihR =>
  simp only [Tr.all,Bool.and_eq_true,decide_eq_true_eq] at hT;obtain ⟨⟨g0,g1⟩,g2,g3⟩:=hT;unfold washL;refine Nat.le_trans (ihR _ _ (by simpa using g3)) ?_;show _ <= tzW a + M * (1 + K.count + R.count)
  rw [Nat.mul_add,Nat.mul_add,Nat.mul_one];have g2':K.all (fun h=>decide ((validL h.text).length <= M) && decide ((signT h.attrs).length <= M)) = true:=by simpa using g2
  have hK:∀ b,tz (Tr.of (wEnd (washL void r s F b K ([],[])))) <= M * K.count:=fun b=>by
   rw [tzW_end];have h2:=ihK b ([],[]) g2';have h3:tzW ([],[]) = 0:=rfl;omega
  have key:∀ {s':WashL},tzW s' <= tzW a + M + M * K.count -> tzW s' + M * R.count <= tzW a + (M + M * K.count + M * R.count):=fun {s'} h=>by omega
  refine key ?_;split
  ·rw [tzW_txt];omega
  split
  ·omega
  split
  ·have:=ihK lk a g2';omega
  split
  ·rw [tzW_add];have:=hK true;have h0:(linkW r s F hd).text.length = 0:=rfl;simp only;omega
  split
  ·unfold wPic;split
   ·omega
   ·split
    ·rw [tzW_txt];omega
    ·split
     ·rw [tzW_add];show tzW a + 0 + 0 <= _;omega
     ·omega
  split
  ·rw [tzW_add];show tzW a + 0 + 0 <= _;omega
  ·rw [tzW_add];have:=hK lk;have h0:(elemW r s F hd).text.length = 0:=rfl;simp only;omega
theorem tz_all (T:Tr) (N:Nat) (h:tz T <= N):T.all (fun x=>decide (x.text.length <= N)) = true:=by
 induction T with
 | nil=>rfl
 | cons hd K R ihK ihR =>
  have h:hd.text.length + tz K + tz R <= N:=h;simp only [Tr.all,Bool.and_eq_true,decide_eq_true_eq];exact ⟨by omega,by simpa using ihK (by omega),by simpa using ihR (by omega)⟩
end Go.Proofs.YtmgpmdfmkdhfgaaGreatDoor
