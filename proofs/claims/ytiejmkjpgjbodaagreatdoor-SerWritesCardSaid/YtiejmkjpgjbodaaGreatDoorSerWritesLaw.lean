import Derived.Test.YtiejmkjpgjbodaaGreatDoorBaseR
import Derived.Test.YtiejmkjpgjbodaaGreatDoorBaseS
import Derived.Test.YtiejmkjpgjbodaaGreatDoorArBd
import Derived.Test.YtiejmkjpgjbodaaGreatDoorTreeA
namespace Go.Proofs.YtiejmkjpgjbodaaGreatDoor
open Go.RowKit
set_option linter.unusedVariables false
set_option linter.unusedSimpArgs false
set_option maxRecDepth 100000
theorem fresh_in {B:Nat} {w:World} {v:Value} {T:Tr} (h:NodesC (NewB B w) w v T):NodesIn w v T:=h.mono (fun _ _=>rfl) (fun b hb=>hb.2)
set_option maxHeartbeats 8000000 in
theorem stable15_any (v:Value) (T:Tr) (w:World) (hT:NodesIn w v T) (hc:T.count <= 1000000) (ha:T.all smallH = true) (hl:(writeT T).length <= 8000000) :
  Calls Tryz.prog 25 #[v] w fun e w'=>e = .returned (.bool (stableB T)) /\ Below w.heap.size w w':=by
 have hs:(str (writeT T)).data.toList = writeT T:=str_toList _;have HW:=hide (write15_any v T w hT hc ha (by omega));obtain ⟨P,hP⟩:∃ P,P = buildP (scanL decE [] [] (writeT T)):=⟨_,rfl⟩
 have HB:Hid (∀ w',Calls Tryz.prog 13 #[.string (str (writeT T))] w' fun e w''=>∃ u,e = .returned u /\ NodesIn w'' u P /\ Below w'.heap.size w' w''):=hide (fun w'=>by
  have:=refBuild_any (str (writeT T)) w' (by rw [str_size];omega);rw [hs,<- hP] at this;exact this)
 have hfew:P.all attrsFew = true:=by rw [hP,<- hs];exact build_few _
 have hcnt:P.count <= 5000:=by rw [hP];exact (build_count _).1
 have HS:Hid (∀ u w',NodesIn w' u P -> NodesIn w' v T -> Calls Tryz.prog 14 #[u,v] w' fun e w''=>e = .returned (.bool (stableB T)) /\ Below w'.heap.size w' w''):=hide (fun u w' hu hv=>by
  refine (same14_any _ _ P T w' (by omega) hu hv hfew).mono ?_;rintro e w2 ⟨rfl,m,rfl⟩;refine ⟨?_,below_of13 ⟨m,rfl⟩⟩
  have:decide (P = T) = stableB T:=by
   unfold stableB;rw [<- hP];exact decide_eq_decide.mpr ⟨fun h=>h.symm,fun h=>h.symm⟩
  rw [this])
 obtain ⟨S,hS⟩:∃ S,S = str (writeT T):=⟨_,rfl⟩
 obtain ⟨b,hb⟩:∃ b,b = stableB T:=⟨_,rfl⟩
 rw [<- hS] at HW HB;rw [<- hb] at HS ⊢;obtain ⟨A,c,rfl⟩:=NodesC.form hT;have HT:=hide hT;clear hs hP hfew hcnt hS hb hT hc ha hl;go_enter Tryz.func25,Tryz.ntmps25;go_wp2_with fail;refine HW.out.mono ?_;rintro e w1 ⟨rfl,hb1⟩;have HB1:=hide hb1;clear hb1;go_wp2_with fail;refine (HB.out w1).mono ?_;rintro e w2 ⟨u,rfl,hu,hb2⟩;have HB2:=hide (bl_two HB1.out hb2);obtain ⟨A2,c2,rfl⟩:=NodesC.form hu;have HU:=hide hu;clear hu hb2;go_wp2_with fail;refine (HS.out _ w2 HU.out (HT.out.kept HB2.out)).mono ?_;rintro e w3 ⟨rfl,hb3⟩;have HB3:=hide (bl_two HB2.out hb3);clear hb3;go_wp2_with fail;go_ret;exact ⟨rfl,HB3.out⟩
set_option maxHeartbeats 8000000 in
theorem law_SerWrites (v:Value) (T:Tr) {w:World} (hT:NodesIn w v T) (hE:EnvX w) :
  Calls Tryz.prog 5 #[v] w fun e w'=>e = .returned (.bool true) /\ Below w.heap.size w w':=by
 obtain ⟨A,c,rfl⟩:=NodesC.form hT;have hm:=(NodesC.cap hT)
 have HSM:=hide (small14_any _ T w hT (Nat.le_trans hm.2.1 hm.2.2));have HE:=hide hE;have HT:=hide hT;clear hE hm hT;obtain ⟨S,hS⟩:∃ S,S = str (writeT T):=⟨_,rfl⟩
 obtain ⟨X,hX⟩:∃ X,X = str (textT T):=⟨_,rfl⟩
 obtain ⟨q,hq⟩:∃ q,q = stableB T:=⟨_,rfl⟩
 have HK:Hid (∀ w' u,Below w.heap.size w w' -> NodesIn w' u T -> T.count <= 60 -> T.all smallH = true ->
   Calls Tryz.prog 20 #[u] w' (fun e w''=>∃ u',e = .returned u' /\ NodesIn w'' u' T /\ Below w'.heap.size w' w'') /\
   Calls Tryz.prog 9 #[u] w' (fun e w''=>e = .returned (.bool q) /\ Below w'.heap.size w' w'') /\
   Calls Tryz.prog 25 #[u] w' (fun e w''=>e = .returned (.bool q) /\ Below w'.heap.size w' w'') /\
   Calls Tryz.prog 21 #[u] w' (fun e w''=>e = .returned (.string S) /\ Below w'.heap.size w' w'') /\
   Calls Tryz.prog 22 #[u] w' (fun e w''=>e = .returned (.string S) /\ Below w'.heap.size w' w'') /\
   Calls Tryz.prog 23 #[u] w' (fun e w''=>e = .returned (.string X) /\ Below w'.heap.size w' w'') /\
   Calls Tryz.prog 24 #[u] w' (fun e w''=>e = .returned (.string X) /\ Below w'.heap.size w' w'') /\
   Calls Tryz.prog 14 #[u,.slice A T.len c] w' (fun e w''=>e = .returned (.bool true) /\ Below w'.heap.size w' w'')):=hide (fun w' u hb hu hc ha=>by
  have hE':=HE.out.kept hb;have hT':=HT.out.kept hb;have hw:=small_write hc ha;have ht:=textT_len T ha;rw [hS,hX,hq];refine ⟨(copy14_any u T w' hu (by omega) (small_few ha)).mono (fun e w'' ⟨u',h1,h2,h3⟩=>⟨u',h1,fresh_in h2,h3⟩),serStable_any _ T w' hE' hu ha (by omega) (by omega),stable15_any _ T w' hu (by omega) ha (by omega),serWrite_any _ T w' hE' hu ha (by omega) (by omega),write15_any _ T w' hu (by omega) ha (by omega),serText_any _ T w' hu (by omega) (by omega),text15_any _ T w' hu (by omega) (by omega),?_⟩;refine (same14_any _ _ T T w' (by omega) hu hT' (small_few ha)).mono ?_;rintro e w2 ⟨rfl,m,rfl⟩;exact ⟨by rw [decide_eq_true rfl],below_of13 ⟨m,rfl⟩⟩)
 have HLV:Hid (∀ w',Below w.heap.size w w' -> Calls Tryz.prog 19 #[] w' fun e w''=>e = .returned (.bool true) /\ Below w.heap.size w w''):=hide (fun w' hb=>(live15_any w' (HE.out.kept hb)).mono fun e w2 ⟨h1,h2⟩=>⟨h1,bl_two hb h2⟩);clear hS hX hq;go_enter Tryz.func5,Tryz.ntmps5;go_wp2_with fail;refine HSM.out.mono ?_;rintro e w1 ⟨b,rfl,hs,hb1⟩;have HB1:=hide hb1;clear hb1;cases b with
 | false =>
  clear hs;go_wp2_with fail;refine (HLV.out _ HB1.out).mono ?_;rintro e wl ⟨rfl,hbl⟩;have HBL:=hide hbl;clear hbl;go_wp2_with fail;go_ret;exact ⟨rfl,HBL.out⟩
 | true =>
 obtain ⟨hc,ha⟩:=hs rfl;have HC:=hide hc;have HA:=hide ha;clear hc ha hs;go_wp2_with fail;refine (HK.out _ _ HB1.out (HT.out.kept HB1.out) HC.out HA.out).1.mono ?_;rintro e w2 ⟨u,rfl,hu,hb2⟩;have HB2:=hide (bl_two HB1.out hb2);have HU2:=hide hu;obtain ⟨A2,c2,rfl⟩:=NodesC.form hu;clear hu hb2;go_wp2_with fail;refine (HK.out _ _ HB2.out HU2.out HC.out HA.out).2.2.2.1.mono ?_;rintro e w3 ⟨rfl,hb3⟩;have HB3:=hide (bl_two HB2.out hb3);have HU3:=hide (HU2.out.kept hb3);clear hb3;go_wp2_with fail;refine (HK.out _ _ HB3.out (HT.out.kept HB3.out) HC.out HA.out).2.2.2.2.1.mono ?_;rintro e w4 ⟨rfl,hb4⟩;have HB4:=hide (bl_two HB3.out hb4);have HU4:=hide (HU3.out.kept hb4);clear hb4;go_wp2_with fail;refine (HK.out _ _ HB4.out HU4.out HC.out HA.out).2.2.2.2.2.1.mono ?_;rintro e w5 ⟨rfl,hb5⟩;have HB5:=hide (bl_two HB4.out hb5);have HU5:=hide (HU4.out.kept hb5);clear hb5;go_wp2_with fail;refine (HK.out _ _ HB5.out (HT.out.kept HB5.out) HC.out HA.out).2.2.2.2.2.2.1.mono ?_;rintro e w6 ⟨rfl,hb6⟩;have HB6:=hide (bl_two HB5.out hb6);have HU6:=hide (HU5.out.kept hb6);clear hb6;go_wp2_with fail;refine (HK.out _ _ HB6.out HU6.out HC.out HA.out).2.1.mono ?_;rintro e w7 ⟨rfl,hb7⟩;have HB7:=hide (bl_two HB6.out hb7);have HU7:=hide (HU6.out.kept hb7);clear hb7;go_wp2_with fail;refine (HK.out _ _ HB7.out (HT.out.kept HB7.out) HC.out HA.out).2.2.1.mono ?_;rintro e w8 ⟨rfl,hb8⟩;have HB8:=hide (bl_two HB7.out hb8);have HU8:=hide (HU7.out.kept hb8)
 clear hb8;go_wp2_with fail;refine (HK.out _ _ HB8.out HU8.out HC.out HA.out).2.2.2.2.2.2.2.mono ?_;rintro e w9 ⟨rfl,hb9⟩;have HB9:=hide (bl_two HB8.out hb9);clear hb9;go_wp2_with fail;refine (HLV.out _ HB9.out).mono ?_;rintro e wl ⟨rfl,hbl⟩;have HBL:=hide hbl;clear hbl;go_wp2_with fail;go_ret;exact ⟨rfl,HBL.out⟩
end Go.Proofs.YtiejmkjpgjbodaaGreatDoor
