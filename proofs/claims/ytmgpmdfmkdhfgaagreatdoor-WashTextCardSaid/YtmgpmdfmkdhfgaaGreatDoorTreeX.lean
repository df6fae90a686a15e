import Derived.Test.YtmgpmdfmkdhfgaaGreatDoorBaseS
import Derived.Test.YtmgpmdfmkdhfgaaGreatDoorBaseT
import Derived.Test.YtmgpmdfmkdhfgaaGreatDoorHtokX
namespace Go.Proofs.YtmgpmdfmkdhfgaaGreatDoor
open Go.RowKit
set_option linter.unusedVariables false
set_option linter.unusedSimpArgs false
set_option maxRecDepth 100000
theorem make_part (w:World):(Instr.makeSlice 65 (.int .i64 1) (.int .i64 1)).run Tryz.prog w = .ok (.slice (some ⟨w.heap.size,0,none⟩) 1 1) (w.alloc (.cells #[.string ⟨#[]⟩,.slice none 0 0,.string ⟨#[]⟩,.slice none 0 0,.slice none 0 0] 77)):=by
 obtain ⟨i0,hi,hz0,hz1,hz2⟩:=info_parts info_part;have:=run_make (P:=Tryz.prog) w 65 77 i0 _ Tryz.underlying65 hi hz0 .i64 .i64 1 1 (by omega) (Int.le_refl _) (by rw [hz2];decide) (by decide);rw [hz1] at this;have e:madeCells (Value.agg #[.string ByteArray.empty,.slice none 0 0,.string ByteArray.empty,.slice none 0 0,.slice none 0 0]).cells (Int.toNat 1 * 5) = #[.string ⟨#[]⟩,.slice none 0 0,.string ⟨#[]⟩,.slice none 0 0,.slice none 0 0]:=by kernel_rfl
 rw [e] at this;exact this
def rootV:PartV:=⟨[],[],.slice none 0 0,[],.slice none 0 0,[],.slice none 0 0⟩
theorem bs_new (w:World):BS (fun _=>False) w.heap.size (w.heap.size + 1) (.slice (some ⟨w.heap.size,0,none⟩) 1 1) [rootV] 0 w ((w.alloc (.cells #[.string ⟨#[]⟩,.slice none 0 0,.string ⟨#[]⟩,.slice none 0 0,.slice none 0 0] 77)).alloc (.cells #[.slice (some ⟨w.heap.size,0,none⟩) 1 1,.int .i64 0] 67)):=by
 have h1:(w.alloc (.cells #[.string ⟨#[]⟩,.slice none 0 0,.string ⟨#[]⟩,.slice none 0 0,.slice none 0 0] 77)).heap.size = w.heap.size + 1:=by rw [World.size_alloc]
 have hr:=(World.ownsRow_lit (base:=w.heap.size) (e:=77) (size:=5) w #[.string ⟨#[]⟩,.slice none 0 0,.string ⟨#[]⟩,.slice none 0 0,.slice none 0 0] 1 (Nat.le_refl _) (by decide) rfl).alloc (.cells #[.slice (some ⟨w.heap.size,0,none⟩) 1 1,.int .i64 0] 67);have hb:Below w.heap.size w ((w.alloc (.cells #[.string ⟨#[]⟩,.slice none 0 0,.string ⟨#[]⟩,.slice none 0 0,.slice none 0 0] 77)).alloc (.cells #[.slice (some ⟨w.heap.size,0,none⟩) 1 1,.int .i64 0] 67)):=(below_one w _).trans ((below_one _ _).mono (by rw [h1];exact Nat.le_succ _));refine ⟨?_,hr,fun p hp=>?_,fun p hp=>?_,List.pairwise_singleton _ _,fun p hp=>?_,fun p hp=>(by cases hp),fun g hg=>hg.elim,Nat.le_succ _,hb,hb.size,(Since4.refl w).below hb⟩
 ·have:=heap_alloc_new (w.alloc (.cells #[.string ⟨#[]⟩,.slice none 0 0,.string ⟨#[]⟩,.slice none 0 0,.slice none 0 0] 77)) (.cells #[.slice (some ⟨w.heap.size,0,none⟩) 1 1,.int .i64 0] 67);rw [h1] at this;exact this
 ·obtain rfl:=List.mem_singleton.1 hp;exact ⟨.inl ⟨rfl,rfl⟩,fun a n c e=>(by cases e)⟩
 ·obtain rfl:=List.mem_singleton.1 hp;exact ⟨World.ownsRow_nil _ _ _ 4,fun q hq=>(by cases hq),fun g e=>(by cases e)⟩
 ·obtain rfl:=List.mem_singleton.1 hp;exact ⟨World.ownsRow_nil _ _ _ 1,fun _=>rfl⟩
theorem TRow.since {B:Nat} {v:Value} {vs:List TokV} {W w:World} (h:TRow B v vs W) (hs:Since4 W w):TRow B v vs w:=by
 refine ⟨⟨h.row.1,?_⟩,fun p hp=>attrs_since hs (h.each p hp)⟩;rcases h.row.2 with h0 | ⟨g,cap,cur,rfl,h1,h2,h3⟩
 ·exact .inl h0
 ·exact .inr ⟨g,cap,cur,rfl,h1,(hs g _ _ _ h2 (by decide)).trans h2,h3⟩
def TailsLe (X:Nat) (st:List PartL):Prop:=∀ p ∈ st,p.tail.length <= X
theorem tails_closeTop {X:Nat} {st:List PartL} (h:TailsLe X st):TailsLe X (closeTop st):=by
 match st,h with
 | [],h=>exact h
 | [p],h=>exact h
 | p :: q :: r,h =>
  intro x hx;rcases List.mem_cons.1 hx with rfl | hx
  ·exact h q (List.mem_cons_of_mem _ (List.mem_cons_self ..))
  ·exact h x (List.mem_cons_of_mem _ (List.mem_cons_of_mem _ hx))
theorem tails_closeN {X:Nat} (n:Nat) {st:List PartL} (h:TailsLe X st):TailsLe X (closeN n st):=by
 induction n generalizing st with
 | zero=>exact h
 | succ n ih=>exact ih (tails_closeTop h)
theorem tails_closeAll {X:Nat} (is:List UInt8 -> Bool) (f:Nat) {st:List PartL} (h:TailsLe X st):TailsLe X (closeAll is f st):=by
 induction f generalizing st with
 | zero=>exact h
 | succ f ih =>
  rw [closeAll];split
  ·exact h
  ·exact ih (tails_closeN _ h)
theorem tails_endText {X:Nat} {p:PartL}:(endTextL p).tail.length <= X:=by rw [endText_tail];exact Nat.zero_le _
theorem tails_put {X:Nat} (t:TokL) (n:Nat) {st:List PartL} (h:TailsLe X st):TailsLe X (putP t st n).1:=by
 match st,h with
 | [],h=>exact h
 | p :: r,h =>
  have hr:∀ x ∈ r,x.tail.length <= X:=fun x hx=>h x (List.mem_cons_of_mem _ hx)
  rw [putP_cons];split
  ·intro x hx;rcases List.mem_cons.1 hx with rfl | hx
   ·exact tails_endText
   ·exact hr x hx
  ·intro x hx;rcases List.mem_cons.1 hx with rfl | hx
   ·exact Nat.zero_le _
   ·rcases List.mem_cons.1 hx with rfl | hx
    ·exact tails_endText
    ·exact hr x hx
theorem tails_tok {X N:Nat} {s:BsL} {t:TokL} (h:TailsLe X s.1) (ht:t.kind = 1 -> t.text.length <= N):TailsLe (X + N) (tokB s t).1:=by
 obtain ⟨st,n⟩:=s;have hx:∀ {l:List PartL},TailsLe X l -> TailsLe (X + N) l:=fun hl x hx=>Nat.le_trans (hl x hx) (Nat.le_add_right _ _)
 unfold tokB;split
 ·rename_i hk;have hN:=ht hk
  match st,h with
  | [],h=>exact hx h
  | p :: r,h =>
   have hp:=h p (List.mem_cons_self ..);have hr:∀ x ∈ r,x.tail.length <= X + N:=fun x hx=>Nat.le_trans (h x (List.mem_cons_of_mem _ hx)) (Nat.le_add_right _ _)
   rw [charsP_cons];split
   ·split
    ·exact hx h
    ·intro x hx;rcases List.mem_cons.1 hx with rfl | hx
     ·show t.text.length <= X + N;omega
     ·exact hr x hx
   ·intro x hx;rcases List.mem_cons.1 hx with rfl | hx
    ·show (p.tail ++ t.text).length <= X + N;rw [List.length_append];omega
    ·exact hr x hx
 ·split
  ·unfold startP;have:=tails_closeAll (closesB t.name) st.length h;split
   ·exact hx this
   ·exact hx (tails_put _ _ this)
  ·split
   ·unfold endP;split
    ·exact hx h
    ·exact hx (tails_closeN _ h)
   ·exact hx h
theorem tails_fold (N:Nat):∀ (L:List TokL) (X:Nat) (s:BsL),TailsLe X s.1 -> (∀ t ∈ L,TokW N t) -> TailsLe (X + L.length * N) (L.foldl tokB s).1
 | [],X,s,h,_=>by simpa using h
 | t :: r,X,s,h,ht=>by
  have h1:=tails_tok (N:=N) h (ht t (List.mem_cons_self ..)).1;have h2:=tails_fold N r (X + N) _ h1 (fun u hu=>ht u (List.mem_cons_of_mem _ hu));rw [List.foldl_cons,List.length_cons,Nat.add_mul,Nat.one_mul];intro p hp;have:=h2 p hp;omega
def BuiltS (B b:Nat) (vs:List TokV) (W0 w:World) (k:Nat):Prop :=
  ∃ C r st n,BS C B b r st n W0 w /\ (toLs st,n) = ((vs.map Prod.fst).take k).foldl tokB ([rootL],0)
theorem built_ok {N:Nat} {vs:List TokV} {k:Nat} {st:List PartV} {n:Nat} (h:(toLs st,n) = ((vs.map Prod.fst).take k).foldl tokB ([rootL],0)) (hw:∀ t ∈ vs.map Prod.fst,TokW N t) (hk:k <= vs.length) (hN:vs.length * N <= 64000000000000) :
  st ≠ [] /\ stW (toLs st) <= n /\ n <= 5000 /\ st.length <= 31 /\ ∀ p ∈ st,p.tail.length <= 64000000000000:=by
 have h1:=(fold_ok ((vs.map Prod.fst).take k) ok_root).1;have h5:=tails_fold N ((vs.map Prod.fst).take k) 0 ([rootL],0) (fun p hp=>by obtain rfl:=List.mem_singleton.1 hp;exact Nat.le_refl _) (fun t ht=>hw t (List.mem_of_mem_take ht));rw [<- h] at h1 h5;obtain ⟨h1,h2,h3,h4⟩:=h1;refine ⟨fun e=>h1 (by rw [e];rfl),h2,h3,by rw [<- toLs_length];exact h4,fun p hp=>?_⟩;have h6:=h5 p.toL (List.mem_map_of_mem hp);have h7:((vs.map Prod.fst).take k).length <= vs.length:=by rw [List.length_take,List.length_map];omega
 have h8:=Nat.mul_le_mul_right N h7;have h9:p.toL.tail = p.tail:=rfl;rw [h9] at h6;omega
theorem fold_next {vs:List TokV} {k:Nat} {p:TokV} (h:vs[k]? = some p) (s:BsL):((vs.map Prod.fst).take (k + 1)).foldl tokB s = tokB (((vs.map Prod.fst).take k).foldl tokB s) p.1:=by
 have:(vs.map Prod.fst)[k]? = some p.1:=by rw [List.getElem?_map,h];rfl
 rw [List.take_add_one,this,List.foldl_append];rfl
end Go.Proofs.YtmgpmdfmkdhfgaaGreatDoor
