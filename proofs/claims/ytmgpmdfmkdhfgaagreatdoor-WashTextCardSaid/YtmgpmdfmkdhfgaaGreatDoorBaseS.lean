/- More of the first texts of this claim in one: each with its own head. No statement is proved here. -/
import Derived.Test.YtmgpmdfmkdhfgaaGreatDoorBaseR
import Derived.Test.YtmgpmdfmkdhfgaaGreatDoorBaseQ
import Derived.Test.YtmgpmdfmkdhfgaaGreatDoorBaseN
import Derived.Test.YtmgpmdfmkdhfgaaGreatDoorBaseM
import Derived.Test.YtmgpmdfmkdhfgaaGreatDoorBaseO
import Derived.Test.YtmgpmdfmkdhfgaaGreatDoorShelf
import Derived.Maps.Own
import Derived.Maps.OwnSet
import Derived.Maps.Views
import Derived.Deep.Cut
import Derived.Lib.Builder
import Derived.Laws.Externs
import Derived.Deep.QuietTactic
import Derived.BigQuiet
namespace Go.Proofs.YtmgpmdfmkdhfgaaGreatDoor
open Go.RowKit
set_option linter.unusedVariables false
set_option linter.unusedSimpArgs false
set_option maxRecDepth 100000
set_option maxHeartbeats 16000000
theorem attrs_since {W w:World} {B:Nat} {u:Value} {m:Nat} {xs:List Value} (hs:Since4 W w) (hu:W.ownsRow B 47 2 u m xs):w.ownsRow B 47 2 u m xs:=by
 refine ⟨hu.1,?_⟩;rcases hu.2 with h | ⟨g,cap,cur,rfl,h1,h2,h3⟩
 ·exact .inl h
 ·exact .inr ⟨g,cap,cur,rfl,h1,(hs g _ _ _ h2 (by decide)).trans h2,h3⟩
theorem BS.withAttrs {C:Nat -> Prop} {B B' b:Nat} {r u:Value} {st:List PartV} {n:Nat} {W0 w:World} {ats:List AtL} (h:BS C B b r st n W0 w) (hu:w.ownsRow B' 47 2 u ats.length (atVals ats)):∃ C':Nat -> Prop,BS C' B b r st n W0 w /\ AttrsC C' w u ats:=by
 refine ⟨fun g=>C g \/ ∃ (cur:Array Value) (fz:Nat × Nat),w.heap[g]? = some (Obj.cells cur 47 fz),h.wider (fun x hx=>.inl hx) (fun p hp g e hc=>?_) (fun g hg=>?_),attrs_of_row hu,fun a m c e hne=>.inr ?_⟩
 ·rcases hc with hc | ⟨cur,fz,hh⟩
  ·exact (h.kids p hp).out g e hc
  ·obtain ⟨cur2,T2,fz2,h2,h3⟩:=own_ty (h.kids p hp).row e;rw [hh] at h2;injection h2 with h2;injection h2 with _ h2;rw [<- h2] at h3;exact absurd h3 (by decide)
 ·rcases hg with hg | ⟨cur,fz,hh⟩
  ·exact h.typ g hg
  ·refine ⟨lt_of_block hh,fun cur2 T2 fz2 h2=>.inr ?_⟩;rw [hh] at h2;injection h2 with h2;injection h2 with _ h2;exact h2.symm
 ·rcases hu.2 with ⟨e0,_⟩ | ⟨g,cap,cur,e0,_,hh,_⟩
  ·rw [e0] at e;cases e
  ·rw [e0] at e;injection e with e _ _;injection e with e;subst e;exact ⟨cur,_,hh⟩
theorem info_part:(Tryz.prog.info? 77).map (fun i=>(i.zero,i.size,i.bytes)) = some (some (.agg #[.string ByteArray.empty,.slice none 0 0,.string ByteArray.empty,.slice none 0 0,.slice none 0 0]),5,104):=by kernel_rfl
theorem step_part {ops:Array Oper} {o:Oper} {a:Act} {w:World} {K:Act -> World -> Prop} {Q:Exit -> Act -> World -> Prop} {E:Prop} (hgd:o.guard = none) (s x:Operand)
  (ho:o.op = .call { callee:=.builtin .append,args:=#[s,x],argTypes:=#[65,65] })
  (B:Nat) (v:Value) (st:List PartV) (hs:a.eval s = v) (hb:w.ownsRow B 77 5 v st.length (partVals st.reverse)) (hB:B <= w.heap.size) (ad:Addr) (nm:List UInt8) (ats:List AtL) (A:Option Addr) (c m:Nat)
  (hx:a.eval x = .slice (some ad) 1 1) (h0:w.cell? (ad.add 0) = some (.string (str nm))) (h1:w.cell? (ad.add 1) = some (.slice A m c)) (h2:w.cell? (ad.add 2) = some (.string ⟨#[]⟩)) (h3:w.cell? (ad.add 3) = some (.slice none 0 0)) (h4:w.cell? (ad.add 4) = some (.slice none 0 0))
  (hlen:st.length + 1 <= 1073741824)
  (h:∀ v' w',w'.ownsRow B 77 5 v' (st.length + 1) (partVals st.reverse ++ partVals [⟨nm,ats,.slice A m c,[],.slice none 0 0,[],.slice none 0 0⟩]) -> w.grownBy w' v.ownBlock -> K (a.put o.dst v') w') :
  if Region.wanted o (yielded ops a.tmps) = true then Oper.wp Tryz.prog o a w K Q else E:=by
 have hw:Region.wanted o (yielded ops a.tmps) = true:=by simp [Region.wanted,hgd]
 rw [if_pos hw];obtain ⟨i0,hi,hz0,hz1,hz2⟩:=info_parts info_part;refine wp_append_own _ s x 65 ho B 77 i0 _ 5 104 Tryz.underlying65 hi hz0 hz1 hz2 rfl (by decide) v st.length (partVals st.reverse) hs hb ad 1 1 (partVals [⟨nm,ats,.slice A m c,[],.slice none 0 0,[],.slice none 0 0⟩]) hx rfl ?_ ?_ (by unfold maxLen;omega) (by omega) hB ?_
 ·intro j u hj
  match j,hj with
  | 0,hj=>simp [partVals] at hj;subst hj;exact h0
  | 1,hj=>simp [partVals] at hj;subst hj;exact h1
  | 2,hj=>simp [partVals] at hj;subst hj;exact h2
  | 3,hj=>simp [partVals] at hj;subst hj;exact h3
  | 4,hj=>simp [partVals] at hj;subst hj;exact h4
  | (j + 5),hj=>simp [partVals] at hj
 ·intro u hu;simp [partVals] at hu;rcases hu with rfl | rfl | rfl | rfl | rfl <;> rfl
 ·intro v' w' ho' hg _;exact h v' w' ho' hg
theorem part_row (W:World) (c0 c1 c2 c3 c4:Value):(W.alloc (.cells #[c0,c1,c2,c3,c4] 77)).cell? ((⟨W.heap.size,0,none⟩:Addr).add 0) = some c0 /\ (W.alloc (.cells #[c0,c1,c2,c3,c4] 77)).cell? ((⟨W.heap.size,0,none⟩:Addr).add 1) = some c1 /\ (W.alloc (.cells #[c0,c1,c2,c3,c4] 77)).cell? ((⟨W.heap.size,0,none⟩:Addr).add 2) = some c2 /\ (W.alloc (.cells #[c0,c1,c2,c3,c4] 77)).cell? ((⟨W.heap.size,0,none⟩:Addr).add 3) = some c3 /\ (W.alloc (.cells #[c0,c1,c2,c3,c4] 77)).cell? ((⟨W.heap.size,0,none⟩:Addr).add 4) = some c4:=by
 have h:(W.alloc (.cells #[c0,c1,c2,c3,c4] 77)).heap[W.heap.size]? = some (.cells #[c0,c1,c2,c3,c4] 77 (0,0)):=by
  show (W.heap.push _)[W.heap.size]? = _
  exact Array.getElem?_push_size
 exact ⟨by rw [Addr.add_lit,Lib.cell_of_heap h];rfl,by rw [Addr.add_lit,Lib.cell_of_heap h];rfl,by rw [Addr.add_lit,Lib.cell_of_heap h];rfl,by rw [Addr.add_lit,Lib.cell_of_heap h];rfl,by rw [Addr.add_lit,Lib.cell_of_heap h];rfl⟩
def ClosedS (B b n:Nat) (is:List UInt8 -> Bool) (F:List PartL) (W1 wr:World) (st:List PartV):Prop :=
  (∃ C r,BS C B b r st n W1 wr) /\ closeAll is (toLs st).length (toLs st) = F /\ stW (toLs st) <= 5000 /\ (∀ p ∈ st,p.tail.length <= 70368744177664) /\ st.length <= 1000000 /\ st ≠ []
def StartP (B b:Nat) (t:TokL) (F:List PartL) (n:Nat) (W0 w':World):Prop :=
  ∃ C r st',BS C B b r st' (if n = 5000 then n else n + 1) W0 w' /\ toLs st' = (if n = 5000 then F else (putP t F n).1) /\ ∀ p ∈ st',p.tail.length <= 70368744177664
theorem start14_any (C : Nat → Prop) (B B' b : Nat) (r : Value) (st : List PartV) (n : Nat) (W0 w : World) (t : TokL) (u : Value) (h : BS C B b r st n W0 w) (hs : st ≠ []) (hw : stW (toLs st) ≤ 5000) (hn : n ≤ 5000) (htl : ∀ p ∈ st, p.tail.length ≤ 70368744177664) (hl : st.length ≤ 1000000) (hu : w.ownsRow B' 47 2 u t.attrs.length (atVals t.attrs)) :
    Calls Tryz.prog 33 #[.pointer (some ⟨b, 0, none⟩), tokV t u] w fun e w' => e = .returned (.tuple #[]) ∧ StartP B b t (closeAll (closesB t.name) (toLs st).length (toLs st)) n W0 w' := by
  obtain ⟨A, c, rfl⟩ : ∃ A c, u = .slice A t.attrs.length c := by
    rcases hu.2 with ⟨rfl, h0⟩ | ⟨g, cap, cur, rfl, _⟩
    · rw [h0]; exact ⟨_, _, rfl⟩
    · exact ⟨_, _, rfl⟩
  obtain ⟨F, hF⟩ : ∃ F, F = closeAll (closesB t.name) (toLs st).length (toLs st) := ⟨_, rfl⟩
  rw [← hF]
  obtain ⟨W1, hW1⟩ : ∃ W1, W1 = w.alloc (.cells #[.int .i64 (t.kind : Int), .string (str t.name), .slice A t.attrs.length c, .string (str t.text)] 71) := ⟨_, rfl⟩
  have hb1 : Below w.heap.size w W1 := by rw [hW1]; exact below_one _ _
  have hbx : W1.heap[w.heap.size]? = some (Obj.cells #[.int .i64 (t.kind : Int), .string (str t.name), .slice A t.attrs.length c, .string (str t.text)] 71 (0, 0)) := by rw [hW1]; exact heap_alloc_new w _
  have hB1 : BS C B b r st n W1 W1 := (h.kept hb1).from
  have HON : Hid (∀ C' r' st' n' w', BS C' B b r' st' n' W1 w' → BS C' B b r' st' n' W0 w') := hide fun C' r' st' n' w' h' => h'.onto ((h.kept hb1).below) ((h.kept hb1).since)
  have HU : Hid (W1.ownsRow B' 47 2 (.slice A t.attrs.length c) t.attrs.length (atVals t.attrs)) := hide (hu.kept (grown_none hb1) (by cases hv : Value.ownBlock (.slice A t.attrs.length c) <;> simp))
  have HBX : Hid (∀ w', Since4 W1 w' → w'.heap[w.heap.size]? = some (Obj.cells #[.int .i64 (t.kind : Int), .string (str t.name), .slice A t.attrs.length c, .string (str t.text)] 71 (0, 0))) := hide fun w' hs => (hs _ _ _ _ hbx (by decide)).trans hbx
  have HS : Hid (ClosedS B b n (closesB t.name) F W1 W1 st) := hide ⟨⟨C, r, hB1⟩, hF.symm, hw, htl, hl, hs⟩
  have HASK := hide (ask_start w.heap.size (str t.name))
  have HN := hide hn
  obtain ⟨nm, hnm⟩ : ∃ nm, nm = str t.name := ⟨_, rfl⟩
  have hnl : nm.data.toList = t.name := by rw [hnm, str_toList]
  have hmf : ∀ (fn : Fn) (first cap : Array Value) (w : World), (Instr.makeFunc fn first cap).run Tryz.prog w = .ok (.func fn first cap) w := fun _ _ _ _ => rfl
  have HNM := hide hnm
  have HW1 := hide hW1
  rw [← hnm] at HASK HBX
  unfold AskAt at HASK
  rw [hnl] at HASK
  have HK := hide (enters_of Tryz.func54 (by kernel_rfl) rfl)
  clear h hs hw hn htl hl hu hF hb1 hbx hB1 hnl
  unfold tokV
  rw [← hnm]
  rw [← hnm] at hW1
  clear hnm
  go_enter Tryz.func33, Tryz.ntmps33
  go_wp2_with fail
  rw [← hW1]
  clear hW1
  go_loopg [] st.length (fun gk wr => ∃ st' : List PartV, st'.length ≤ gk ∧ Hid (ClosedS B b n (closesB t.name) F W1 wr st'))
  case atStart => exact ⟨st, Nat.le_refl _, HS.out⟩
  case round =>
    obtain ⟨st', hlen, HR⟩ := hrel
    obtain ⟨⟨C1, r1, hb⟩, h1, h2, h3, h4, h5⟩ := HR.out
    have hbx := HBX.out wr hb.since
    have hcl := close_gen 54 w.heap.size nm (closesB t.name) HK.out HASK.out C1 B b r1 st' n W1 wr hb h5 h2 h3 h4 (by rw [Lib.cell_of_heap hbx]; rfl)
    cases hf : findP (closesB t.name) (toLs st') with
    | some k =>
      rw [hf] at hcl
      have HCL := hide hcl
      obtain ⟨k1, k2⟩ := findP_lt hf
      rw [toLs_length] at k2
      have hcs := closeAll_step hf
      have hcn := closeN_length k (toLs st') (by rw [toLs_length]; exact k2)
      have HP : Hid (∀ st2 : List PartV, toLs st2 = closeB (closesB t.name) (toLs st') → st2.length < st'.length ∧ closeAll (closesB t.name) (toLs st2).length (toLs st2) = F ∧ stW (toLs st2) ≤ 5000 ∧ st2.length ≤ 1000000 ∧ st2 ≠ []) := hide fun st2 he => by
        unfold closeB at he
        rw [hf] at he
        simp only at he
        have hl2 : st2.length = st'.length - k := by rw [← toLs_length, he, hcn, toLs_length]
        refine ⟨by omega, by rw [he, ← hcs]; exact h1, by rw [he, closeN_wt]; exact h2, by omega, fun e => by rw [e] at hl2; simp only [List.length_nil] at hl2; omega⟩
      clear hb hbx hcl hf k1 k2 hcs hcn h1 h2 h3 h4 h5
      go_wp2_with fail
      refine HCL.out.mono ?_
      rintro e w2 ⟨rfl, st2, hb2, he2, ht2⟩
      have HB2 := hide hb2
      have HE2 := hide (HP.out st2 he2)
      have HT2 := hide ht2
      clear hb2 he2 ht2
      go_wp2_with fail
      cases gk with
      | zero => exact absurd hlen (by have := HE2.out.1; omega)
      | succ gk =>
      go_roundg gk
      case rel => exact ⟨st2, by have := HE2.out.1; omega, hide ⟨HB2.out, HE2.out.2.1, HE2.out.2.2.1, HT2.out, HE2.out.2.2.2.1, HE2.out.2.2.2.2⟩⟩
      case measure => omega
    | none =>
      rw [hf] at hcl
      have HCL := hide hcl
      have HP : Hid (∀ st2 : List PartV, toLs st2 = closeB (closesB t.name) (toLs st') → toLs st2 = F ∧ stW (toLs st2) ≤ 5000 ∧ st2.length ≤ 1000000 ∧ st2 ≠ []) := hide fun st2 he => by
        unfold closeB at he
        rw [hf] at he
        simp only at he
        have hl2 : st2.length = st'.length := by rw [← toLs_length, he, toLs_length]
        refine ⟨by rw [he, ← h1, closeAll_none hf], by rw [he]; exact h2, by omega, fun e => by rw [e] at hl2; simp only [List.length_nil] at hl2; exact h5 (List.eq_nil_of_length_eq_zero hl2.symm)⟩
      clear hb hbx hcl hf h1 h2 h3 h4 h5
      go_wp2_with fail
      refine HCL.out.mono ?_
      rintro e w2 ⟨rfl, st2, ⟨C2, r2, hb2⟩, he2, ht2⟩
      have HE2 := hide (HP.out st2 he2)
      have HT2 := hide ht2
      obtain ⟨g, cap, rfl, i1, i2, i3, i4⟩ := hb2.form HE2.out.2.2.2
      have HB2 := hide hb2
      have HC2 := hide (And.intro i1 i2)
      clear hb2 he2 ht2 HP HCL HR hlen i1 i2 i3 i4
      by_cases hn5 : n = 5000
      · have HR2 : Hid (StartP B b t F n W0 w2) := hide ⟨C2, _, st2, by rw [if_pos hn5]; exact HON.out _ _ _ _ _ HB2.out, by rw [if_pos hn5]; exact HE2.out.1, HT2.out⟩
        have HT := hide (take_no C2 B b _ st2 W1 w2 (by have := HB2.out; rw [hn5] at this; exact this))
        clear hn5
        go_wp2_with fail
        refine HT.out.mono ?_
        rintro e w3 ⟨rfl, rfl⟩
        go_wp2_with fail
        try simp only [Exit.inBlock, Exit.then]
        refine bodyPost_ret (results_none rfl _ _ _) rfl ?_
        exact ⟨rfl, HR2.out⟩
      · match st2, HB2, HE2, HT2, HC2 with
        | [], _, HE2, _, _ => exact absurd rfl HE2.out.2.2.2
        | p :: rest, HB2, HE2, HT2, HC2 =>
        have hb2 : BS C2 B b (.slice (some ⟨g, 0, none⟩) (rest.length + 1) cap) (p :: rest) n W1 w2 := HB2.out
        have hn5' : n < 5000 := by have := HN.out; omega
        have hrl : rest.length ≤ 1000000 := by have := HE2.out.2.2.1; simp only [List.length_cons] at this; omega
        have HT := hide (take_yes C2 B b _ (p :: rest) n W1 w2 hb2 hn5')
        have HRL := hide hrl
        have HN5 := hide hn5
        clear hb2 hn5 hn5' hrl
        go_wp2_with fail
        refine HT.out.mono ?_
        rintro e w3 ⟨rfl, hb3⟩
        have HI := hide (inner_at C2 B b g cap p rest (n + 1) W1 w3 hb3 HRL.out)
        clear hb3
        go_wp2_with fail
        refine HI.out.mono ?_
        rintro e w4 ⟨rfl, hb4⟩
        have HEX := hide (endTextT_any C2 B b g cap p rest (n + 1) W1 w4 hb4 (by have := HRL.out; omega) (by have := kids_le (p := p) (List.mem_cons_self ..) HE2.out.2.1; omega) (HT2.out p (List.mem_cons_self ..)))
        clear hb4
        go_wp2_with fail
        refine HEX.out.mono ?_
        rintro e w5 ⟨rfl, p', hb5, hp'⟩
        obtain ⟨C3, hb6, ha6⟩ := hb5.withAttrs (attrs_since hb5.since HU.out)
        have hbx := HBX.out w5 hb5.since
        have bx1 : w5.cell? ⟨w.heap.size, 1, none⟩ = some (.string nm) := by rw [Lib.cell_of_heap hbx]; rfl
        have bx2 : w5.cell? ⟨w.heap.size, 2, none⟩ = some (.slice A t.attrs.length c) := by rw [Lib.cell_of_heap hbx]; rfl
        have hk6 := below_one w5 (Obj.cells #[.string nm, .slice A t.attrs.length c, .string ⟨#[]⟩, .slice none 0 0] 36)
        have HB6 := hide (hb6.kept hk6)
        have HA6 := hide (ha6.mono (C' := C3) (fun k hk => hk6.block k (hb6.typ k hk).1) (fun _ x => x))
        have HP := hide hp'
        have hbe := node_row w5 (.string nm) (.slice A t.attrs.length c) (.string ⟨#[]⟩) (.slice none 0 0)
        rw [Addr.add_zero', Addr.add_lit, Addr.add_lit, Addr.add_lit, Nat.zero_add, Nat.zero_add, Nat.zero_add] at hbe
        have HBE := hide hbe
        have HBXC : Hid ((w5.alloc (Obj.cells #[.string nm, .slice A t.attrs.length c, .string ⟨#[]⟩, .slice none 0 0] 36)).cell? ⟨w.heap.size, 1, none⟩ = some (.string nm)) := hide ((hk6.cell (World.block_lt_of_cell? _ _ bx1)).trans bx1)
        have bx1a := HBXC.out
        clear hb5 hb6 ha6 hbx hk6 hp' hbe
        go_wp2_with fail
        clear bx1a
        generalize (w5.alloc (Obj.cells #[.string nm, .slice A t.attrs.length c, .string ⟨#[]⟩, .slice none 0 0] 36)) = W6 at HB6 HA6 HBE HBXC ⊢
        have hpl : p'.kids.length ≤ 5001 := by
          have h1 := kids_le (p := p) (List.mem_cons_self ..) HE2.out.2.1
          have h2 := congrArg (fun z : PartL => z.kids.length) HP.out
          unfold endTextL at h2
          split at h2
          · simp only [PartV.toL, List.length_map] at h2; omega
          · simp only [PartV.toL, List.length_map, List.length_append, List.length_cons, List.length_nil] at h2; omega
        have HPL := hide hpl
        have htp : p'.tail = [] := by
          have h2 := congrArg (fun z : PartL => z.tail) HP.out
          simp only [endText_tail] at h2
          exact h2
        have HTP : Hid (p'.tail.length ≤ 70368744177664) := hide (by rw [htp]; exact Nat.zero_le _)
        have HQT : Hid (∀ x ∈ p' :: rest, x.tail = []) := hide (fun x hx => by
          rcases List.mem_cons.1 hx with rfl | hx
          · exact htp
          · exact HB6.out.quiet x hx)
        have hv := fun w => void14_any nm w
        rw [show nm.data.toList = t.name by rw [HNM.out, str_toList]] at hv
        clear hpl htp bx1 bx2
        cases hvb : voidL.contains t.name with
        | true =>
          rw [hvb] at hv
          have HV := hide hv
          have HCD : Hid (voidB t.name = true ∨ 30 < (p.toL :: toLs rest).length) := hide (.inl hvb)
          clear hv hvb
          refine (HV.out _).mono ?_
          rintro e w8 ⟨rfl, rfl⟩
          have hb7 := HB6.out
          obtain ⟨QA, QC, hqv⟩ := (hb7.kids p' (List.mem_cons_self ..)).form
          obtain ⟨z0, z1, z2, z3, z4, zf⟩ := hb7.cells
          rw [hqv] at z3
          have HQV := hide hqv
          obtain ⟨y0, y1, y2, y3⟩ := HBE.out
          clear hb7 hqv z0 z1 z2 z4
          have HOWN : Hid (∀ W, Below W6.heap.size W6 W → W.ownsRow B 36 4 (.slice QA p'.kids.length QC) p'.kids.length (nodeVals p'.kids)) := hide fun W hW => by
            have := ((HB6.out.kept hW).kids p' (List.mem_cons_self ..)).row
            rw [HQV.out] at this; exact this
          have z3a : ∀ ob, (W6.alloc ob).cell? ⟨g, rest.length * 5 + 3, none⟩ = some (.slice QA p'.kids.length QC) := fun ob => ((below_one W6 ob).cell (World.block_lt_of_cell? _ _ z3)).trans z3
          have y0a : ∀ ob, (W6.alloc ob).cell? ⟨w5.heap.size, 0, none⟩ = some (.string nm) := fun ob => ((below_one W6 ob).cell (World.block_lt_of_cell? _ _ y0)).trans y0
          have y1a : ∀ ob, (W6.alloc ob).cell? ⟨w5.heap.size, 1, none⟩ = some (.slice A t.attrs.length c) := fun ob => ((below_one W6 ob).cell (World.block_lt_of_cell? _ _ y1)).trans y1
          have y2a : ∀ ob, (W6.alloc ob).cell? ⟨w5.heap.size, 2, none⟩ = some (.string ⟨#[]⟩) := fun ob => ((below_one W6 ob).cell (World.block_lt_of_cell? _ _ y2)).trans y2
          have y3a : ∀ ob, (W6.alloc ob).cell? ⟨w5.heap.size, 3, none⟩ = some (.slice none 0 0) := fun ob => ((below_one W6 ob).cell (World.block_lt_of_cell? _ _ y3)).trans y3
          have tn5 : ((p'.kids.length : Nat) : Int) < (p'.kids.length : Int) + 1 := by omega
          go_wp2_with fail
          go_region_law (first
            | (refine step_node0 rfl _ _ rfl B (.slice QA p'.kids.length QC) p'.kids rfl (HOWN.out _ ?_) ?_ ⟨W6.heap.size, 0, none⟩ rfl (node_row _ _ _ _ _).1 (node_row _ _ _ _ _).2.1 (node_row _ _ _ _ _).2.2.1 (node_row _ _ _ _ _).2.2.2 (by have := HPL.out; omega) ?_
               · exact ((Below.refl _ _).alloc (Nat.le_refl _) _).drew
               · exact Nat.le_trans HB6.out.size (((Below.refl W6.heap.size W6).alloc (Nat.le_refl _) _).drew).size
               intro g' cap' w7 ho2 hg2 hor2 hc2 hm2
               have hk1 : Below W6.heap.size W6 (W6.alloc (.cells #[.string ⟨#[]⟩, .slice none 0 0, .string ⟨#[]⟩, .slice none 0 0] 36)).drew := ((Below.refl W6.heap.size W6).alloc (Nat.le_refl _) _).drew
               have HB1 := hide (HB6.out.kept hk1)
               have HA7 := hide (HA6.out.mono (C' := C3) (fun k hk => hk1.block k (HB6.out.typ k hk).1) (fun _ x => x))
               have hg3 := hg2
               rw [← HQV.out] at hg3 hor2
               obtain ⟨n1, n2, ⟨n3, n4, n5, n6⟩, n7, n8⟩ := app_facts HB1.out ho2 hg3 hor2
               have n9 : w7.cell? ⟨g, rest.length * 5 + 3, none⟩ = some (.slice QA p'.kids.length QC) := (n8 _).trans (z3a _)
               have n11 : ¬ (g = g') := fun e => n1 e.symm
               have HO2 := hide ho2
               have HG2 := hide hg3
               have HOR := hide hor2
               clear ho2 hg2 hg3 hor2 hc2 hm2 n8 hk1))
          all_goals
            first | rw [kid_comm w7 n11] | skip
            have hb8 := HB1.out.kidWritten (q := ((⟨t.name, t.attrs, []⟩, .nil), (.slice A t.attrs.length c, .slice none 0 0))) HO2.out HG2.out HOR.out ⟨HA7.out, .inl ⟨rfl, rfl⟩⟩
            simp only at hb8
            rw [← HNM.out] at hb8
            have HB8 := hide hb8
            clear hb8
            go_wp2_with fail
            try simp only [Exit.inBlock, Exit.then]
            refine bodyPost_ret (results_none rfl _ _ _) rfl ?_
            refine ⟨rfl, C3, _, _, by rw [if_neg HN5.out]; exact HON.out _ _ _ _ _ HB8.out, ?_, ?_⟩
            · rw [if_neg HN5.out, ← HE2.out.1]
              show _ = (putP t (p.toL :: toLs rest) n).1
              rw [putP_cons, if_pos HCD.out, ← HP.out]
              simp [toLs, PartV.toL]
            · intro x hx
              rcases List.mem_cons.1 hx with rfl | hx
              · exact HTP.out
              · exact HT2.out x (List.mem_cons_of_mem _ hx)
        | false =>
          rw [hvb] at hv
          have HV := hide hv
          by_cases hd : 30 < rest.length + 1
          · have HCD : Hid (voidB t.name = true ∨ 30 < (p.toL :: toLs rest).length) := hide (.inr (by rw [List.length_cons, toLs_length]; exact hd))
            have d0 : decide ((30 : Int) < (rest.length : Int) + 1) = true := decide_eq_true (by omega)
            have cc0 := HB6.out.c0
            clear hv hvb hd
            refine (HV.out _).mono ?_
            rintro e w8 ⟨rfl, rfl⟩
            have hb7 := HB6.out
            obtain ⟨QA, QC, hqv⟩ := (hb7.kids p' (List.mem_cons_self ..)).form
            obtain ⟨z0, z1, z2, z3, z4, zf⟩ := hb7.cells
            rw [hqv] at z3
            have HQV := hide hqv
            obtain ⟨y0, y1, y2, y3⟩ := HBE.out
            clear hb7 hqv z0 z1 z2 z4
            have HOWN : Hid (∀ W, Below W6.heap.size W6 W → W.ownsRow B 36 4 (.slice QA p'.kids.length QC) p'.kids.length (nodeVals p'.kids)) := hide fun W hW => by
              have := ((HB6.out.kept hW).kids p' (List.mem_cons_self ..)).row
              rw [HQV.out] at this; exact this
            have z3a : ∀ ob, (W6.alloc ob).cell? ⟨g, rest.length * 5 + 3, none⟩ = some (.slice QA p'.kids.length QC) := fun ob => ((below_one W6 ob).cell (World.block_lt_of_cell? _ _ z3)).trans z3
            have y0a : ∀ ob, (W6.alloc ob).cell? ⟨w5.heap.size, 0, none⟩ = some (.string nm) := fun ob => ((below_one W6 ob).cell (World.block_lt_of_cell? _ _ y0)).trans y0
            have y1a : ∀ ob, (W6.alloc ob).cell? ⟨w5.heap.size, 1, none⟩ = some (.slice A t.attrs.length c) := fun ob => ((below_one W6 ob).cell (World.block_lt_of_cell? _ _ y1)).trans y1
            have y2a : ∀ ob, (W6.alloc ob).cell? ⟨w5.heap.size, 2, none⟩ = some (.string ⟨#[]⟩) := fun ob => ((below_one W6 ob).cell (World.block_lt_of_cell? _ _ y2)).trans y2
            have y3a : ∀ ob, (W6.alloc ob).cell? ⟨w5.heap.size, 3, none⟩ = some (.slice none 0 0) := fun ob => ((below_one W6 ob).cell (World.block_lt_of_cell? _ _ y3)).trans y3
            have tn5 : ((p'.kids.length : Nat) : Int) < (p'.kids.length : Int) + 1 := by omega
            go_wp2_with fail
            clear cc0
            go_region_law (first
              | (refine step_node0 rfl _ _ rfl B (.slice QA p'.kids.length QC) p'.kids rfl (HOWN.out _ ?_) ?_ ⟨W6.heap.size, 0, none⟩ rfl (node_row _ _ _ _ _).1 (node_row _ _ _ _ _).2.1 (node_row _ _ _ _ _).2.2.1 (node_row _ _ _ _ _).2.2.2 (by have := HPL.out; omega) ?_
                 · exact ((Below.refl _ _).alloc (Nat.le_refl _) _).drew
                 · exact Nat.le_trans HB6.out.size (((Below.refl W6.heap.size W6).alloc (Nat.le_refl _) _).drew).size
                 intro g' cap' w7 ho2 hg2 hor2 hc2 hm2
                 have hk1 : Below W6.heap.size W6 (W6.alloc (.cells #[.string ⟨#[]⟩, .slice none 0 0, .string ⟨#[]⟩, .slice none 0 0] 36)).drew := ((Below.refl W6.heap.size W6).alloc (Nat.le_refl _) _).drew
                 have HB1 := hide (HB6.out.kept hk1)
                 have HA7 := hide (HA6.out.mono (C' := C3) (fun k hk => hk1.block k (HB6.out.typ k hk).1) (fun _ x => x))
                 have hg3 := hg2
                 rw [← HQV.out] at hg3 hor2
                 obtain ⟨n1, n2, ⟨n3, n4, n5, n6⟩, n7, n8⟩ := app_facts HB1.out ho2 hg3 hor2
                 have n9 : w7.cell? ⟨g, rest.length * 5 + 3, none⟩ = some (.slice QA p'.kids.length QC) := (n8 _).trans (z3a _)
                 have n11 : ¬ (g = g') := fun e => n1 e.symm
                 have HO2 := hide ho2
                 have HG2 := hide hg3
                 have HOR := hide hor2
                 clear ho2 hg2 hg3 hor2 hc2 hm2 n8 hk1))
            all_goals
              first | rw [kid_comm w7 n11] | skip
              have hb8 := HB1.out.kidWritten (q := ((⟨t.name, t.attrs, []⟩, .nil), (.slice A t.attrs.length c, .slice none 0 0))) HO2.out HG2.out HOR.out ⟨HA7.out, .inl ⟨rfl, rfl⟩⟩
              simp only at hb8
              rw [← HNM.out] at hb8
              have HB8 := hide hb8
              clear hb8
              go_wp2_with fail
              try simp only [Exit.inBlock, Exit.then]
              refine bodyPost_ret (results_none rfl _ _ _) rfl ?_
              refine ⟨rfl, C3, _, _, by rw [if_neg HN5.out]; exact HON.out _ _ _ _ _ HB8.out, ?_, ?_⟩
              · rw [if_neg HN5.out, ← HE2.out.1]
                show _ = (putP t (p.toL :: toLs rest) n).1
                rw [putP_cons, if_pos HCD.out, ← HP.out]
                simp [toLs, PartV.toL]
              · intro x hx
                rcases List.mem_cons.1 hx with rfl | hx
                · exact HTP.out
                · exact HT2.out x (List.mem_cons_of_mem _ hx)
          · have HCD : Hid (¬ (voidB t.name = true ∨ 30 < (p.toL :: toLs rest).length)) := hide (by
              rw [List.length_cons, toLs_length]
              exact fun e => e.elim (fun e => by rw [show voidB t.name = false from hvb] at e; cases e) hd)
            have d0 : decide ((30 : Int) < (rest.length : Int) + 1) = false := decide_eq_false (by omega)
            have cc0 := HB6.out.c0
            clear hv hvb hd
            refine (HV.out _).mono ?_
            rintro e w8 ⟨rfl, rfl⟩
            have hb7 := HB6.out
            have c0 := hb7.c0
            have f0 := hb7.free 0
            have c0a : ∀ ob, (W6.alloc ob).cell? ⟨b, 0, none⟩ = some (.slice (some ⟨g, 0, none⟩) (rest.length + 1) cap) := fun ob => ((below_one W6 ob).cell (World.block_lt_of_cell? _ _ c0)).trans c0
            obtain ⟨y0, y1, y2, y3⟩ := HBE.out
            clear hb7
            have HOWN : Hid (∀ W, Below W6.heap.size W6 W → W.ownsRow B 77 5 (.slice (some ⟨g, 0, none⟩) (rest.length + 1) cap) (p' :: rest).length (partVals (p' :: rest).reverse)) := hide fun W hW => (HB6.out.kept hW).row
            have y0a : ∀ ob, (W6.alloc ob).cell? ⟨w5.heap.size, 0, none⟩ = some (.string nm) := fun ob => ((below_one W6 ob).cell (World.block_lt_of_cell? _ _ y0)).trans y0
            have y1a : ∀ ob, (W6.alloc ob).cell? ⟨w5.heap.size, 1, none⟩ = some (.slice A t.attrs.length c) := fun ob => ((below_one W6 ob).cell (World.block_lt_of_cell? _ _ y1)).trans y1
            have y2a : ∀ ob, (W6.alloc ob).cell? ⟨w5.heap.size, 2, none⟩ = some (.string ⟨#[]⟩) := fun ob => ((below_one W6 ob).cell (World.block_lt_of_cell? _ _ y2)).trans y2
            have y3a : ∀ ob, (W6.alloc ob).cell? ⟨w5.heap.size, 3, none⟩ = some (.slice none 0 0) := fun ob => ((below_one W6 ob).cell (World.block_lt_of_cell? _ _ y3)).trans y3
            go_wp2_with fail
            go_region_law (first
              | (refine step_part rfl _ _ rfl B (.slice (some ⟨g, 0, none⟩) (rest.length + 1) cap) (p' :: rest) rfl (HOWN.out _ ?_) ?_ ⟨W6.heap.size, 0, none⟩ t.name t.attrs A c t.attrs.length rfl ((part_row _ _ _ _ _ _).1.trans (by rw [HNM.out])) (part_row _ _ _ _ _ _).2.1 (part_row _ _ _ _ _ _).2.2.1 (part_row _ _ _ _ _ _).2.2.2.1 (part_row _ _ _ _ _ _).2.2.2.2 (by have := HRL.out; simp only [List.length_cons]; omega) ?_
                 · exact ((Below.refl _ _).alloc (Nat.le_refl _) _).drew
                 · exact Nat.le_trans HB6.out.size (((Below.refl W6.heap.size W6).alloc (Nat.le_refl _) _).drew).size
                 intro v' w7 ho2 hg2
                 obtain ⟨ao, n', c', rfl⟩ : ∃ ao n' c', v' = .slice ao n' c' := by
                   rcases ho2.2 with ⟨hv, _⟩ | ⟨g0, c0, cur, hv, _⟩
                   · exact ⟨_, _, _, hv⟩
                   · exact ⟨_, _, _, hv⟩
                 have hk1 : Below W6.heap.size W6 (W6.alloc (.cells #[.string nm, .slice A t.attrs.length c, .string ⟨#[]⟩, .slice none 0 0, .slice none 0 0] 77)).drew := ((Below.refl W6.heap.size W6).alloc (Nat.le_refl _) _).drew
                 have HB1 := hide (HB6.out.kept hk1)
                 have HA7 := hide (HA6.out.mono (C' := C3) (fun k hk => hk1.block k (HB6.out.typ k hk).1) (fun _ x => x))
                 have hbb := HB1.out.blk
                 have hbg : w7.heap[b]? = _ := (hg2.block b (lt_of_block hbb) (fun e => (ownsRow_other HB1.out.row (r := b) (fun cur hx => HB1.out.out.2 cur _ (by decide) hx)) e.symm)).trans hbb
                 have n9 : w7.cell? ⟨b, 0, none⟩ = some (.slice (some ⟨g, 0, none⟩) (rest.length + 1) cap) := by rw [Lib.cell_of_heap hbg]; rfl
                 have n10 : w7.frozen? ⟨b, 0, none⟩ = false := Lib.frozen_of_heap hbg 0
                 have HO2 := hide ho2
                 have HG2 := hide hg2
                 clear ho2 hg2 hk1 hbb hbg))
            all_goals
              have hb8 := HB1.out.pushPart t.name t.attrs (.slice A t.attrs.length c) HA7.out HQT.out HO2.out HG2.out
              have HB8 := hide hb8
              clear hb8
              go_wp2_with fail
              go_end0
              refine ⟨rfl, C3, _, _, by rw [if_neg HN5.out]; exact HON.out _ _ _ _ _ HB8.out, ?_, ?_⟩
              · rw [if_neg HN5.out, ← HE2.out.1]
                show _ = (putP t (p.toL :: toLs rest) n).1
                rw [putP_cons, if_neg HCD.out, ← HP.out]
                simp [toLs, PartV.toL]
              · intro x hx
                rcases List.mem_cons.1 hx with rfl | hx
                · exact Nat.zero_le _
                · rcases List.mem_cons.1 hx with rfl | hx
                  · exact HTP.out
                  · exact HT2.out x (List.mem_cons_of_mem _ hx)
theorem lowC_two (c:UInt8):lowC (lowC c) = lowC c:=u8_all (p:=fun c=>lowC (lowC c) = lowC c) (by decide +kernel) c
theorem lowL_two (l:List UInt8):lowL (lowL l) = lowL l:=by
 unfold lowL;rw [List.map_map];exact List.map_congr_left fun c _=>lowC_two c
def FormA (A:List AtL):Prop:=A.length <= 30 /\ A.Pairwise (fun a b=>a.1 ≠ b.1)
theorem formA_add {A:List AtL} {a:AtL} (h:FormA A):FormA (if countsB A a.1 = true then A ++ [a] else A):=by
 split
 ·rename_i hc;unfold countsB at hc;rw [Bool.and_eq_true,decide_eq_true_eq,Bool.not_eq_true',List.any_eq_false] at hc;refine ⟨by rw [List.length_append];simp;omega,?_⟩;rw [List.pairwise_append];refine ⟨h.2,List.pairwise_singleton _ _,fun x hx y hy=>?_⟩;obtain rfl:=List.mem_singleton.1 hy;have:=hc.2 x hx
  simpa using this
 ·exact h
theorem tag_form {dec:List UInt8 -> List UInt8} {l n b:List UInt8} {A:List AtL} (h:tagL dec l = some (n,A,b)):FormA A /\ lowL n = n:=by
 unfold tagL at h;cases ha:attrsLL dec [] (upL nameEndB l).2 with
 | none=>rw [ha] at h;cases h
 | some p =>
  obtain ⟨B,x⟩:=p;rw [ha] at h;injection h with h;injection h with h1 h;injection h with h2 _;obtain ⟨_,h3,_⟩:=attrsLL_ind dec (P:=fun A _=>FormA A) (fun A l c r _ _ hA=>formA_add hA) _ [] _ (Nat.le_refl _) ⟨by simp,List.Pairwise.nil⟩ B x ha;rw [<- h1,<- h2];exact ⟨h3,lowL_two _⟩
def FormT (t:TokL):Prop:=(t.kind = 1 -> t.text ≠ []) /\ lowL t.name = t.name /\ t.attrs.length <= 30 /\ (t.kind ≠ 2 -> t.attrs = []) /\ t.attrs.Pairwise (fun a b=>a.1 ≠ b.1)
theorem form_chars {x:List UInt8} (h:x ≠ []):FormT (charsT x):=⟨fun _=>h,rfl,by simp [charsT],fun _=>rfl,List.Pairwise.nil⟩
theorem form_rem (x:List UInt8):FormT (remT x):=⟨fun e=>absurd (show (4:Nat) = 1 from e) (by decide),rfl,by simp [remT],fun _=>rfl,List.Pairwise.nil⟩
theorem form_end {n:List UInt8} (h:lowL n = n):FormT (endT n):=⟨fun e=>absurd (show (3:Nat) = 1 from e) (by decide),h,by simp [endT],fun _=>rfl,List.Pairwise.nil⟩
theorem form_start {n:List UInt8} {A:List AtL} (h:lowL n = n) (hA:FormA A):FormT (startT n A):=⟨fun e=>absurd (show (2:Nat) = 1 from e) (by decide),h,hA.1,fun e=>absurd rfl e,hA.2⟩
theorem mark_form (dec:List UInt8 -> List UInt8) (l:List UInt8):(∀ t,(markL dec l).1 = some t -> FormT t /\ t.kind ≠ 1) /\ ((markL dec l).1 = none -> (markL dec l).2.1 = []) /\ (markL dec l).2.1.length + (markL dec l).2.2.length <= l.length:=by
 have hrem:∀ k:List UInt8,(∀ t,(remL k).1 = some t -> FormT t /\ t.kind ≠ 1) /\ ((remL k).1 = none -> (remL k).2.1 = []) /\ (remL k).2.1.length + (remL k).2.2.length <= k.length:=fun k =>
  ⟨fun t ht=>(by injection ht with ht;rw [<- ht];exact ⟨form_rem _,show (4:Nat) ≠ 1 by decide⟩),fun h=>(by cases h),by have:=remL_len k;simpa [remL] using this⟩
 have hlong:∀ k:List UInt8,(∀ t,(longL k).1 = some t -> FormT t /\ t.kind ≠ 1) /\ ((longL k).1 = none -> (longL k).2.1 = []) /\ (longL k).2.1.length + (longL k).2.2.length <= k.length:=fun k=>by
  have h3:=longL_len k;unfold longL at h3 ⊢;split
  ·exact ⟨fun t ht=>(by injection ht with ht;rw [<- ht];exact ⟨form_rem _,show (4:Nat) ≠ 1 by decide⟩),fun h=>(by cases h),by simp⟩
  ·exact ⟨fun t ht=>(by injection ht with ht;rw [<- ht];exact ⟨form_rem _,show (4:Nat) ≠ 1 by decide⟩),fun h=>(by cases h),by simp;omega⟩
  ·exact ⟨fun t ht=>(by injection ht with ht;rw [<- ht];exact ⟨form_rem _,show (4:Nat) ≠ 1 by decide⟩),fun h=>(by cases h),by have:=cutAt_len remEnd k;simpa using this⟩
 have hend:∀ k:List UInt8,(∀ t,(endL dec k).1 = some t -> FormT t /\ t.kind ≠ 1) /\ ((endL dec k).1 = none -> (endL dec k).2.1 = []) /\ (endL dec k).2.1.length + (endL dec k).2.2.length <= k.length:=fun k=>by
  have h3:=endL_len dec k;unfold endL at h3 ⊢;cases h:tagL dec k with
  | none=>exact ⟨fun t ht=>(by cases ht),fun _=>rfl,by simp⟩
  | some p =>
   obtain ⟨n,A,b⟩:=p;rw [h] at h3;exact ⟨fun t ht=>(by injection ht with ht;rw [<- ht];exact ⟨form_end (tag_form h).2,show (3:Nat) ≠ 1 by decide⟩),fun h=>(by cases h),by simpa using h3⟩
 have hstart:∀ k:List UInt8,(∀ t,(startL dec k).1 = some t -> FormT t /\ t.kind ≠ 1) /\ ((startL dec k).1 = none -> (startL dec k).2.1 = []) /\ (startL dec k).2.1.length + (startL dec k).2.2.length <= k.length:=fun k=>by
  unfold startL;cases h:tagL dec k with
  | none=>exact ⟨fun t ht=>(by cases ht),fun _=>rfl,by simp⟩
  | some p =>
   obtain ⟨n,A,b⟩:=p;have h4:=tagL_len h;obtain ⟨h5,h6⟩:=tag_form h;simp only;split
   ·refine ⟨fun t ht=>(by injection ht with ht;rw [<- ht];exact ⟨form_start h6 h5,show (2:Nat) ≠ 1 by decide⟩),fun h=>(by cases h),?_⟩;show (b.take _).length + (b.drop _).length <= _
    rw [<- List.length_append,List.take_append_drop];omega
   ·refine ⟨fun t ht=>(by injection ht with ht;rw [<- ht];exact ⟨form_start h6 h5,show (2:Nat) ≠ 1 by decide⟩),fun h=>(by cases h),?_⟩;show ([]:List UInt8).length + b.length <= _
    simp;omega
 unfold markL;split
 ·rename_i r;split
  ·exact ⟨fun t ht=>(by cases ht),fun _=>rfl,by simp⟩
  ·rename_i c q;split
   ·obtain ⟨a,b,d⟩:=hend (c :: q);exact ⟨a,b,by simp only [List.length_cons] at d ⊢;omega⟩
   ·split
    ·exact ⟨fun t ht=>(by cases ht),fun _=>rfl,by simp;omega⟩
    ·obtain ⟨a,b,d⟩:=hrem (c :: q);exact ⟨a,b,by simp only [List.length_cons] at d ⊢;omega⟩
 ·rename_i r;split
  ·rename_i x;obtain ⟨a,b,d⟩:=hlong x;exact ⟨a,b,by simp only [List.length_cons] at d ⊢;omega⟩
  ·obtain ⟨a,b,d⟩:=hrem r;exact ⟨a,b,by simp only [List.length_cons] at d ⊢;omega⟩
 ·rename_i r;exact hrem (63 :: r)
 ·exact hstart l
def FormsL (L:List TokL):Prop:=(∀ t ∈ L,FormT t) /\ ∀ (i:Nat) (a b:TokL),L[i]? = some a -> L[i + 1]? = some b -> ¬ (a.kind = 1 /\ b.kind = 1)
def EndsL (L:List TokL):Prop:=∀ t,L.getLast? = some t -> t.kind ≠ 1
theorem forms_snoc {L:List TokL} {t:TokL} (h:FormsL L) (ht:FormT t) (he:t.kind = 1 -> EndsL L):FormsL (L ++ [t]):=by
 refine ⟨fun x hx=>?_,fun i a b ha hb=>?_⟩
 ·rcases List.mem_append.1 hx with hx | hx
  ·exact h.1 x hx
  ·obtain rfl:=List.mem_singleton.1 hx;exact ht
 ·by_cases h1:i + 1 < L.length
  ·rw [List.getElem?_append_left h1] at hb;rw [List.getElem?_append_left (by omega)] at ha;exact h.2 i a b ha hb
  ·have h2:i + 1 = L.length:=by
    have:=(List.getElem?_eq_some_iff.1 hb).1;simp at this;omega
   rw [h2,List.getElem?_append_right (Nat.le_refl _)] at hb;simp at hb;rw [List.getElem?_append_left (by omega)] at ha;rintro ⟨k1,k2⟩;rw [<- hb] at k2;have hl:L.getLast? = some a:=by rw [List.getLast?_eq_getElem?,show L.length - 1 = i by omega];exact ha
   exact he k2 a hl k1
theorem flush_forms {L:List TokL} {x:List UInt8} (h:FormsL L) (he:EndsL L):FormsL (flushT L x):=by
 unfold flushT;split
 ·exact h
 ·rename_i hx;exact forms_snoc h (form_chars hx) (fun _=>he)
theorem ends_snoc {L:List TokL} {t:TokL} (h:t.kind ≠ 1):EndsL (L ++ [t]):=by
 intro u hu;rw [List.getLast?_append] at hu;simp at hu;rw [<- hu];exact h
def sz1 (x:List UInt8):Nat:=if x = [] then 0 else 1
theorem flush_len (L:List TokL) (x:List UInt8):(flushT L x).length = L.length + sz1 x:=by
 unfold flushT sz1;split <;> simp
theorem scan_forms (dec:List UInt8 -> List UInt8):∀ (k:Nat) (l:List UInt8) (L:List TokL) (x:List UInt8),l.length <= k -> FormsL L -> EndsL L -> FormsL (scanL dec L x l) /\ (scanL dec L x l).length <= L.length + sz1 x + l.length:=by
 intro k
 induction k with
 | zero =>
  intro l L x hl h he;obtain rfl:l = []:=List.eq_nil_of_length_eq_zero (by omega);rw [scanL_nil];exact ⟨flush_forms h he,by rw [flush_len];simp⟩
 | succ k ih =>
  intro l L x hl h he;cases l with
  | nil =>
   rw [scanL_nil];exact ⟨flush_forms h he,by rw [flush_len];simp⟩
  | cons c r =>
   by_cases hm:0 < markN (c :: r)
   ·rw [scanL_text dec L x hm];have h1:=markN_le (c :: r);have h2:((c :: r).drop (markN (c :: r))).length = (c :: r).length - markN (c :: r):=List.length_drop;obtain ⟨a,b⟩:=ih ((c :: r).drop (markN (c :: r))) L (x ++ dec ((c :: r).take (markN (c :: r)))) (by rw [h2];omega) h he;refine ⟨a,?_⟩;have h3:sz1 (x ++ dec ((c :: r).take (markN (c :: r)))) <= sz1 x + 1:=by unfold sz1;split <;> split <;> omega
    omega
   ·have hmk:isMarkB (c :: r) = true:=markN_zero (by omega);rw [scanL_mark dec L x hmk];obtain ⟨m1,m2,m3⟩:=mark_form dec r;have hlen:(c :: r).length = r.length + 1:=rfl;have hrk:(markL dec r).2.2.length <= k:=by omega
    unfold addT;cases ho:(markL dec r).1 with
    | none =>
     have e:=m2 ho;simp only;rw [e,List.append_nil];obtain ⟨a,b⟩:=ih (markL dec r).2.2 L x hrk h he;exact ⟨a,by omega⟩
    | some t =>
     obtain ⟨f1,f2⟩:=m1 t ho;simp only;obtain ⟨a,b⟩:=ih (markL dec r).2.2 (flushT L x ++ [t]) (markL dec r).2.1 hrk (forms_snoc (flush_forms h he) f1 (fun e=>absurd e f2)) (ends_snoc f2);refine ⟨a,?_⟩
     have h3:sz1 (markL dec r).2.1 <= (markL dec r).2.1.length:=by
      unfold sz1;split
      ·omega
      ·rename_i hne;exact List.length_pos_iff.2 hne
     rw [List.length_append,flush_len] at b;simp only [List.length_cons,List.length_nil] at b;omega
def dgV (c:UInt8):Nat:=if 48 <= c.toNat /\ c.toNat <= 57 then c.toNat - 48 else if 97 <= (c ||| 32).toNat /\ (c ||| 32).toNat <= 122 then (c ||| 32).toNat - 87 else 255
def digB (b:Nat) (c:UInt8):Option Nat:=if dgV c < b then some (dgV c) else none
def parseB (b:Nat):Nat -> List UInt8 -> Option Nat
  | n,[]=>some n
  | n,c :: r=>match digB b c with
    | none=>none
    | some d=>parseB b (n * b + d) r
def uTup:Option Nat -> Value
  | some n=>.tuple #[.int .u64 n,.nilIface]
  | none=>.tuple #[.int .u64 0,.iface 210 (.int .i64 2)]
theorem par_step {b n d k:Nat} (h:n + 1 <= b ^ k) (hd:d < b):n * b + d + 1 <= b ^ (k + 1):=by
 have h1:(n + 1) * b <= b ^ k * b:=Nat.mul_le_mul_right b h;rw [Nat.pow_succ];rw [Nat.succ_mul] at h1;omega
theorem iparse10_any (s:ByteArray) (w:World) (hs:s.size <= 8) (h0:s.size ≠ 0) :
  Calls Tryz.prog 139 #[.string s,.int .i64 10,.int .i64 32] w fun e w'=>e = .returned (uTup (parseB 10 0 s.data.toList)) /\ Below w.heap.size w w':=by
 have hemp:s.toList.isEmpty = false:=(sizeP h0).2;go_enter Tryz.func139,Tryz.ntmps139;go_wp2_with (refine wpList_bytes rfl _ rfl s rfl ?_;intro cap w0 ha0;have HA0:=hide ha0;clear ha0);go_loopw [12,13,101] (fun un nv i wr=>∃ k n:Nat,un = .bool false /\ k <= s.size /\ i = .int .i64 k /\ nv = .int .u64 n /\ Hid (n + 1 <= 10 ^ k) /\ Hid (parseB 10 n (s.data.toList.drop k) = parseB 10 0 s.data.toList) /\ Hid (wr = w0)) (fun _ _ i _=>s.size - (intOf i).toNat)
 case atStart=>exact ⟨0,0,rfl,Nat.zero_le _,rfl,rfl,hide (Nat.le_refl _),hide rfl,hide rfl⟩
 case round =>
  obtain ⟨k,n,rfl,hk,rfl,rfl,HP,HG,HW⟩:=hrel;obtain rfl:=HW.out
  by_cases hlt:k < s.size
  ·have hst:=HG.out;rw [drop_cons s k hlt,parseB] at hst;have c1:wr.cell? ⟨w.heap.size,k,none⟩ = some (.int .u8 s[k].toNat):=HA0.out.cell k (by rw [toList_length];exact hlt)
   by_cases g1:48 <= s[k].toNat /\ s[k].toNat <= 57
   ·obtain ⟨d,hd⟩:∃ d,s[k].toNat = 48 + d:=⟨s[k].toNat - 48,by omega⟩
    have t1:decide ((48:Int) <= s[k].toNat) = true:=decide_eq_true (by omega);have t2:decide ((s[k].toNat:Int) <= 57) = true:=decide_eq_true (by omega);have t3:((s[k].toNat:Int) == 95) = false:=beq_eq_false_iff_ne.2 (by omega);have wd:IntKind.u8.wrap ((s[k].toNat:Int) - 48) = (d:Int):=by rw [hd];rw [show ((48 + d:Nat):Int) - 48 = d by omega];exact IntWalk.u8_in _ (by omega)
    have hdl:d < 10:=by omega
    have hdb:digB 10 s[k] = some d:=by unfold digB dgV;rw [if_pos g1];rw [if_pos (by omega)];exact congrArg some (by omega)
    rw [hdb] at hst;have HN:Hid (parseB 10 (n * 10 + d) (s.data.toList.drop (k + 1)) = parseB 10 0 s.data.toList):=hide hst;have HB1:Hid (n * 10 + d + 1 <= 10 ^ (k + 1)):=hide (par_step HP.out hdl);have hb2:n * 10 + d + 1 <= 4294967296:=Nat.le_trans HB1.out (Nat.le_trans (Nat.pow_le_pow_right (by decide) (by omega:k + 1 <= 8)) (by decide));have x0:IntKind.u64.wrap (d:Int) = (d:Int):=IntWalk.u64_in _ (by omega);have x1:IntKind.u64.wrap ((n:Int) * 10) = (n:Int) * 10:=IntWalk.u64_in _ (by omega);have x2:IntKind.u64.wrap ((n:Int) * 10 + (d:Int)) = (n:Int) * 10 + d:=IntWalk.u64_in _ (by omega);have x3:decide ((n:Int) * 10 + (d:Int) < (n:Int) * 10) = false:=decide_eq_false (by omega);have x4:decide ((4294967295:Int) < (n:Int) * 10 + (d:Int)) = false:=decide_eq_false (by omega);have x5:decide ((10:Int) <= (d:Int)) = false:=decide_eq_false (by omega);have x6:decide ((1844674407370955162:Int) <= (n:Int)) = false:=decide_eq_false (by omega);clear hst hdb hdl hb2;clear hd g1;go_wp2_with fail;go_roundw
    case rel=>exact ⟨k + 1,n * 10 + d,rfl,by omega,by go_num,by first | rfl | simp,HB1,HN,by first | exact trivial | exact hide rfl⟩
    case measure=>simp [intOf];omega
   ·have t1:(decide ((48:Int) <= s[k].toNat) && decide ((s[k].toNat:Int) <= 57)) = false:=by
     cases q1:decide ((48:Int) <= s[k].toNat) with
     | false=>rfl
     | true =>
      have:=of_decide_eq_true q1;rw [Bool.true_and];exact decide_eq_false (by omega)
    obtain ⟨L,hL⟩:∃ L,(s[k] ||| 32).toNat = L:=⟨_,rfl⟩
    have ho:bits .or .u8 (s[k].toNat:Int) 32 = (L:Int):=by rw [or32,hL]
    have HC:=hide (fun w1=>Tryz.internal_strconv_lower (s[k].toNat:Int) w1);rw [ho] at HC;have t3:(decide ((s[k].toNat:Int) = 95)) = decide (s[k].toNat = 95):=by congr 1;exact propext (by omega)
    have hdv:dgV s[k] = if 97 <= L /\ L <= 122 then L - 87 else 255:=by unfold dgV;rw [if_neg g1,hL]
    have hLl:L < 256:=by rw [<- hL];exact byte_lt _
    by_cases q1:(48:Int) <= s[k].toNat
    ·have q1':decide ((48:Int) <= s[k].toNat) = true:=decide_eq_true q1;have q2':decide ((s[k].toNat:Int) <= 57) = false:=decide_eq_false (by omega);clear t1 t3
     by_cases u:s[k].toNat = 95
     ·have u':((s[k].toNat:Int) == 95) = true:=by rw [beq_iff_eq];omega
      have hL95:L = 127:=by rw [<- hL,show s[k] = 95 from UInt8.toNat_inj.1 u];rfl
      have hv:dgV s[k] = 255:=by rw [hdv,if_neg (by omega)]
      have hbad:digB 10 s[k] = none:=by unfold digB;rw [hv];rfl
      rw [hbad] at hst;have HR:Hid (parseB 10 0 s.data.toList = none):=hide hst.symm;have l1:decide ((97:Int) <= L) = true:=decide_eq_true (by omega);have l2:decide ((L:Int) <= 122) = false:=decide_eq_false (by omega);clear hst hbad hv hdv hL ho u g1 q1;go_wp2_with (go_at_call 165;refine (HC.out _).mono ?_;rintro e w1 ⟨rfl,hw1⟩;obtain rfl:=hw1.symm);go_ret2;exact ⟨by rw [HR.out];rfl,HA0.out.below⟩
     have u':((s[k].toNat:Int) == 95) = false:=beq_eq_false_iff_ne.2 (by omega)
     by_cases l1:97 <= L
     ·have l1':decide ((97:Int) <= L) = true:=decide_eq_true (by omega)
      by_cases l2:L <= 122
      ·have l2':decide ((L:Int) <= 122) = true:=decide_eq_true (by omega);rw [if_pos ⟨l1,l2⟩] at hdv;obtain ⟨d,hd⟩:∃ d,L = 87 + d:=⟨L - 87,by omega⟩
       have y1:IntKind.u8.wrap ((L:Int) - 97) = ((d - 10:Nat):Int):=by rw [show (L:Int) - 97 = ((d - 10:Nat):Int) by omega];exact IntWalk.u8_in _ (by omega)
       have y2:IntKind.u8.wrap (((d - 10:Nat):Int) + 10) = (d:Int):=by rw [show ((d - 10:Nat):Int) + 10 = (d:Int) by omega];exact IntWalk.u8_in _ (by omega)
       by_cases hdl:d < 10
       ·clear q1;have hdb:digB 10 s[k] = some d:=by unfold digB;rw [hdv,if_pos (by omega)];exact congrArg some (by omega)
        rw [hdb] at hst;have HN:Hid (parseB 10 (n * 10 + d) (s.data.toList.drop (k + 1)) = parseB 10 0 s.data.toList):=hide hst;have HB1:Hid (n * 10 + d + 1 <= 10 ^ (k + 1)):=hide (par_step HP.out hdl);have hb2:n * 10 + d + 1 <= 4294967296:=Nat.le_trans HB1.out (Nat.le_trans (Nat.pow_le_pow_right (by decide) (by omega:k + 1 <= 8)) (by decide));have x0:IntKind.u64.wrap (d:Int) = (d:Int):=IntWalk.u64_in _ (by omega);have x1:IntKind.u64.wrap ((n:Int) * 10) = (n:Int) * 10:=IntWalk.u64_in _ (by omega);have x2:IntKind.u64.wrap ((n:Int) * 10 + (d:Int)) = (n:Int) * 10 + d:=IntWalk.u64_in _ (by omega);have x3:decide ((n:Int) * 10 + (d:Int) < (n:Int) * 10) = false:=decide_eq_false (by omega);have x4:decide ((4294967295:Int) < (n:Int) * 10 + (d:Int)) = false:=decide_eq_false (by omega);have x5:decide ((10:Int) <= (d:Int)) = false:=decide_eq_false (by omega);have x6:decide ((1844674407370955162:Int) <= (n:Int)) = false:=decide_eq_false (by omega);clear hst hdb hdl hb2;clear hdv hL ho u g1 hd;go_wp2_with (go_at_call 165;refine (HC.out _).mono ?_;rintro e w1 ⟨rfl,hw1⟩;obtain rfl:=hw1.symm);go_roundw
        case rel=>exact ⟨k + 1,n * 10 + d,rfl,by omega,by go_num,by first | rfl | simp,HB1,HN,by first | exact trivial | exact hide rfl⟩
        case measure=>simp [intOf];omega
       ·have hbad:digB 10 s[k] = none:=by unfold digB;rw [hdv,if_neg (by omega)]
        rw [hbad] at hst;have HR:Hid (parseB 10 0 s.data.toList = none):=hide hst.symm;have x5:decide ((10:Int) <= (d:Int)) = true:=decide_eq_true (by omega);clear hst hbad hdv hL ho u g1 q1 hdl hd;go_wp2_with (go_at_call 165;refine (HC.out _).mono ?_;rintro e w1 ⟨rfl,hw1⟩;obtain rfl:=hw1.symm);go_ret2;exact ⟨by rw [HR.out];rfl,HA0.out.below⟩
      ·have l2':decide ((L:Int) <= 122) = false:=decide_eq_false (by omega);have hv:dgV s[k] = 255:=by rw [hdv,if_neg (by omega)]
       have hbad:digB 10 s[k] = none:=by unfold digB;rw [hv];rfl
       rw [hbad] at hst;have HR:Hid (parseB 10 0 s.data.toList = none):=hide hst.symm;clear hst hbad hv hdv hL ho u g1 q1;go_wp2_with (go_at_call 165;refine (HC.out _).mono ?_;rintro e w1 ⟨rfl,hw1⟩;obtain rfl:=hw1.symm);go_ret2;exact ⟨by rw [HR.out];rfl,HA0.out.below⟩
     ·have l1':decide ((97:Int) <= L) = false:=decide_eq_false (by omega);have hv:dgV s[k] = 255:=by rw [hdv,if_neg (by omega)]
      have hbad:digB 10 s[k] = none:=by unfold digB;rw [hv];rfl
      rw [hbad] at hst;have HR:Hid (parseB 10 0 s.data.toList = none):=hide hst.symm;clear hst hbad hv hdv hL ho u g1 q1;go_wp2_with (go_at_call 165;refine (HC.out _).mono ?_;rintro e w1 ⟨rfl,hw1⟩;obtain rfl:=hw1.symm);go_ret2;exact ⟨by rw [HR.out];rfl,HA0.out.below⟩
    ·have q1':decide ((48:Int) <= s[k].toNat) = false:=decide_eq_false q1;clear t1 t3
     by_cases u:s[k].toNat = 95
     ·have u':((s[k].toNat:Int) == 95) = true:=by rw [beq_iff_eq];omega
      have hL95:L = 127:=by rw [<- hL,show s[k] = 95 from UInt8.toNat_inj.1 u];rfl
      have hv:dgV s[k] = 255:=by rw [hdv,if_neg (by omega)]
      have hbad:digB 10 s[k] = none:=by unfold digB;rw [hv];rfl
      rw [hbad] at hst;have HR:Hid (parseB 10 0 s.data.toList = none):=hide hst.symm;have l1:decide ((97:Int) <= L) = true:=decide_eq_true (by omega);have l2:decide ((L:Int) <= 122) = false:=decide_eq_false (by omega);clear hst hbad hv hdv hL ho u g1 q1;go_wp2_with (go_at_call 165;refine (HC.out _).mono ?_;rintro e w1 ⟨rfl,hw1⟩;obtain rfl:=hw1.symm);go_ret2;exact ⟨by rw [HR.out];rfl,HA0.out.below⟩
     have u':((s[k].toNat:Int) == 95) = false:=beq_eq_false_iff_ne.2 (by omega)
     by_cases l1:97 <= L
     ·have l1':decide ((97:Int) <= L) = true:=decide_eq_true (by omega)
      by_cases l2:L <= 122
      ·have l2':decide ((L:Int) <= 122) = true:=decide_eq_true (by omega);rw [if_pos ⟨l1,l2⟩] at hdv;obtain ⟨d,hd⟩:∃ d,L = 87 + d:=⟨L - 87,by omega⟩
       have y1:IntKind.u8.wrap ((L:Int) - 97) = ((d - 10:Nat):Int):=by rw [show (L:Int) - 97 = ((d - 10:Nat):Int) by omega];exact IntWalk.u8_in _ (by omega)
       have y2:IntKind.u8.wrap (((d - 10:Nat):Int) + 10) = (d:Int):=by rw [show ((d - 10:Nat):Int) + 10 = (d:Int) by omega];exact IntWalk.u8_in _ (by omega)
       by_cases hdl:d < 10
       ·clear q1;have hdb:digB 10 s[k] = some d:=by unfold digB;rw [hdv,if_pos (by omega)];exact congrArg some (by omega)
        rw [hdb] at hst;have HN:Hid (parseB 10 (n * 10 + d) (s.data.toList.drop (k + 1)) = parseB 10 0 s.data.toList):=hide hst;have HB1:Hid (n * 10 + d + 1 <= 10 ^ (k + 1)):=hide (par_step HP.out hdl);have hb2:n * 10 + d + 1 <= 4294967296:=Nat.le_trans HB1.out (Nat.le_trans (Nat.pow_le_pow_right (by decide) (by omega:k + 1 <= 8)) (by decide));have x0:IntKind.u64.wrap (d:Int) = (d:Int):=IntWalk.u64_in _ (by omega);have x1:IntKind.u64.wrap ((n:Int) * 10) = (n:Int) * 10:=IntWalk.u64_in _ (by omega);have x2:IntKind.u64.wrap ((n:Int) * 10 + (d:Int)) = (n:Int) * 10 + d:=IntWalk.u64_in _ (by omega);have x3:decide ((n:Int) * 10 + (d:Int) < (n:Int) * 10) = false:=decide_eq_false (by omega);have x4:decide ((4294967295:Int) < (n:Int) * 10 + (d:Int)) = false:=decide_eq_false (by omega);have x5:decide ((10:Int) <= (d:Int)) = false:=decide_eq_false (by omega);have x6:decide ((1844674407370955162:Int) <= (n:Int)) = false:=decide_eq_false (by omega);clear hst hdb hdl hb2;clear hdv hL ho u g1 hd;go_wp2_with (go_at_call 165;refine (HC.out _).mono ?_;rintro e w1 ⟨rfl,hw1⟩;obtain rfl:=hw1.symm);go_roundw
        case rel=>exact ⟨k + 1,n * 10 + d,rfl,by omega,by go_num,by first | rfl | simp,HB1,HN,by first | exact trivial | exact hide rfl⟩
        case measure=>simp [intOf];omega
       ·have hbad:digB 10 s[k] = none:=by unfold digB;rw [hdv,if_neg (by omega)]
        rw [hbad] at hst;have HR:Hid (parseB 10 0 s.data.toList = none):=hide hst.symm;have x5:decide ((10:Int) <= (d:Int)) = true:=decide_eq_true (by omega);clear hst hbad hdv hL ho u g1 q1 hdl hd;go_wp2_with (go_at_call 165;refine (HC.out _).mono ?_;rintro e w1 ⟨rfl,hw1⟩;obtain rfl:=hw1.symm);go_ret2;exact ⟨by rw [HR.out];rfl,HA0.out.below⟩
      ·have l2':decide ((L:Int) <= 122) = false:=decide_eq_false (by omega);have hv:dgV s[k] = 255:=by rw [hdv,if_neg (by omega)]
       have hbad:digB 10 s[k] = none:=by unfold digB;rw [hv];rfl
       rw [hbad] at hst;have HR:Hid (parseB 10 0 s.data.toList = none):=hide hst.symm;clear hst hbad hv hdv hL ho u g1 q1;go_wp2_with (go_at_call 165;refine (HC.out _).mono ?_;rintro e w1 ⟨rfl,hw1⟩;obtain rfl:=hw1.symm);go_ret2;exact ⟨by rw [HR.out];rfl,HA0.out.below⟩
     ·have l1':decide ((97:Int) <= L) = false:=decide_eq_false (by omega);have hv:dgV s[k] = 255:=by rw [hdv,if_neg (by omega)]
      have hbad:digB 10 s[k] = none:=by unfold digB;rw [hv];rfl
      rw [hbad] at hst;have HR:Hid (parseB 10 0 s.data.toList = none):=hide hst.symm;clear hst hbad hv hdv hL ho u g1 q1;go_wp2_with (go_at_call 165;refine (HC.out _).mono ?_;rintro e w1 ⟨rfl,hw1⟩;obtain rfl:=hw1.symm);go_ret2;exact ⟨by rw [HR.out];rfl,HA0.out.below⟩
  ·have hk2:k = s.size:=by omega
   have HR:Hid (parseB 10 0 s.data.toList = some n):=hide (by rw [<- HG.out,drop_nil s k (by omega)];rfl);clear hk2;go_wp2_with fail;go_ret2;exact ⟨by rw [HR.out];rfl,HA0.out.below⟩
theorem iparse16_any (s:ByteArray) (w:World) (hs:s.size <= 8) (h0:s.size ≠ 0) :
  Calls Tryz.prog 139 #[.string s,.int .i64 16,.int .i64 32] w fun e w'=>e = .returned (uTup (parseB 16 0 s.data.toList)) /\ Below w.heap.size w w':=by
 have hemp:s.toList.isEmpty = false:=(sizeP h0).2;go_enter Tryz.func139,Tryz.ntmps139;go_wp2_with (refine wpList_bytes rfl _ rfl s rfl ?_;intro cap w0 ha0;have HA0:=hide ha0;clear ha0);go_loopw [12,13,101] (fun un nv i wr=>∃ k n:Nat,un = .bool false /\ k <= s.size /\ i = .int .i64 k /\ nv = .int .u64 n /\ Hid (n + 1 <= 16 ^ k) /\ Hid (parseB 16 n (s.data.toList.drop k) = parseB 16 0 s.data.toList) /\ Hid (wr = w0)) (fun _ _ i _=>s.size - (intOf i).toNat)
 case atStart=>exact ⟨0,0,rfl,Nat.zero_le _,rfl,rfl,hide (Nat.le_refl _),hide rfl,hide rfl⟩
 case round =>
  obtain ⟨k,n,rfl,hk,rfl,rfl,HP,HG,HW⟩:=hrel;obtain rfl:=HW.out
  by_cases hlt:k < s.size
  ·have hst:=HG.out;rw [drop_cons s k hlt,parseB] at hst;have c1:wr.cell? ⟨w.heap.size,k,none⟩ = some (.int .u8 s[k].toNat):=HA0.out.cell k (by rw [toList_length];exact hlt)
   by_cases g1:48 <= s[k].toNat /\ s[k].toNat <= 57
   ·obtain ⟨d,hd⟩:∃ d,s[k].toNat = 48 + d:=⟨s[k].toNat - 48,by omega⟩
    have t1:decide ((48:Int) <= s[k].toNat) = true:=decide_eq_true (by omega);have t2:decide ((s[k].toNat:Int) <= 57) = true:=decide_eq_true (by omega);have t3:((s[k].toNat:Int) == 95) = false:=beq_eq_false_iff_ne.2 (by omega);have wd:IntKind.u8.wrap ((s[k].toNat:Int) - 48) = (d:Int):=by rw [hd];rw [show ((48 + d:Nat):Int) - 48 = d by omega];exact IntWalk.u8_in _ (by omega)
    have hdl:d < 16:=by omega
    have hdb:digB 16 s[k] = some d:=by unfold digB dgV;rw [if_pos g1];rw [if_pos (by omega)];exact congrArg some (by omega)
    rw [hdb] at hst;have HN:Hid (parseB 16 (n * 16 + d) (s.data.toList.drop (k + 1)) = parseB 16 0 s.data.toList):=hide hst;have HB1:Hid (n * 16 + d + 1 <= 16 ^ (k + 1)):=hide (par_step HP.out hdl);have hb2:n * 16 + d + 1 <= 4294967296:=Nat.le_trans HB1.out (Nat.le_trans (Nat.pow_le_pow_right (by decide) (by omega:k + 1 <= 8)) (by decide));have x0:IntKind.u64.wrap (d:Int) = (d:Int):=IntWalk.u64_in _ (by omega);have x1:IntKind.u64.wrap ((n:Int) * 16) = (n:Int) * 16:=IntWalk.u64_in _ (by omega);have x2:IntKind.u64.wrap ((n:Int) * 16 + (d:Int)) = (n:Int) * 16 + d:=IntWalk.u64_in _ (by omega);have x3:decide ((n:Int) * 16 + (d:Int) < (n:Int) * 16) = false:=decide_eq_false (by omega);have x4:decide ((4294967295:Int) < (n:Int) * 16 + (d:Int)) = false:=decide_eq_false (by omega);have x5:decide ((16:Int) <= (d:Int)) = false:=decide_eq_false (by omega);have x6:decide ((1152921504606846976:Int) <= (n:Int)) = false:=decide_eq_false (by omega);clear hst hdb hdl hb2;clear hd g1;go_wp2_with fail;go_roundw
    case rel=>exact ⟨k + 1,n * 16 + d,rfl,by omega,by go_num,by first | rfl | simp,HB1,HN,by first | exact trivial | exact hide rfl⟩
    case measure=>simp [intOf];omega
   ·have t1:(decide ((48:Int) <= s[k].toNat) && decide ((s[k].toNat:Int) <= 57)) = false:=by
     cases q1:decide ((48:Int) <= s[k].toNat) with
     | false=>rfl
     | true =>
      have:=of_decide_eq_true q1;rw [Bool.true_and];exact decide_eq_false (by omega)
    obtain ⟨L,hL⟩:∃ L,(s[k] ||| 32).toNat = L:=⟨_,rfl⟩
    have ho:bits .or .u8 (s[k].toNat:Int) 32 = (L:Int):=by rw [or32,hL]
    have HC:=hide (fun w1=>Tryz.internal_strconv_lower (s[k].toNat:Int) w1);rw [ho] at HC;have t3:(decide ((s[k].toNat:Int) = 95)) = decide (s[k].toNat = 95):=by congr 1;exact propext (by omega)
    have hdv:dgV s[k] = if 97 <= L /\ L <= 122 then L - 87 else 255:=by unfold dgV;rw [if_neg g1,hL]
    have hLl:L < 256:=by rw [<- hL];exact byte_lt _
    by_cases q1:(48:Int) <= s[k].toNat
    ·have q1':decide ((48:Int) <= s[k].toNat) = true:=decide_eq_true q1;have q2':decide ((s[k].toNat:Int) <= 57) = false:=decide_eq_false (by omega);clear t1 t3
     by_cases u:s[k].toNat = 95
     ·have u':((s[k].toNat:Int) == 95) = true:=by rw [beq_iff_eq];omega
      have hL95:L = 127:=by rw [<- hL,show s[k] = 95 from UInt8.toNat_inj.1 u];rfl
      have hv:dgV s[k] = 255:=by rw [hdv,if_neg (by omega)]
      have hbad:digB 16 s[k] = none:=by unfold digB;rw [hv];rfl
      rw [hbad] at hst;have HR:Hid (parseB 16 0 s.data.toList = none):=hide hst.symm;have l1:decide ((97:Int) <= L) = true:=decide_eq_true (by omega);have l2:decide ((L:Int) <= 122) = false:=decide_eq_false (by omega);clear hst hbad hv hdv hL ho u g1 q1;go_wp2_with (go_at_call 165;refine (HC.out _).mono ?_;rintro e w1 ⟨rfl,hw1⟩;obtain rfl:=hw1.symm);go_ret2;exact ⟨by rw [HR.out];rfl,HA0.out.below⟩
     have u':((s[k].toNat:Int) == 95) = false:=beq_eq_false_iff_ne.2 (by omega)
     by_cases l1:97 <= L
     ·have l1':decide ((97:Int) <= L) = true:=decide_eq_true (by omega)
      by_cases l2:L <= 122
      ·have l2':decide ((L:Int) <= 122) = true:=decide_eq_true (by omega);rw [if_pos ⟨l1,l2⟩] at hdv;obtain ⟨d,hd⟩:∃ d,L = 87 + d:=⟨L - 87,by omega⟩
       have y1:IntKind.u8.wrap ((L:Int) - 97) = ((d - 10:Nat):Int):=by rw [show (L:Int) - 97 = ((d - 10:Nat):Int) by omega];exact IntWalk.u8_in _ (by omega)
       have y2:IntKind.u8.wrap (((d - 10:Nat):Int) + 10) = (d:Int):=by rw [show ((d - 10:Nat):Int) + 10 = (d:Int) by omega];exact IntWalk.u8_in _ (by omega)
       by_cases hdl:d < 16
       ·clear q1;have hdb:digB 16 s[k] = some d:=by unfold digB;rw [hdv,if_pos (by omega)];exact congrArg some (by omega)
        rw [hdb] at hst;have HN:Hid (parseB 16 (n * 16 + d) (s.data.toList.drop (k + 1)) = parseB 16 0 s.data.toList):=hide hst;have HB1:Hid (n * 16 + d + 1 <= 16 ^ (k + 1)):=hide (par_step HP.out hdl);have hb2:n * 16 + d + 1 <= 4294967296:=Nat.le_trans HB1.out (Nat.le_trans (Nat.pow_le_pow_right (by decide) (by omega:k + 1 <= 8)) (by decide));have x0:IntKind.u64.wrap (d:Int) = (d:Int):=IntWalk.u64_in _ (by omega);have x1:IntKind.u64.wrap ((n:Int) * 16) = (n:Int) * 16:=IntWalk.u64_in _ (by omega);have x2:IntKind.u64.wrap ((n:Int) * 16 + (d:Int)) = (n:Int) * 16 + d:=IntWalk.u64_in _ (by omega);have x3:decide ((n:Int) * 16 + (d:Int) < (n:Int) * 16) = false:=decide_eq_false (by omega);have x4:decide ((4294967295:Int) < (n:Int) * 16 + (d:Int)) = false:=decide_eq_false (by omega);have x5:decide ((16:Int) <= (d:Int)) = false:=decide_eq_false (by omega);have x6:decide ((1152921504606846976:Int) <= (n:Int)) = false:=decide_eq_false (by omega);clear hst hdb hdl hb2;clear hdv hL ho u g1 hd;go_wp2_with (go_at_call 165;refine (HC.out _).mono ?_;rintro e w1 ⟨rfl,hw1⟩;obtain rfl:=hw1.symm);go_roundw
        case rel=>exact ⟨k + 1,n * 16 + d,rfl,by omega,by go_num,by first | rfl | simp,HB1,HN,by first | exact trivial | exact hide rfl⟩
        case measure=>simp [intOf];omega
       ·have hbad:digB 16 s[k] = none:=by unfold digB;rw [hdv,if_neg (by omega)]
        rw [hbad] at hst;have HR:Hid (parseB 16 0 s.data.toList = none):=hide hst.symm;have x5:decide ((16:Int) <= (d:Int)) = true:=decide_eq_true (by omega);clear hst hbad hdv hL ho u g1 q1 hdl hd;go_wp2_with (go_at_call 165;refine (HC.out _).mono ?_;rintro e w1 ⟨rfl,hw1⟩;obtain rfl:=hw1.symm);go_ret2;exact ⟨by rw [HR.out];rfl,HA0.out.below⟩
      ·have l2':decide ((L:Int) <= 122) = false:=decide_eq_false (by omega);have hv:dgV s[k] = 255:=by rw [hdv,if_neg (by omega)]
       have hbad:digB 16 s[k] = none:=by unfold digB;rw [hv];rfl
       rw [hbad] at hst;have HR:Hid (parseB 16 0 s.data.toList = none):=hide hst.symm;clear hst hbad hv hdv hL ho u g1 q1;go_wp2_with (go_at_call 165;refine (HC.out _).mono ?_;rintro e w1 ⟨rfl,hw1⟩;obtain rfl:=hw1.symm);go_ret2;exact ⟨by rw [HR.out];rfl,HA0.out.below⟩
     ·have l1':decide ((97:Int) <= L) = false:=decide_eq_false (by omega);have hv:dgV s[k] = 255:=by rw [hdv,if_neg (by omega)]
      have hbad:digB 16 s[k] = none:=by unfold digB;rw [hv];rfl
      rw [hbad] at hst;have HR:Hid (parseB 16 0 s.data.toList = none):=hide hst.symm;clear hst hbad hv hdv hL ho u g1 q1;go_wp2_with (go_at_call 165;refine (HC.out _).mono ?_;rintro e w1 ⟨rfl,hw1⟩;obtain rfl:=hw1.symm);go_ret2;exact ⟨by rw [HR.out];rfl,HA0.out.below⟩
    ·have q1':decide ((48:Int) <= s[k].toNat) = false:=decide_eq_false q1;clear t1 t3
     by_cases u:s[k].toNat = 95
     ·have u':((s[k].toNat:Int) == 95) = true:=by rw [beq_iff_eq];omega
      have hL95:L = 127:=by rw [<- hL,show s[k] = 95 from UInt8.toNat_inj.1 u];rfl
      have hv:dgV s[k] = 255:=by rw [hdv,if_neg (by omega)]
      have hbad:digB 16 s[k] = none:=by unfold digB;rw [hv];rfl
      rw [hbad] at hst;have HR:Hid (parseB 16 0 s.data.toList = none):=hide hst.symm;have l1:decide ((97:Int) <= L) = true:=decide_eq_true (by omega);have l2:decide ((L:Int) <= 122) = false:=decide_eq_false (by omega);clear hst hbad hv hdv hL ho u g1 q1;go_wp2_with (go_at_call 165;refine (HC.out _).mono ?_;rintro e w1 ⟨rfl,hw1⟩;obtain rfl:=hw1.symm);go_ret2;exact ⟨by rw [HR.out];rfl,HA0.out.below⟩
     have u':((s[k].toNat:Int) == 95) = false:=beq_eq_false_iff_ne.2 (by omega)
     by_cases l1:97 <= L
     ·have l1':decide ((97:Int) <= L) = true:=decide_eq_true (by omega)
      by_cases l2:L <= 122
      ·have l2':decide ((L:Int) <= 122) = true:=decide_eq_true (by omega);rw [if_pos ⟨l1,l2⟩] at hdv;obtain ⟨d,hd⟩:∃ d,L = 87 + d:=⟨L - 87,by omega⟩
       have y1:IntKind.u8.wrap ((L:Int) - 97) = ((d - 10:Nat):Int):=by rw [show (L:Int) - 97 = ((d - 10:Nat):Int) by omega];exact IntWalk.u8_in _ (by omega)
       have y2:IntKind.u8.wrap (((d - 10:Nat):Int) + 10) = (d:Int):=by rw [show ((d - 10:Nat):Int) + 10 = (d:Int) by omega];exact IntWalk.u8_in _ (by omega)
       by_cases hdl:d < 16
       ·clear q1;have hdb:digB 16 s[k] = some d:=by unfold digB;rw [hdv,if_pos (by omega)];exact congrArg some (by omega)
        rw [hdb] at hst;have HN:Hid (parseB 16 (n * 16 + d) (s.data.toList.drop (k + 1)) = parseB 16 0 s.data.toList):=hide hst;have HB1:Hid (n * 16 + d + 1 <= 16 ^ (k + 1)):=hide (par_step HP.out hdl);have hb2:n * 16 + d + 1 <= 4294967296:=Nat.le_trans HB1.out (Nat.le_trans (Nat.pow_le_pow_right (by decide) (by omega:k + 1 <= 8)) (by decide));have x0:IntKind.u64.wrap (d:Int) = (d:Int):=IntWalk.u64_in _ (by omega);have x1:IntKind.u64.wrap ((n:Int) * 16) = (n:Int) * 16:=IntWalk.u64_in _ (by omega);have x2:IntKind.u64.wrap ((n:Int) * 16 + (d:Int)) = (n:Int) * 16 + d:=IntWalk.u64_in _ (by omega);have x3:decide ((n:Int) * 16 + (d:Int) < (n:Int) * 16) = false:=decide_eq_false (by omega);have x4:decide ((4294967295:Int) < (n:Int) * 16 + (d:Int)) = false:=decide_eq_false (by omega);have x5:decide ((16:Int) <= (d:Int)) = false:=decide_eq_false (by omega);have x6:decide ((1152921504606846976:Int) <= (n:Int)) = false:=decide_eq_false (by omega);clear hst hdb hdl hb2;clear hdv hL ho u g1 hd;go_wp2_with (go_at_call 165;refine (HC.out _).mono ?_;rintro e w1 ⟨rfl,hw1⟩;obtain rfl:=hw1.symm);go_roundw
        case rel=>exact ⟨k + 1,n * 16 + d,rfl,by omega,by go_num,by first | rfl | simp,HB1,HN,by first | exact trivial | exact hide rfl⟩
        case measure=>simp [intOf];omega
       ·have hbad:digB 16 s[k] = none:=by unfold digB;rw [hdv,if_neg (by omega)]
        rw [hbad] at hst;have HR:Hid (parseB 16 0 s.data.toList = none):=hide hst.symm;have x5:decide ((16:Int) <= (d:Int)) = true:=decide_eq_true (by omega);clear hst hbad hdv hL ho u g1 q1 hdl hd;go_wp2_with (go_at_call 165;refine (HC.out _).mono ?_;rintro e w1 ⟨rfl,hw1⟩;obtain rfl:=hw1.symm);go_ret2;exact ⟨by rw [HR.out];rfl,HA0.out.below⟩
      ·have l2':decide ((L:Int) <= 122) = false:=decide_eq_false (by omega);have hv:dgV s[k] = 255:=by rw [hdv,if_neg (by omega)]
       have hbad:digB 16 s[k] = none:=by unfold digB;rw [hv];rfl
       rw [hbad] at hst;have HR:Hid (parseB 16 0 s.data.toList = none):=hide hst.symm;clear hst hbad hv hdv hL ho u g1 q1;go_wp2_with (go_at_call 165;refine (HC.out _).mono ?_;rintro e w1 ⟨rfl,hw1⟩;obtain rfl:=hw1.symm);go_ret2;exact ⟨by rw [HR.out];rfl,HA0.out.below⟩
     ·have l1':decide ((97:Int) <= L) = false:=decide_eq_false (by omega);have hv:dgV s[k] = 255:=by rw [hdv,if_neg (by omega)]
      have hbad:digB 16 s[k] = none:=by unfold digB;rw [hv];rfl
      rw [hbad] at hst;have HR:Hid (parseB 16 0 s.data.toList = none):=hide hst.symm;clear hst hbad hv hdv hL ho u g1 q1;go_wp2_with (go_at_call 165;refine (HC.out _).mono ?_;rintro e w1 ⟨rfl,hw1⟩;obtain rfl:=hw1.symm);go_ret2;exact ⟨by rw [HR.out];rfl,HA0.out.below⟩
  ·have hk2:k = s.size:=by omega
   have HR:Hid (parseB 16 0 s.data.toList = some n):=hide (by rw [<- HG.out,drop_nil s k (by omega)];rfl);clear hk2;go_wp2_with fail;go_ret2;exact ⟨by rw [HR.out];rfl,HA0.out.below⟩
def parseU (b:Nat) (l:List UInt8):Option Nat:=if l = [] then none else parseB b 0 l
def UOut (o:Option Nat) (e:Ending):Prop :=
  match o with
  | some n=>e = .returned (.tuple #[.int .u64 n,.nilIface])
  | none=>∃ N:Nat,e = .returned (.tuple #[.int .u64 0,.iface 212 (.pointer (some ⟨N,0,none⟩))])
theorem iempty10_any (w:World):Calls Tryz.prog 139 #[.string ⟨#[]⟩,.int .i64 10,.int .i64 32] w (fun e w'=>e = .returned (uTup none) /\ Below w.heap.size w w'):=by
 go_enter Tryz.func139,Tryz.ntmps139;go_wp2_with fail;go_ret2;exact ⟨rfl,Below.refl _ _⟩
theorem parse10_any (s:ByteArray) (ev:Value) (w:World) (hs:s.size <= 8) (hv:w.cell? ⟨3,0,none⟩ = some ev) (hev:ev = .nilIface \/ ∃ te pe,ev = .iface te pe) :
  Calls Tryz.prog 115 #[.string s,.int .i64 10,.int .i64 32] w fun e w'=>UOut (parseU 10 s.data.toList) e /\ Below w.heap.size w w':=by
 have HV:=hide hv;have HEV:=hide hev;have HS:=hide hs
 have hlt:3 < w.heap.size:=by
  rcases Nat.lt_or_ge 3 w.heap.size with h1 | h1
  ·exact h1
  ·simp [World.cell?,Array.getElem?_eq_none h1] at hv
 have HLT:=hide hlt;clear hv hev hlt
 have bad:parseU 10 s.data.toList = none -> Calls Tryz.prog 139 #[.string s,.int .i64 10,.int .i64 32] w (fun e w'=>e = .returned (uTup none) /\ Below w.heap.size w w') -> Calls Tryz.prog 115 #[.string s,.int .i64 10,.int .i64 32] w fun e w'=>UOut (parseU 10 s.data.toList) e /\ Below w.heap.size w w':=by
  intro hn hc;have HN:=hide hn;have HC:=hide hc;clear hn hc;go_enter Tryz.func115,Tryz.ntmps115
  go_wp2_with (first
   |(go_at_call 139;refine HC.out.mono ?_;rintro e w1 ⟨rfl,hb1⟩;rw [show uTup none = .tuple #[.int .u64 0,.iface 210 (.int .i64 2)] from rfl];have HB1:=hide hb1;clear hb1)
   |(go_at_call 140;refine (Tryz.strconv_toError_syntax _ s 10 32 ev _ (Nat.le_trans HS.out (by decide)) ((HB1.out.cell (p:=⟨3,0,none⟩) HLT.out).trans HV.out) HEV.out).mono ?_;rintro e w2 ⟨N,rfl,_,_,hb2⟩;have HB2:=hide (HB1.out.trans (hb2.mono HB1.out.size));clear hb2))
  go_ret2;rw [HN.out];exact ⟨⟨N,rfl⟩,HB2.out⟩
 by_cases h0:s.size = 0
 ·have he:s = ⟨#[]⟩:=ext_list (size0 h0).1;have hp:parseU 10 s.data.toList = none:=by unfold parseU;rw [if_pos (size0 h0).1]
  refine bad hp ?_;rw [he];exact iempty10_any w
 ·have hp:parseU 10 s.data.toList = parseB 10 0 s.data.toList:=by unfold parseU;rw [if_neg (sizeP h0).1]
  have hc:=iparse10_any s w hs h0;cases hr:parseB 10 0 s.data.toList with
  | none=>rw [hr] at hp hc;exact bad hp hc
  | some n =>
   rw [hr] at hp hc;have HP:=hide hp;have HC:=hide hc;clear hp hc bad hr;go_enter Tryz.func115,Tryz.ntmps115;go_wp2_with (go_at_call 139;refine HC.out.mono ?_;rintro e w1 ⟨rfl,hb1⟩;rw [show uTup (some n) = .tuple #[.int .u64 n,.nilIface] from rfl];have HB1:=hide hb1;clear hb1);go_ret2;rw [HP.out];exact ⟨rfl,HB1.out⟩
theorem iempty16_any (w:World):Calls Tryz.prog 139 #[.string ⟨#[]⟩,.int .i64 16,.int .i64 32] w (fun e w'=>e = .returned (uTup none) /\ Below w.heap.size w w'):=by
 go_enter Tryz.func139,Tryz.ntmps139;go_wp2_with fail;go_ret2;exact ⟨rfl,Below.refl _ _⟩
theorem parse16_any (s:ByteArray) (ev:Value) (w:World) (hs:s.size <= 8) (hv:w.cell? ⟨3,0,none⟩ = some ev) (hev:ev = .nilIface \/ ∃ te pe,ev = .iface te pe) :
  Calls Tryz.prog 115 #[.string s,.int .i64 16,.int .i64 32] w fun e w'=>UOut (parseU 16 s.data.toList) e /\ Below w.heap.size w w':=by
 have HV:=hide hv;have HEV:=hide hev;have HS:=hide hs
 have hlt:3 < w.heap.size:=by
  rcases Nat.lt_or_ge 3 w.heap.size with h1 | h1
  ·exact h1
  ·simp [World.cell?,Array.getElem?_eq_none h1] at hv
 have HLT:=hide hlt;clear hv hev hlt
 have bad:parseU 16 s.data.toList = none -> Calls Tryz.prog 139 #[.string s,.int .i64 16,.int .i64 32] w (fun e w'=>e = .returned (uTup none) /\ Below w.heap.size w w') -> Calls Tryz.prog 115 #[.string s,.int .i64 16,.int .i64 32] w fun e w'=>UOut (parseU 16 s.data.toList) e /\ Below w.heap.size w w':=by
  intro hn hc;have HN:=hide hn;have HC:=hide hc;clear hn hc;go_enter Tryz.func115,Tryz.ntmps115
  go_wp2_with (first
   |(go_at_call 139;refine HC.out.mono ?_;rintro e w1 ⟨rfl,hb1⟩;rw [show uTup none = .tuple #[.int .u64 0,.iface 210 (.int .i64 2)] from rfl];have HB1:=hide hb1;clear hb1)
   |(go_at_call 140;refine (Tryz.strconv_toError_syntax _ s 16 32 ev _ (Nat.le_trans HS.out (by decide)) ((HB1.out.cell (p:=⟨3,0,none⟩) HLT.out).trans HV.out) HEV.out).mono ?_;rintro e w2 ⟨N,rfl,_,_,hb2⟩;have HB2:=hide (HB1.out.trans (hb2.mono HB1.out.size));clear hb2))
  go_ret2;rw [HN.out];exact ⟨⟨N,rfl⟩,HB2.out⟩
 by_cases h0:s.size = 0
 ·have he:s = ⟨#[]⟩:=ext_list (size0 h0).1;have hp:parseU 16 s.data.toList = none:=by unfold parseU;rw [if_pos (size0 h0).1]
  refine bad hp ?_;rw [he];exact iempty16_any w
 ·have hp:parseU 16 s.data.toList = parseB 16 0 s.data.toList:=by unfold parseU;rw [if_neg (sizeP h0).1]
  have hc:=iparse16_any s w hs h0;cases hr:parseB 16 0 s.data.toList with
  | none=>rw [hr] at hp hc;exact bad hp hc
  | some n =>
   rw [hr] at hp hc;have HP:=hide hp;have HC:=hide hc;clear hp hc bad hr;go_enter Tryz.func115,Tryz.ntmps115;go_wp2_with (go_at_call 139;refine HC.out.mono ?_;rintro e w1 ⟨rfl,hb1⟩;rw [show uTup (some n) = .tuple #[.int .u64 n,.nilIface] from rfl];have HB1:=hide hb1;clear hb1);go_ret2;rw [HP.out];exact ⟨rfl,HB1.out⟩
end Go.Proofs.YtmgpmdfmkdhfgaaGreatDoor
namespace Go.Proofs.YtmgpmdfmkdhfgaaGreatDoor
open Go.RowKit Go.Maps Go.WideShapes Go.WideMaps
set_option linter.unusedVariables false
set_option linter.unusedSimpArgs false
set_option maxRecDepth 100000
theorem keyedS:Keyed Tryz.prog 9:=string_keyed Tryz.underlying9
theorem zeroR (w:World):(zeroValue 21).run Tryz.prog w = .ok (.int .i32 0) w:=by kernel_rfl
def SMapN (w:World) (b n:Nat) (f:List UInt8 -> Option Int):Prop :=
  ∃ D:DataW Unit,w.ownsMap Tryz.prog 9 (plainElem Tryz.prog 21) b n D /\ IsMap D /\
    ∀ s:List UInt8,Maps.has D (.string s) = (f s).isSome /\ D.atKey (.string s) (.lit (.int .i32 0)) = .lit (.int .i32 ((f s).getD 0))
theorem SMapN.made (w:World):SMapN (w.alloc (.map #[] 0)) w.heap.size 0 (fun _=>none) :=
 ⟨_,World.ownsMap_made w Tryz.prog _ _,isMap_empty,fun s=>⟨rfl,rfl⟩⟩
theorem SMapN.kept {w w':World} {b n:Nat} {f:List UInt8 -> Option Int} (h:SMapN w b n f) (hb:Below w.heap.size w w'):SMapN w' b n f:=by
 obtain ⟨D,h1,h2,h3⟩:=h;exact ⟨D,h1.kept (row:=none) ⟨hb.os,hb.tape,hb.output,hb.size,fun k hk _=>hb.block k hk⟩ (by simp),h2,h3⟩
theorem SMapN.drew {w:World} {b n:Nat} {f:List UInt8 -> Option Int} (h:SMapN w b n f):SMapN w.drew b n f:=h
theorem SMapN.lt {w:World} {b n:Nat} {f:List UInt8 -> Option Int} (h:SMapN w b n f):b < w.heap.size:=by
 obtain ⟨D,h1,_⟩:=h;exact h1.lt
theorem wpList_sm_insert {ops:Array Oper} {rest:List Oper} {o:Oper} {a:Act} {Q:Exit -> Act -> World -> Prop} {w:World} (hg:o.guard = none) (m x v:Operand) (hop:o.op = Op.insert 111 m x v)
  (w0:World) (n:Nat) (f:List UInt8 -> Option Int) (hm:a.eval m = .map (some w0.heap.size)) (h:SMapN w w0.heap.size n f /\ Below w0.heap.size w0 w) (hn:n < maxLen) (s:ByteArray) (hs:s.size <= maxLen) (c:Int) (hc:(Lit.int .i32 c).wf = true)
  (hx:a.eval x = .string s) (hv:a.eval v = .int .i32 c)
  (hK:∀ w',(SMapN w' w0.heap.size (n + 1) (fun y=>if y = s.data.toList then some c else f y) /\ Below w0.heap.size w0 w') -> wpList Tryz.prog ops Q rest (a.put o.dst undef) w'):wpList Tryz.prog ops Q (o :: rest) a w:=by
 obtain ⟨⟨D,h1,h2,h3⟩,hB⟩:=h;obtain ⟨w',hrun,r1,r2⟩:=h1.update keyedS Tryz.underlying111 hn (keyOf_string_mk Tryz.underlying9 hs) (plainElem_int Tryz.underlying21 hc);refine wpList_plain hg fun K' hK'=>?_
 unfold Oper.wp;simp [execOp,hop,hm,hx,hv,hrun,Result.andThen];refine hK' _ _ (hK w' ⟨⟨_,r1,h2.put _ _,fun y=>?_⟩,hB.grown r2 (Nat.le_of_lt h1.lt) (fun k hk=>by cases hk;exact Nat.le_refl _)⟩)
 by_cases e:y = s.data.toList
 ·subst e;exact ⟨(has_put_same h2 (show WideAt.IsKeyLit (.string s.data.toList) from trivial) _).trans (by simp),(atKey_put_same h2 (show WideAt.IsKeyLit (.string s.data.toList) from trivial) _ _).trans (by simp)⟩
 ·have hne:(Lit.string y) ≠ (Lit.string s.data.toList):=fun h=>e (by injection h)
  obtain ⟨g1,g2⟩:=h3 y;exact ⟨(has_put_other hne _).trans (by simp [g1,e]),(atKey_put_other hne _ _).trans (by simp [g2,e])⟩
theorem wpList_sm_look {ops:Array Oper} {rest:List Oper} {o:Oper} {a:Act} {Q:Exit -> Act -> World -> Prop} {w:World} (hg:o.guard = none) (m x:Operand) (hop:o.op = Op.lookup 111 m x true)
  (b n:Nat) (f:List UInt8 -> Option Int) (hm:a.eval m = .map (some b)) (h:SMapN w b n f) (s:ByteArray) (hs:s.size <= maxLen) (hx:a.eval x = .string s)
  (hK:wpList Tryz.prog ops Q rest (a.put o.dst (.tuple #[.int .i32 ((f s.data.toList).getD 0),.bool (f s.data.toList).isSome])) w):wpList Tryz.prog ops Q (o :: rest) a w:=by
 obtain ⟨D,h1,h2,h3⟩:=h;refine wpList_lookup_own_ok_int w hg m x 111 hop 9 21 .i32 keyedS Tryz.underlying111 Tryz.underlying21 (zeroR w) b n D hm h1 _ (.string s.data.toList) hx (keyOf_string_mk Tryz.underlying9 hs) (fun c hc _=>?_);obtain ⟨g1,g2⟩:=h3 s.data.toList;rw [g2] at hc;injection hc with hc;injection hc with _ hc;rw [g1,<- hc];exact hK
end Go.Proofs.YtmgpmdfmkdhfgaaGreatDoor
namespace Go.Proofs.YtmgpmdfmkdhfgaaGreatDoor
open Go.RowKit
set_option linter.unusedVariables false
set_option linter.unusedSimpArgs false
set_option maxRecDepth 100000
set_option maxHeartbeats 16000000
def putN (f:List UInt8 -> Option Int) (k:List UInt8) (c:Int):List UInt8 -> Option Int:=fun y=>if y = k then some c else f y
def nameN:List UInt8 -> Option Int :=
  putN (putN (putN (putN (putN (putN (putN (putN (putN (putN (putN (putN (putN (putN (putN (putN (fun _=>none) [97,109,112] 38) [108,116] 60) [103,116] 62) [113,117,111,116] 34) [97,112,111,115] 39) [110,98,115,112] 160) [99,111,112,121] 169) [114,101,103] 174) [101,117,114,111] 8364) [104,101,108,108,105,112] 8230) [110,100,97,115,104] 8211) [109,100,97,115,104] 8212) [108,115,113,117,111] 8216) [114,115,113,117,111] 8217) [108,100,113,117,111] 8220) [114,100,113,117,111] 8221
theorem signs_any (w:World):Calls Tryz.prog 69 #[] w fun e w'=>e = .returned (.map (some w.heap.size)) /\ SMapN w' w.heap.size 16 nameN /\ Below w.heap.size w w':=by
 have hst:SMapN (w.alloc (.map #[] 0)) w.heap.size 0 (fun _=>none) /\ Below w.heap.size w (w.alloc (.map #[] 0)):=⟨SMapN.made w,(Below.refl _ w).alloc (Nat.le_refl _) _⟩
 have hmm:=@run_makeMap Tryz.prog;go_enter Tryz.func69,Tryz.ntmps69;go_wp2_with (refine wpList_sm_insert rfl _ _ _ rfl w _ _ rfl hst (by decide) _ (by decide) _ (by decide) rfl rfl ?_;clear hst;intro w1 hst);go_ret;exact ⟨rfl,hst.1,hst.2⟩
theorem dropWhile_le (p:UInt8 -> Bool) (l:List UInt8):(l.dropWhile p).length <= l.length:=(List.dropWhile_sublist (l:=l) p).length_le
theorem trimS_length (l cs:List UInt8):(Lib.trimS l cs).length <= l.length:=by
 unfold Lib.trimS Lib.trimLeftS Lib.trimRightS;have h1:=dropWhile_le (fun x=>cs.contains x) ((l.reverse.dropWhile fun x=>cs.contains x).reverse);have h2:=dropWhile_le (fun x=>cs.contains x) l.reverse;rw [List.length_reverse] at h1 h2;omega
theorem kind_none {x:List UInt8} (h:∀ y ∈ labels,x ≠ y):kindOf x = 0:=by
 have e:labels.idxOf x = 17:=by
  have:x ∉ labels:=fun hm=>h x hm rfl
  rw [List.idxOf_eq_length this];rfl
 unfold kindOf;rw [e];rfl
theorem listT {X:ByteArray} {x y:List UInt8} (hX:X = str x) (h:x = y):(X.toList == y) = true:=by
 rw [hX,str_list,h];simp
theorem listF {X:ByteArray} {x y:List UInt8} (hX:X = str x) (h:x ≠ y):(X.toList == y) = false:=by
 rw [hX,str_list];simp [h]
theorem known_any (s:ByteArray) (w:World) (hs:s.size <= 70368744177664) :
  Calls Tryz.prog 171 #[.string s] w fun e w'=>e = .returned (knownV (kindL s.data.toList)) /\ Below w.heap.size w w':=by
 obtain ⟨x,hx⟩:∃ x,x = cleanL s.data.toList:=⟨_,rfl⟩
 obtain ⟨X,hX⟩:∃ X,X = str x:=⟨_,rfl⟩
 have HX:Hid (str (cleanL s.data.toList) = X):=hide (by rw [hX,hx]);have hk:kindL s.data.toList = kindOf x:=by rw [hx];rfl
 rw [hk];have HXX:=hide hX
 have HSZ:Hid ((str (Lib.trimS s.data.toList whiteSet)).size <= 70368744177664):=hide (by
  rw [str_size];have h:=trimS_length s.data.toList whiteSet;rw [toList_length] at h;omega)
 clear hx hX hk
 by_cases h0:x = [117,116,102,45,56]
 ·have HV:Hid (knownV (kindOf x) = .tuple #[.string ⟨#[117,116,102,45,56]⟩,.bool true]):=hide (by rw [h0,show kindOf [117,116,102,45,56] = 1 from by decide +kernel];rfl);have t0:(X.toList == [117,116,102,45,56]) = true:=listT HXX.out h0;clear h0;go_enter Tryz.func171,Tryz.ntmps171;go_wp2_with fail;refine (trim_any s _ (by unfold maxLen;omega)).mono ?_;rintro e w1 ⟨rfl,hb1⟩;go_wp2_with fail;refine (lower_any _ _ HSZ.out).mono ?_;rintro e w2 ⟨rfl,hb2⟩;rw [str_toList,show lowL (Lib.trimS s.data.toList whiteSet) = cleanL s.data.toList from rfl,HX.out];have hbb:=hb1.trans (hb2.mono hb1.size);go_wp2_with fail;go_ret2;exact ⟨by rw [HV.out];rfl,hbb⟩
 have t0:(X.toList == [117,116,102,45,56]) = false:=listF HXX.out h0
 by_cases h1:x = [117,116,102,56]
 ·have HV:Hid (knownV (kindOf x) = .tuple #[.string ⟨#[117,116,102,45,56]⟩,.bool true]):=hide (by rw [h1,show kindOf [117,116,102,56] = 1 from by decide +kernel];rfl);have t1:(X.toList == [117,116,102,56]) = true:=listT HXX.out h1;clear h0 h1;go_enter Tryz.func171,Tryz.ntmps171;go_wp2_with fail;refine (trim_any s _ (by unfold maxLen;omega)).mono ?_;rintro e w1 ⟨rfl,hb1⟩;go_wp2_with fail;refine (lower_any _ _ HSZ.out).mono ?_;rintro e w2 ⟨rfl,hb2⟩;rw [str_toList,show lowL (Lib.trimS s.data.toList whiteSet) = cleanL s.data.toList from rfl,HX.out];have hbb:=hb1.trans (hb2.mono hb1.size);go_wp2_with fail;go_ret2;exact ⟨by rw [HV.out];rfl,hbb⟩
 have t1:(X.toList == [117,116,102,56]) = false:=listF HXX.out h1
 by_cases h2:x = [117,110,105,99,111,100,101,45,49,45,49,45,117,116,102,45,56]
 ·have HV:Hid (knownV (kindOf x) = .tuple #[.string ⟨#[117,116,102,45,56]⟩,.bool true]):=hide (by rw [h2,show kindOf [117,110,105,99,111,100,101,45,49,45,49,45,117,116,102,45,56] = 1 from by decide +kernel];rfl);have t2:(X.toList == [117,110,105,99,111,100,101,45,49,45,49,45,117,116,102,45,56]) = true:=listT HXX.out h2;clear h0 h1 h2;go_enter Tryz.func171,Tryz.ntmps171;go_wp2_with fail;refine (trim_any s _ (by unfold maxLen;omega)).mono ?_;rintro e w1 ⟨rfl,hb1⟩;go_wp2_with fail;refine (lower_any _ _ HSZ.out).mono ?_;rintro e w2 ⟨rfl,hb2⟩;rw [str_toList,show lowL (Lib.trimS s.data.toList whiteSet) = cleanL s.data.toList from rfl,HX.out];have hbb:=hb1.trans (hb2.mono hb1.size);go_wp2_with fail;go_ret2;exact ⟨by rw [HV.out];rfl,hbb⟩
 have t2:(X.toList == [117,110,105,99,111,100,101,45,49,45,49,45,117,116,102,45,56]) = false:=listF HXX.out h2
 by_cases h3:x = [119,105,110,100,111,119,115,45,49,50,53,50]
 ·have HV:Hid (knownV (kindOf x) = .tuple #[.string ⟨#[119,105,110,100,111,119,115,45,49,50,53,50]⟩,.bool true]):=hide (by rw [h3,show kindOf [119,105,110,100,111,119,115,45,49,50,53,50] = 2 from by decide +kernel];rfl);have t3:(X.toList == [119,105,110,100,111,119,115,45,49,50,53,50]) = true:=listT HXX.out h3;clear h0 h1 h2 h3;go_enter Tryz.func171,Tryz.ntmps171;go_wp2_with fail;refine (trim_any s _ (by unfold maxLen;omega)).mono ?_;rintro e w1 ⟨rfl,hb1⟩;go_wp2_with fail;refine (lower_any _ _ HSZ.out).mono ?_;rintro e w2 ⟨rfl,hb2⟩;rw [str_toList,show lowL (Lib.trimS s.data.toList whiteSet) = cleanL s.data.toList from rfl,HX.out];have hbb:=hb1.trans (hb2.mono hb1.size);go_wp2_with fail;go_ret2;exact ⟨by rw [HV.out];rfl,hbb⟩
 have t3:(X.toList == [119,105,110,100,111,119,115,45,49,50,53,50]) = false:=listF HXX.out h3
 by_cases h4:x = [99,112,49,50,53,50]
 ·have HV:Hid (knownV (kindOf x) = .tuple #[.string ⟨#[119,105,110,100,111,119,115,45,49,50,53,50]⟩,.bool true]):=hide (by rw [h4,show kindOf [99,112,49,50,53,50] = 2 from by decide +kernel];rfl);have t4:(X.toList == [99,112,49,50,53,50]) = true:=listT HXX.out h4;clear h0 h1 h2 h3 h4;go_enter Tryz.func171,Tryz.ntmps171;go_wp2_with fail;refine (trim_any s _ (by unfold maxLen;omega)).mono ?_;rintro e w1 ⟨rfl,hb1⟩;go_wp2_with fail;refine (lower_any _ _ HSZ.out).mono ?_;rintro e w2 ⟨rfl,hb2⟩;rw [str_toList,show lowL (Lib.trimS s.data.toList whiteSet) = cleanL s.data.toList from rfl,HX.out];have hbb:=hb1.trans (hb2.mono hb1.size);go_wp2_with fail;go_ret2;exact ⟨by rw [HV.out];rfl,hbb⟩
 have t4:(X.toList == [99,112,49,50,53,50]) = false:=listF HXX.out h4
 by_cases h5:x = [117,115,45,97,115,99,105,105]
 ·have HV:Hid (knownV (kindOf x) = .tuple #[.string ⟨#[119,105,110,100,111,119,115,45,49,50,53,50]⟩,.bool true]):=hide (by rw [h5,show kindOf [117,115,45,97,115,99,105,105] = 2 from by decide +kernel];rfl);have t5:(X.toList == [117,115,45,97,115,99,105,105]) = true:=listT HXX.out h5;clear h0 h1 h2 h3 h4 h5;go_enter Tryz.func171,Tryz.ntmps171;go_wp2_with fail;refine (trim_any s _ (by unfold maxLen;omega)).mono ?_;rintro e w1 ⟨rfl,hb1⟩;go_wp2_with fail;refine (lower_any _ _ HSZ.out).mono ?_;rintro e w2 ⟨rfl,hb2⟩;rw [str_toList,show lowL (Lib.trimS s.data.toList whiteSet) = cleanL s.data.toList from rfl,HX.out];have hbb:=hb1.trans (hb2.mono hb1.size);go_wp2_with fail;go_ret2;exact ⟨by rw [HV.out];rfl,hbb⟩
 have t5:(X.toList == [117,115,45,97,115,99,105,105]) = false:=listF HXX.out h5
 by_cases h6:x = [97,115,99,105,105]
 ·have HV:Hid (knownV (kindOf x) = .tuple #[.string ⟨#[119,105,110,100,111,119,115,45,49,50,53,50]⟩,.bool true]):=hide (by rw [h6,show kindOf [97,115,99,105,105] = 2 from by decide +kernel];rfl);have t6:(X.toList == [97,115,99,105,105]) = true:=listT HXX.out h6;clear h0 h1 h2 h3 h4 h5 h6;go_enter Tryz.func171,Tryz.ntmps171;go_wp2_with fail;refine (trim_any s _ (by unfold maxLen;omega)).mono ?_;rintro e w1 ⟨rfl,hb1⟩;go_wp2_with fail;refine (lower_any _ _ HSZ.out).mono ?_;rintro e w2 ⟨rfl,hb2⟩;rw [str_toList,show lowL (Lib.trimS s.data.toList whiteSet) = cleanL s.data.toList from rfl,HX.out];have hbb:=hb1.trans (hb2.mono hb1.size);go_wp2_with fail;go_ret2;exact ⟨by rw [HV.out];rfl,hbb⟩
 have t6:(X.toList == [97,115,99,105,105]) = false:=listF HXX.out h6
 by_cases h7:x = [105,115,111,45,56,56,53,57,45,49]
 ·have HV:Hid (knownV (kindOf x) = .tuple #[.string ⟨#[119,105,110,100,111,119,115,45,49,50,53,50]⟩,.bool true]):=hide (by rw [h7,show kindOf [105,115,111,45,56,56,53,57,45,49] = 2 from by decide +kernel];rfl);have t7:(X.toList == [105,115,111,45,56,56,53,57,45,49]) = true:=listT HXX.out h7;clear h0 h1 h2 h3 h4 h5 h6 h7;go_enter Tryz.func171,Tryz.ntmps171;go_wp2_with fail;refine (trim_any s _ (by unfold maxLen;omega)).mono ?_;rintro e w1 ⟨rfl,hb1⟩;go_wp2_with fail;refine (lower_any _ _ HSZ.out).mono ?_;rintro e w2 ⟨rfl,hb2⟩;rw [str_toList,show lowL (Lib.trimS s.data.toList whiteSet) = cleanL s.data.toList from rfl,HX.out];have hbb:=hb1.trans (hb2.mono hb1.size);go_wp2_with fail;go_ret2;exact ⟨by rw [HV.out];rfl,hbb⟩
 have t7:(X.toList == [105,115,111,45,56,56,53,57,45,49]) = false:=listF HXX.out h7
 by_cases h8:x = [105,115,111,56,56,53,57,45,49]
 ·have HV:Hid (knownV (kindOf x) = .tuple #[.string ⟨#[119,105,110,100,111,119,115,45,49,50,53,50]⟩,.bool true]):=hide (by rw [h8,show kindOf [105,115,111,56,56,53,57,45,49] = 2 from by decide +kernel];rfl);have t8:(X.toList == [105,115,111,56,56,53,57,45,49]) = true:=listT HXX.out h8;clear h0 h1 h2 h3 h4 h5 h6 h7 h8;go_enter Tryz.func171,Tryz.ntmps171;go_wp2_with fail;refine (trim_any s _ (by unfold maxLen;omega)).mono ?_;rintro e w1 ⟨rfl,hb1⟩;go_wp2_with fail;refine (lower_any _ _ HSZ.out).mono ?_;rintro e w2 ⟨rfl,hb2⟩;rw [str_toList,show lowL (Lib.trimS s.data.toList whiteSet) = cleanL s.data.toList from rfl,HX.out];have hbb:=hb1.trans (hb2.mono hb1.size);go_wp2_with fail;go_ret2;exact ⟨by rw [HV.out];rfl,hbb⟩
 have t8:(X.toList == [105,115,111,56,56,53,57,45,49]) = false:=listF HXX.out h8
 by_cases h9:x = [108,97,116,105,110,49]
 ·have HV:Hid (knownV (kindOf x) = .tuple #[.string ⟨#[119,105,110,100,111,119,115,45,49,50,53,50]⟩,.bool true]):=hide (by rw [h9,show kindOf [108,97,116,105,110,49] = 2 from by decide +kernel];rfl);have t9:(X.toList == [108,97,116,105,110,49]) = true:=listT HXX.out h9;clear h0 h1 h2 h3 h4 h5 h6 h7 h8 h9;go_enter Tryz.func171,Tryz.ntmps171;go_wp2_with fail;refine (trim_any s _ (by unfold maxLen;omega)).mono ?_;rintro e w1 ⟨rfl,hb1⟩;go_wp2_with fail;refine (lower_any _ _ HSZ.out).mono ?_;rintro e w2 ⟨rfl,hb2⟩;rw [str_toList,show lowL (Lib.trimS s.data.toList whiteSet) = cleanL s.data.toList from rfl,HX.out];have hbb:=hb1.trans (hb2.mono hb1.size);go_wp2_with fail;go_ret2;exact ⟨by rw [HV.out];rfl,hbb⟩
 have t9:(X.toList == [108,97,116,105,110,49]) = false:=listF HXX.out h9
 by_cases h10:x = [108,49]
 ·have HV:Hid (knownV (kindOf x) = .tuple #[.string ⟨#[119,105,110,100,111,119,115,45,49,50,53,50]⟩,.bool true]):=hide (by rw [h10,show kindOf [108,49] = 2 from by decide +kernel];rfl);have t10:(X.toList == [108,49]) = true:=listT HXX.out h10;clear h0 h1 h2 h3 h4 h5 h6 h7 h8 h9 h10;go_enter Tryz.func171,Tryz.ntmps171;go_wp2_with fail;refine (trim_any s _ (by unfold maxLen;omega)).mono ?_;rintro e w1 ⟨rfl,hb1⟩;go_wp2_with fail;refine (lower_any _ _ HSZ.out).mono ?_;rintro e w2 ⟨rfl,hb2⟩;rw [str_toList,show lowL (Lib.trimS s.data.toList whiteSet) = cleanL s.data.toList from rfl,HX.out];have hbb:=hb1.trans (hb2.mono hb1.size);go_wp2_with fail;go_ret2;exact ⟨by rw [HV.out];rfl,hbb⟩
 have t10:(X.toList == [108,49]) = false:=listF HXX.out h10
 by_cases h11:x = [117,116,102,45,49,54,108,101]
 ·have HV:Hid (knownV (kindOf x) = .tuple #[.string ⟨#[117,116,102,45,49,54,108,101]⟩,.bool true]):=hide (by rw [h11,show kindOf [117,116,102,45,49,54,108,101] = 3 from by decide +kernel];rfl);have t11:(X.toList == [117,116,102,45,49,54,108,101]) = true:=listT HXX.out h11;clear h0 h1 h2 h3 h4 h5 h6 h7 h8 h9 h10 h11;go_enter Tryz.func171,Tryz.ntmps171;go_wp2_with fail;refine (trim_any s _ (by unfold maxLen;omega)).mono ?_;rintro e w1 ⟨rfl,hb1⟩;go_wp2_with fail;refine (lower_any _ _ HSZ.out).mono ?_;rintro e w2 ⟨rfl,hb2⟩;rw [str_toList,show lowL (Lib.trimS s.data.toList whiteSet) = cleanL s.data.toList from rfl,HX.out];have hbb:=hb1.trans (hb2.mono hb1.size);go_wp2_with fail;go_ret2;exact ⟨by rw [HV.out];rfl,hbb⟩
 have t11:(X.toList == [117,116,102,45,49,54,108,101]) = false:=listF HXX.out h11
 by_cases h12:x = [117,116,102,45,49,54]
 ·have HV:Hid (knownV (kindOf x) = .tuple #[.string ⟨#[117,116,102,45,49,54,108,101]⟩,.bool true]):=hide (by rw [h12,show kindOf [117,116,102,45,49,54] = 3 from by decide +kernel];rfl);have t12:(X.toList == [117,116,102,45,49,54]) = true:=listT HXX.out h12;clear h0 h1 h2 h3 h4 h5 h6 h7 h8 h9 h10 h11 h12;go_enter Tryz.func171,Tryz.ntmps171;go_wp2_with fail;refine (trim_any s _ (by unfold maxLen;omega)).mono ?_;rintro e w1 ⟨rfl,hb1⟩;go_wp2_with fail;refine (lower_any _ _ HSZ.out).mono ?_;rintro e w2 ⟨rfl,hb2⟩;rw [str_toList,show lowL (Lib.trimS s.data.toList whiteSet) = cleanL s.data.toList from rfl,HX.out];have hbb:=hb1.trans (hb2.mono hb1.size);go_wp2_with fail;go_ret2;exact ⟨by rw [HV.out];rfl,hbb⟩
 have t12:(X.toList == [117,116,102,45,49,54]) = false:=listF HXX.out h12
 by_cases h13:x = [117,110,105,99,111,100,101]
 ·have HV:Hid (knownV (kindOf x) = .tuple #[.string ⟨#[117,116,102,45,49,54,108,101]⟩,.bool true]):=hide (by rw [h13,show kindOf [117,110,105,99,111,100,101] = 3 from by decide +kernel];rfl);have t13:(X.toList == [117,110,105,99,111,100,101]) = true:=listT HXX.out h13;clear h0 h1 h2 h3 h4 h5 h6 h7 h8 h9 h10 h11 h12 h13;go_enter Tryz.func171,Tryz.ntmps171;go_wp2_with fail;refine (trim_any s _ (by unfold maxLen;omega)).mono ?_;rintro e w1 ⟨rfl,hb1⟩;go_wp2_with fail;refine (lower_any _ _ HSZ.out).mono ?_;rintro e w2 ⟨rfl,hb2⟩;rw [str_toList,show lowL (Lib.trimS s.data.toList whiteSet) = cleanL s.data.toList from rfl,HX.out];have hbb:=hb1.trans (hb2.mono hb1.size);go_wp2_with fail;go_ret2;exact ⟨by rw [HV.out];rfl,hbb⟩
 have t13:(X.toList == [117,110,105,99,111,100,101]) = false:=listF HXX.out h13
 by_cases h14:x = [117,99,115,45,50]
 ·have HV:Hid (knownV (kindOf x) = .tuple #[.string ⟨#[117,116,102,45,49,54,108,101]⟩,.bool true]):=hide (by rw [h14,show kindOf [117,99,115,45,50] = 3 from by decide +kernel];rfl);have t14:(X.toList == [117,99,115,45,50]) = true:=listT HXX.out h14;clear h0 h1 h2 h3 h4 h5 h6 h7 h8 h9 h10 h11 h12 h13 h14;go_enter Tryz.func171,Tryz.ntmps171;go_wp2_with fail;refine (trim_any s _ (by unfold maxLen;omega)).mono ?_;rintro e w1 ⟨rfl,hb1⟩;go_wp2_with fail;refine (lower_any _ _ HSZ.out).mono ?_;rintro e w2 ⟨rfl,hb2⟩;rw [str_toList,show lowL (Lib.trimS s.data.toList whiteSet) = cleanL s.data.toList from rfl,HX.out];have hbb:=hb1.trans (hb2.mono hb1.size);go_wp2_with fail;go_ret2;exact ⟨by rw [HV.out];rfl,hbb⟩
 have t14:(X.toList == [117,99,115,45,50]) = false:=listF HXX.out h14
 by_cases h15:x = [117,116,102,45,49,54,98,101]
 ·have HV:Hid (knownV (kindOf x) = .tuple #[.string ⟨#[117,116,102,45,49,54,98,101]⟩,.bool true]):=hide (by rw [h15,show kindOf [117,116,102,45,49,54,98,101] = 4 from by decide +kernel];rfl);have t15:(X.toList == [117,116,102,45,49,54,98,101]) = true:=listT HXX.out h15;clear h0 h1 h2 h3 h4 h5 h6 h7 h8 h9 h10 h11 h12 h13 h14 h15;go_enter Tryz.func171,Tryz.ntmps171;go_wp2_with fail;refine (trim_any s _ (by unfold maxLen;omega)).mono ?_;rintro e w1 ⟨rfl,hb1⟩;go_wp2_with fail;refine (lower_any _ _ HSZ.out).mono ?_;rintro e w2 ⟨rfl,hb2⟩;rw [str_toList,show lowL (Lib.trimS s.data.toList whiteSet) = cleanL s.data.toList from rfl,HX.out];have hbb:=hb1.trans (hb2.mono hb1.size);go_wp2_with fail;go_ret2;exact ⟨by rw [HV.out];rfl,hbb⟩
 have t15:(X.toList == [117,116,102,45,49,54,98,101]) = false:=listF HXX.out h15
 by_cases h16:x = [117,110,105,99,111,100,101,102,102,102,101]
 ·have HV:Hid (knownV (kindOf x) = .tuple #[.string ⟨#[117,116,102,45,49,54,98,101]⟩,.bool true]):=hide (by rw [h16,show kindOf [117,110,105,99,111,100,101,102,102,102,101] = 4 from by decide +kernel];rfl);have t16:(X.toList == [117,110,105,99,111,100,101,102,102,102,101]) = true:=listT HXX.out h16;clear h0 h1 h2 h3 h4 h5 h6 h7 h8 h9 h10 h11 h12 h13 h14 h15 h16;go_enter Tryz.func171,Tryz.ntmps171;go_wp2_with fail;refine (trim_any s _ (by unfold maxLen;omega)).mono ?_;rintro e w1 ⟨rfl,hb1⟩;go_wp2_with fail;refine (lower_any _ _ HSZ.out).mono ?_;rintro e w2 ⟨rfl,hb2⟩;rw [str_toList,show lowL (Lib.trimS s.data.toList whiteSet) = cleanL s.data.toList from rfl,HX.out];have hbb:=hb1.trans (hb2.mono hb1.size);go_wp2_with fail;go_ret2;exact ⟨by rw [HV.out];rfl,hbb⟩
 have t16:(X.toList == [117,110,105,99,111,100,101,102,102,102,101]) = false:=listF HXX.out h16
 have HV:Hid (knownV (kindOf x) = .tuple #[.string ⟨#[]⟩,.bool false]):=hide (by
  rw [kind_none (x:=x) (by
   intro y hy;simp only [labels,List.mem_cons,List.mem_nil_iff,or_false] at hy;rcases hy with rfl | rfl | rfl | rfl | rfl | rfl | rfl | rfl | rfl | rfl | rfl | rfl | rfl | rfl | rfl | rfl | rfl
   all_goals assumption)]
  rfl)
 clear h0 h1 h2 h3 h4 h5 h6 h7 h8 h9 h10 h11 h12 h13 h14 h15 h16;go_enter Tryz.func171,Tryz.ntmps171;go_wp2_with fail;refine (trim_any s _ (by unfold maxLen;omega)).mono ?_;rintro e w1 ⟨rfl,hb1⟩;go_wp2_with fail;refine (lower_any _ _ HSZ.out).mono ?_;rintro e w2 ⟨rfl,hb2⟩;rw [str_toList,show lowL (Lib.trimS s.data.toList whiteSet) = cleanL s.data.toList from rfl,HX.out];have hbb:=hb1.trans (hb2.mono hb1.size);go_wp2_with fail;go_ret2;exact ⟨by rw [HV.out];rfl,hbb⟩
theorem or_bytes (a b:Nat) (ha:a < 256) (hb:b < 256):bits .or .i32 ((a:Int) * 256) (b:Int) = ((256 * a + b:Nat):Int):=by
 have h1:(BitVec.ofInt 32 ((a:Int) * 256)).toNat = a * 256:=by
  rw [show (a:Int) * 256 = ((a * 256:Nat):Int) from by omega,BitVec.ofInt_natCast,BitVec.toNat_ofNat];exact Nat.mod_eq_of_lt (by omega)
 have h2:(BitVec.ofInt 32 (b:Int)).toNat = b:=by
  rw [BitVec.ofInt_natCast,BitVec.toNat_ofNat];exact Nat.mod_eq_of_lt (by omega)
 show IntKind.i32.wrap ((BitVec.ofInt 32 ((a:Int) * 256) ||| BitVec.ofInt 32 (b:Int)).toNat:Int) = _
 rw [BitVec.toNat_or,h1,h2]
 have e:a * 256 ||| b = 256 * a + b:=by
  have:=Nat.two_pow_add_eq_or_of_lt (i:=8) (b:=b) (by omega) a;rw [Nat.mul_comm a 256];exact this.symm
 rw [e];exact IntWalk.i32_in _ (by omega)
def hiAt (big:Bool):Int:=if big then 0 else 1
theorem number_any (s:ByteArray) (big:Bool) (w:World) (hs:s.size <= maxLen) (h2:1 < s.size) :
  Calls Tryz.prog 219 #[.string s,.int .i64 (hiAt big)] w fun e w'=>e = .returned (.int .i32 (num big s[0] s[1])) /\ Below w.heap.size w w':=by
 unfold maxLen at hs;have ha:=byte_lt s[0];have hb:=byte_lt s[1];have i0:(0:Int) < s.size:=by omega
 have i1:(1:Int) < s.size:=by omega
 have n0:0 < s.size:=by omega
 cases big
 ·have ho:=or_bytes s[1].toNat s[0].toNat hb ha;show Calls _ _ #[.string s,.int .i64 1] _ _
  go_enter Tryz.func219,Tryz.ntmps219;go_wp2_with fail;go_region
  all_goals (try go_wp2)
  all_goals
   go_ret;exact ⟨ret_int (by unfold num;simp),(Below.refl _ _).drew⟩
 ·have ho:=or_bytes s[0].toNat s[1].toNat ha hb;show Calls _ _ #[.string s,.int .i64 0] _ _
  go_enter Tryz.func219,Tryz.ntmps219;go_wp2_with fail;go_region
  all_goals (try go_wp2)
  all_goals
   go_ret;exact ⟨ret_int (by unfold num;simp),(Below.refl _ _).drew⟩
theorem number_list (s:ByteArray) (big:Bool) (a b:UInt8) (r:List UInt8) (w:World) (hs:s.size <= maxLen) (h:s.data.toList = a :: b :: r) :
  Calls Tryz.prog 219 #[.string s,.int .i64 (hiAt big)] w fun e w'=>e = .returned (.int .i32 (num big a b)) /\ Below w.heap.size w w':=by
 have hl:=toList_length s;rw [h] at hl;simp only [List.length_cons] at hl;have h1:1 < s.size:=by omega
 have e:=drop_cons s 0 (by omega);rw [List.drop_zero,drop_cons s 1 h1,h] at e;injection e with e1 e;injection e with e2 e;have:=number_any s big w hs h1;rw [<- e1,<- e2] at this;exact this
def fsV (big:Bool) (l:List UInt8):Value:=.tuple #[.int .i32 (fsS big l).1,.int .i64 (fsS big l).2]
theorem fsV_of {big:Bool} {l:List UInt8} {z:Int} {n:Nat} (h:fsS big l = (z,n)):fsV big l = .tuple #[.int .i32 z,.int .i64 n]:=by unfold fsV;rw [h]
theorem firstSign_any (s:ByteArray) (big:Bool) (w:World) (hs:s.size <= maxLen) (h2:1 < s.size) :
  Calls Tryz.prog 198 #[.string s,.int .i64 (hiAt big)] w fun e w'=>e = .returned (fsV big s.data.toList) /\ Below w.heap.size w w':=by
 have hs':=hs;unfold maxLen at hs
 obtain ⟨a,b,r,hl⟩:∃ a b r,s.data.toList = a :: b :: r:=by
  have e:=drop_cons s 0 (by omega);rw [List.drop_zero,drop_cons s 1 h2] at e;exact ⟨_,_,_,e⟩
 have hlen:=toList_length s;rw [hl] at hlen;simp only [List.length_cons] at hlen;have HN:=hide (fun (w:World)=>number_list s big a b r w hs' hl);have hlt:=num_lt big a b;obtain ⟨x,hx⟩:∃ x,x = num big a b:=⟨_,rfl⟩
 rw [hl];have hi:∃ z,z = hiAt big:=⟨_,rfl⟩
 obtain ⟨z,hz⟩:=hi;rw [<- hz];have HZ:=hide hz;rw [<- hz,<- hx] at HN;rw [<- hx] at hlt;have HX:=hide hx;clear hx hz
 by_cases c1:x < 55296
 ·have HV:=hide (fsV_of (big:=big) (l:=a :: b :: r) (z:=x) (n:=2) (by rw [fsS,<- HX.out,if_pos (.inl c1)]));clear hlen;go_enter Tryz.func198,Tryz.ntmps198;go_wp2_with fail;refine (HN.out _).mono ?_;rintro e w1 ⟨rfl,hb1⟩;go_wp2_with fail;go_ret2;exact ⟨by rw [HV.out];rfl,hb1⟩
 by_cases c2:57344 <= x
 ·have HV:=hide (fsV_of (big:=big) (l:=a :: b :: r) (z:=x) (n:=2) (by rw [fsS,<- HX.out,if_pos (.inr c2)]));clear hlen;go_enter Tryz.func198,Tryz.ntmps198;go_wp2_with fail;refine (HN.out _).mono ?_;rintro e w1 ⟨rfl,hb1⟩;go_wp2_with fail;go_ret2;exact ⟨by rw [HV.out];rfl,hb1⟩
 have c12:¬ (x < 55296 \/ 57344 <= x):=by omega
 have t1:decide ((x:Int) < 55296) = false:=decide_eq_false (by omega);have t2:decide ((57344:Int) <= x) = false:=decide_eq_false (by omega);have C12:=hide c12;have K1:Hid (55296 <= x):=hide (by omega);clear c12 c1 c2
 by_cases c3:x < 56320
 ·have t3:decide ((x:Int) < 56320) = true:=decide_eq_true (by omega);have C3:=hide c3;clear c3
  by_cases c4:3 < s.size
  ·have t4:decide ((3:Int) < s.size) = true:=decide_eq_true (by omega);have s2:(2:Int) <= s.size:=by omega
   obtain ⟨c,d,r',hr⟩:∃ c d r',r = c :: d :: r':=by
    match r,hlen with
    | c :: d :: r',_=>exact ⟨c,d,r',rfl⟩
    | [c],h=>simp at h;omega
    | [],h=>simp at h;omega
   subst hr;have hx2:(s.extract 2 s.size).data.toList = c :: d :: r':=by rw [extract_end,hl];rfl
   have HN2:=hide (fun (w:World)=>number_list (s.extract 2 s.size) big c d r' w (by have:=extract_size_le s 2 s.size;unfold maxLen;omega) hx2);have hlt2:=num_lt big c d;obtain ⟨y,hy⟩:∃ y,y = num big c d:=⟨_,rfl⟩
   rw [<- HZ.out,<- hy] at HN2;rw [<- hy] at hlt2;have HY:=hide hy;clear hy hx2 hl c4
   by_cases c5:56320 <= y /\ y < 57344
   ·have HV:=hide (fsV_of (big:=big) (l:=a :: b :: c :: d :: r') (z:=pairV x y) (n:=4) (by rw [fsS,<- HX.out,if_neg C12.out,if_pos C3.out,fsT,<- HY.out,if_pos c5]));have t5:decide ((56320:Int) <= y) = true:=decide_eq_true (by omega);have t6:decide ((y:Int) < 57344) = true:=decide_eq_true (by omega);have k1:=K1.out;have k3:=C3.out;obtain ⟨k5,k6⟩:=c5;clear hlen;go_enter Tryz.func198,Tryz.ntmps198;go_wp2_with fail;refine (HN.out _).mono ?_;rintro e w1 ⟨rfl,hb1⟩;go_wp2_with fail;refine (HN2.out _).mono ?_;rintro e w2 ⟨rfl,hb2⟩;go_upto_region 7 with (fail)
    clear t1 t2 t3 t4 t5 t6 hlt hlt2 h2 s2 hs';go_wp2_with fail;go_ret2;refine ⟨?_,hb1.trans (hb2.mono hb1.size)⟩;rw [HV.out];show Ending.returned (.tuple #[.int .i32 _,.int .i64 _]) = _
    congr 5
    unfold pairV;omega
   ·have HV:=hide (fsV_of (big:=big) (l:=a :: b :: c :: d :: r') (z:=65533) (n:=2) (by rw [fsS,<- HX.out,if_neg C12.out,if_pos C3.out,fsT,<- HY.out,if_neg c5]));have c6:y < 56320 \/ (56320 <= y /\ 57344 <= y):=by omega
    have c7:decide ((56320:Int) <= y) = false \/ (decide ((56320:Int) <= y) = true /\ decide ((y:Int) < 57344) = false):=by
     rcases c6 with c | ⟨c,c'⟩
     ·exact .inl (decide_eq_false (by omega))
     ·exact .inr ⟨decide_eq_true (by omega),decide_eq_false (by omega)⟩
    clear c5 c6;rcases c7 with t5 | ⟨t5,t6⟩
    all_goals
     clear hlen;go_enter Tryz.func198,Tryz.ntmps198;go_wp2_with fail;refine (HN.out _).mono ?_;rintro e w1 ⟨rfl,hb1⟩;go_wp2_with fail;refine (HN2.out _).mono ?_;rintro e w2 ⟨rfl,hb2⟩;go_wp2_with fail;go_ret2;exact ⟨by rw [HV.out];rfl,hb1.trans (hb2.mono hb1.size)⟩
  ·have HV:=hide (fsV_of (big:=big) (l:=a :: b :: r) (z:=65533) (n:=2) (by
    rw [fsS,<- HX.out,if_neg C12.out,if_pos C3.out]
    match r,hlen with
    | [],_=>rfl
    | [_],_=>rfl
    | _ :: _ :: r',h=>simp at h;omega))
   have t4:decide ((3:Int) < s.size) = false:=decide_eq_false (by omega);clear c4;clear hlen;go_enter Tryz.func198,Tryz.ntmps198;go_wp2_with fail;refine (HN.out _).mono ?_;rintro e w1 ⟨rfl,hb1⟩;go_wp2_with fail;go_ret2;exact ⟨by rw [HV.out];rfl,hb1⟩
 ·have HV:=hide (fsV_of (big:=big) (l:=a :: b :: r) (z:=65533) (n:=2) (by rw [fsS,<- HX.out,if_neg C12.out,if_neg c3]));have t3:decide ((x:Int) < 56320) = false:=decide_eq_false (by omega);clear c3;clear hlen;go_enter Tryz.func198,Tryz.ntmps198;go_wp2_with fail;refine (HN.out _).mono ?_;rintro e w1 ⟨rfl,hb1⟩;go_wp2_with fail;go_ret2;exact ⟨by rw [HV.out];rfl,hb1⟩
def szOf4:Value -> Nat
  | .string t=>t.size
  | _=>0
theorem fromPairs_any (s:ByteArray) (big:Bool) (w:World) (hs:s.size <= 1048576) :
  Calls Tryz.prog 173 #[.string s,.int .i64 (hiAt big)] w fun e w'=>e = .returned (.string (str (pairsL big s.data.toList))) /\ Below w.heap.size w w':=by
 have HFS:=hide (fun (t:ByteArray) (w:World) (ht:t.size <= maxLen) (h2:1 < t.size)=>firstSign_any t big w ht h2);obtain ⟨z,hz⟩:∃ z,z = hiAt big:=⟨_,rfl⟩
 rw [<- hz] at HFS ⊢;clear hz;go_enter Tryz.func173,Tryz.ntmps173;go_wp2_with (refine wpList_buf_make rfl _ _ rfl w.heap.size w (Below.refl _ _) (Nat.le_refl _) s.size s.size rfl rfl rfl (by omega) ?_;intro v0 w0 hb0);go_loopw [0,5] (fun x v wr=>∃ (t:ByteArray) (acc:List UInt8),x = .string t /\ Buf w.heap.size v acc w wr /\ acc.length + 3 * t.size <= 3 * s.size /\ acc ++ pairsL big t.data.toList = pairsL big s.data.toList) (fun x _ _=>szOf4 x)
 case atStart=>exact ⟨s,[],rfl,hb0,by simp,by simp⟩
 case round =>
  obtain ⟨t,acc,rfl,hb,hacc,hd⟩:=hrel;have HB:=hide hb;clear hb
  by_cases hlt:1 < t.size
  ·obtain ⟨p1,p2,p3,p4,p5⟩:=pairs_step big t.data.toList (by rw [toList_length];omega);have p6:=runeL_length (fsS big t.data.toList).1;rw [p1,<- List.append_assoc] at hd;rw [toList_length] at p3;have hF:fsV big t.data.toList = .tuple #[.int .i32 (fsS big t.data.toList).1,.int .i64 (fsS big t.data.toList).2]:=rfl;generalize fsS big t.data.toList = st at hd hF p2 p3 p4 p5 p6;obtain ⟨r,n⟩:=st;simp only at hd hF p2 p3 p4 p5 p6;have p7:(runeL r).length <= 3 * n:=by omega
   have p8:2 <= n:=by omega
   have HR:=hide hd;have HF:=hide hF;clear hd hF p1 p2 p6;go_wp2_with fail;refine (HFS.out t _ (by unfold maxLen;omega) hlt).mono ?_;rintro e w1 ⟨rfl,hb1⟩;rw [HF.out];have HB1:=hide (HB.out.kept hb1);go_wp2_with fail;refine (appendRune_any w.heap.size u5 acc w _ HB1.out r (by omega) (by omega) (by omega)).mono ?_;rintro e w2 ⟨v2,rfl,hb2,_⟩;have HB2:=hide hb2;clear hb2;go_wp2_with fail;go_roundw
   case rel=>exact ⟨t.extract n t.size,acc ++ _,rfl,HB2.out,by rw [ByteArray.size_extract,List.length_append];omega,by rw [extract_end];exact HR.out⟩
   case measure=>simp [szOf4];omega
  ·have hl:=toList_length t;have hp:=pairs_short big t.data.toList (by omega);rw [hl] at hp
   by_cases h1:0 < t.size
   ·rw [hp,if_pos (by omega)] at hd;have HR:=hide hd;clear hd hp hl;go_wp2_with fail;refine (appendRune_any w.heap.size u5 acc w _ HB.out 65533 (by omega) (by omega) (by omega)).mono ?_;rintro e w2 ⟨v2,rfl,hb2,_⟩;rw [runeL_bad'] at hb2;have HB2:=hide hb2;have hcv:=hb2.convert;clear hb2;go_wp2_with fail;go_ret;exact ⟨ret_str (by rw [HR.out]),HB2.out.below⟩
   ·rw [hp,if_neg (by omega),List.append_nil] at hd;have HR:=hide hd;have hcv:=HB.out.convert;clear hd hp hl;go_wp2_with fail;go_ret;exact ⟨ret_str (by rw [HR.out]),HB.out.below⟩
def decV (k:Nat) (l:List UInt8):Value:=.tuple #[.string (str (decodeL k l)),.bool (decide (0 < k))]
theorem charsDecode_any (label s:ByteArray) (w:World) (hl:label.size <= 70368744177664) (hs:s.size <= 1048576) (hT:Tab w) :
  Calls Tryz.prog 141 #[.string label,.string s] w fun e w'=>e = .returned (decV (kindL label.data.toList) s.data.toList) /\ Below w.heap.size w w':=by
 have HT:=hide hT;have H0:=hide hT.lt;clear hT;have HK:=hide (fun (w:World)=>known_any label w hl);have hk5:=kind_lt label.data.toList;generalize kindL label.data.toList = k at HK hk5;have hk:k = 0 \/ k = 1 \/ k = 2 \/ k = 3 \/ k = 4:=by omega
 clear hk5;have KV0:Hid (knownV 0 = .tuple #[.string ⟨#[]⟩,.bool false]):=hide rfl;have KV1:Hid (knownV 1 = .tuple #[.string ⟨#[117,116,102,45,56]⟩,.bool true]):=hide rfl;have KV2:Hid (knownV 2 = .tuple #[.string ⟨#[119,105,110,100,111,119,115,45,49,50,53,50]⟩,.bool true]):=hide rfl;have KV3:Hid (knownV 3 = .tuple #[.string ⟨#[117,116,102,45,49,54,108,101]⟩,.bool true]):=hide rfl;have KV4:Hid (knownV 4 = .tuple #[.string ⟨#[117,116,102,45,49,54,98,101]⟩,.bool true]):=hide rfl;have P3:=hide (fun (w:World)=>fromPairs_any s false w hs);have P4:=hide (fun (w:World)=>fromPairs_any s true w hs);rw [show hiAt false = 1 from rfl] at P3;rw [show hiAt true = 0 from rfl] at P4;rcases hk with rfl | rfl | rfl | rfl | rfl
 ·go_enter Tryz.func141,Tryz.ntmps141;go_wp2_with fail;refine (HK.out _).mono ?_;rintro e w1 ⟨rfl,hb1⟩;rw [KV0.out];go_wp2_with fail;refine (valid_any s _ hs).mono ?_;rintro e w2 ⟨rfl,hb2⟩;go_wp2_with fail;go_ret2;exact ⟨rfl,hb1.trans (hb2.mono hb1.size)⟩
 ·go_enter Tryz.func141,Tryz.ntmps141;go_wp2_with fail;refine (HK.out _).mono ?_;rintro e w1 ⟨rfl,hb1⟩;rw [KV1.out];go_wp2_with fail;refine (valid_any s _ hs).mono ?_;rintro e w2 ⟨rfl,hb2⟩;go_wp2_with fail;go_ret2;exact ⟨rfl,hb1.trans (hb2.mono hb1.size)⟩
 ·go_enter Tryz.func141,Tryz.ntmps141;go_wp2_with fail;refine (HK.out _).mono ?_;rintro e w1 ⟨rfl,hb1⟩;rw [KV2.out];go_wp2_with fail;refine (fromWindows_any s _ hs (HT.out.below hb1 H0.out)).mono ?_;rintro e w2 ⟨rfl,hb2⟩;go_wp2_with fail;go_ret2;exact ⟨rfl,hb1.trans (hb2.mono hb1.size)⟩
 ·go_enter Tryz.func141,Tryz.ntmps141;go_wp2_with fail;refine (HK.out _).mono ?_;rintro e w1 ⟨rfl,hb1⟩;rw [KV3.out];go_wp2_with fail;refine (P3.out _).mono ?_;rintro e w2 ⟨rfl,hb2⟩;go_wp2_with fail;go_ret2;exact ⟨rfl,hb1.trans (hb2.mono hb1.size)⟩
 ·go_enter Tryz.func141,Tryz.ntmps141;go_wp2_with fail;refine (HK.out _).mono ?_;rintro e w1 ⟨rfl,hb1⟩;rw [KV4.out];go_wp2_with fail;refine (P4.out _).mono ?_;rintro e w2 ⟨rfl,hb2⟩;go_wp2_with fail;go_ret2;exact ⟨rfl,hb1.trans (hb2.mono hb1.size)⟩
def signN (n:Nat):Int:=if n = 0 \/ 1114111 < n \/ (55296 <= n /\ n <= 57343) then 65533 else if 128 <= n /\ n <= 159 then winR (UInt8.ofNat n) else n
theorem win_dec (c:UInt8):(decL (runeL (winR c))).1 = (winR c).toNat /\ 0 <= winR c:=by
 have:=u8_all (p:=fun c=>(decL (runeL (winR c))).1 = (winR c).toNat /\ 0 <= winR c) (by decide +kernel) c;exact this
theorem dec_win (c:UInt8):Lib.decodeGo (str (runeL (winR c))) = ((winR c).toNat,(decL (runeL (winR c))).2):=by
 have hl:=(runeL_length (winR c)).1;have hz:(str (runeL (winR c))).size ≠ 0:=by rw [str_size];omega
 unfold Lib.decodeGo;rw [if_neg hz,decode_decL _ _ (by omega),List.drop_zero,str_toList];exact Prod.ext (win_dec c).1 rfl
theorem signN_window {n:Nat} (h1:128 <= n) (h2:n <= 159):signN n = winR (UInt8.ofNat n):=by
 unfold signN;rw [if_neg (by omega),if_pos ⟨h1,h2⟩]
theorem signN_bad {n:Nat} (h:n = 0 \/ 1114111 < n \/ (55296 <= n /\ n <= 57343)):signN n = 65533:=by unfold signN;rw [if_pos h]
theorem signN_own {n:Nat} (h:¬ (n = 0 \/ 1114111 < n \/ (55296 <= n /\ n <= 57343))) (h':¬ (128 <= n /\ n <= 159)):signN n = n:=by unfold signN;rw [if_neg h,if_neg h']
theorem tabs_lt {w:World} (h:Lib.Utf8Tabs 1 2 w):1 < w.heap.size /\ 2 < w.heap.size :=
 ⟨World.block_lt_of_cell? _ _ (h.1 0 (by decide)),World.block_lt_of_cell? _ _ (h.2 0 (by decide)).1⟩
theorem tabs_kept {w w':World} (h:Lib.Utf8Tabs 1 2 w) (hb:Below w.heap.size w w'):Lib.Utf8Tabs 1 2 w':=by
 obtain ⟨l1,l2⟩:=tabs_lt h;exact ⟨fun c hc=>(hb.cell (p:=⟨1,c,none⟩) l1).trans (h.1 c hc),fun i hi=>⟨(hb.cell (p:=⟨2,2 * i,none⟩) l2).trans (h.2 i hi).1,(hb.cell (p:=⟨2,2 * i + 1,none⟩) l2).trans (h.2 i hi).2⟩⟩
theorem kind_win:kindL [119,105,110,100,111,119,115,45,49,50,53,50] = 2:=by decide +kernel
theorem signOf_any (n:Nat) (w:World) (hn:n < 2147483648) (hT:Tab w) (hU:Lib.Utf8Tabs 1 2 w) :
  Calls Tryz.prog 116 #[.int .i32 n] w fun e w'=>e = .returned (.int .i32 (signN n)) /\ Below w.heap.size w w':=by
 by_cases c0:n = 0
 ·have HR:Hid (signN n = 65533):=hide (signN_bad (.inl c0));subst c0;go_enter Tryz.func116,Tryz.ntmps116;go_wp2_with fail;go_ret;exact ⟨by rw [HR.out];rfl,Below.refl _ _⟩
 have t0:((n:Int) == 0) = false:=beq_eq_false_iff_ne.2 (by omega)
 by_cases c1:1114111 < n
 ·have HR:Hid (signN n = 65533):=hide (signN_bad (.inr (.inl c1)));have t1:decide ((1114111:Int) < n) = true:=decide_eq_true (by omega);clear c0;go_enter Tryz.func116,Tryz.ntmps116;go_wp2_with fail;go_ret;exact ⟨by rw [HR.out];rfl,Below.refl _ _⟩
 have t1:decide ((1114111:Int) < n) = false:=decide_eq_false (by omega)
 by_cases c2:55296 <= n
 ·have t2:decide ((55296:Int) <= n) = true:=decide_eq_true (by omega)
  by_cases c3:n <= 57343
  ·have HR:Hid (signN n = 65533):=hide (signN_bad (.inr (.inr ⟨c2,c3⟩)));have t3:decide ((n:Int) <= 57343) = true:=decide_eq_true (by omega);clear c0 c1 c2 c3;go_enter Tryz.func116,Tryz.ntmps116;go_wp2_with fail;go_ret;exact ⟨by rw [HR.out];rfl,Below.refl _ _⟩
  ·have HR:Hid (signN n = n):=hide (signN_own (by omega) (by omega));have t3:decide ((n:Int) <= 57343) = false:=decide_eq_false (by omega);have t4:decide ((128:Int) <= n) = true:=decide_eq_true (by omega);have t5:decide ((n:Int) <= 159) = false:=decide_eq_false (by omega);clear c0 c1 c2 c3;go_enter Tryz.func116,Tryz.ntmps116;go_wp2_with fail;go_ret;exact ⟨by rw [HR.out];rfl,Below.refl _ _⟩
 have t2:decide ((55296:Int) <= n) = false:=decide_eq_false (by omega)
 by_cases c4:128 <= n
 ·have t4:decide ((128:Int) <= n) = true:=decide_eq_true (by omega)
  by_cases c5:n <= 159
  ·have t5:decide ((n:Int) <= 159) = true:=decide_eq_true (by omega);obtain ⟨c,hc⟩:∃ c,c = UInt8.ofNat n:=⟨_,rfl⟩
   have hcn:c.toNat = n:=by rw [hc,UInt8.toNat_ofNat',Nat.mod_eq_of_lt (by omega)]
   have HR:Hid (signN n = winR c):=hide (by rw [hc];exact signN_window c4 c5);have x1:IntKind.u8.wrap (n:Int) = (n:Int):=IntWalk.u8_in _ (by omega);have hbs:strOfNums [(n:Int)] = ⟨#[c]⟩:=by rw [<- hcn];apply ext_list;rw [nums_list];simp
   have hcv:=conv1 w (n:Int);rw [hbs] at hcv;have HD:=hide (fun w1 (h1:Tab w1)=>charsDecode_any ⟨#[119,105,110,100,111,119,115,45,49,50,53,50]⟩ ⟨#[c]⟩ w1 (by decide) (by show (⟨#[c]⟩:ByteArray).size <= _;rw [show (⟨#[c]⟩:ByteArray).size = 1 from rfl];decide) h1)
   have eD:decV (kindL (⟨#[119,105,110,100,111,119,115,45,49,50,53,50]⟩:ByteArray).data.toList) (⟨#[c]⟩:ByteArray).data.toList = .tuple #[.string (str (runeL (winR c))),.bool true]:=by
    rw [show (⟨#[119,105,110,100,111,119,115,45,49,50,53,50]⟩:ByteArray).data.toList = [119,105,110,100,111,119,115,45,49,50,53,50] from rfl,kind_win];show Value.tuple #[.string (str (winL [c])),.bool true] = _
    rw [winL_cons];show Value.tuple #[.string (str (runeL (winR c) ++ [])),.bool true] = _
    rw [List.append_nil]
   rw [eD] at HD;have HU:=hide (fun w1 h1=>Tryz.utf8_DecodeRuneInString (str (runeL (winR c))) w1 h1);rw [dec_win] at HU;have hp:((winR c).toNat:Int) = winR c:=Int.toNat_of_nonneg (win_dec c).2;rw [show (((winR c).toNat,(decL (runeL (winR c))).2):Nat × Nat).1 = (winR c).toNat from rfl,hp] at HU;have KB:Hid (Below w.heap.size w (w.alloc (.cells #[.int .u8 (n:Int)] 5))):=hide ((Below.refl _ _).alloc (Nat.le_refl _) _);have HT:=hide (hT.below KB.out hT.lt);have HTU:=hide hU;obtain ⟨S,hS⟩:∃ S,str (runeL (winR c)) = S:=⟨_,rfl⟩
   obtain ⟨R,hR⟩:∃ R,winR c = R:=⟨_,rfl⟩
   rw [hS] at HD HU;rw [hR] at HU HR;clear c0 c1 c2 c4 c5 hc hcn hbs eD hp hS hR hT hU;go_enter Tryz.func116,Tryz.ntmps116
   go_wp2_with (first
    |(go_at_call 141;refine (HD.out _ HT.out).mono ?_;rintro e w1 ⟨rfl,hb1⟩;have HB1:=hide (KB.out.trans (hb1.mono KB.out.size));clear hb1)
    |(go_at_call 131;refine (HU.out _ (tabs_kept HTU.out HB1.out)).mono ?_;rintro e w2 ⟨rfl,hb2⟩;have HB2:=hide (HB1.out.trans (hb2.mono HB1.out.size));clear hb2))
   go_ret;exact ⟨by rw [HR.out];rfl,HB2.out⟩
  ·have HR:Hid (signN n = n):=hide (signN_own (by omega) (by omega));have t5:decide ((n:Int) <= 159) = false:=decide_eq_false (by omega);clear c0 c1 c2 c4 c5;go_enter Tryz.func116,Tryz.ntmps116;go_wp2_with fail;go_ret;exact ⟨by rw [HR.out];rfl,Below.refl _ _⟩
 ·have HR:Hid (signN n = n):=hide (signN_own (by omega) (by omega));have t4:decide ((128:Int) <= n) = false:=decide_eq_false (by omega);clear c0 c1 c2 c4;go_enter Tryz.func116,Tryz.ntmps116;go_wp2_with fail;go_ret;exact ⟨by rw [HR.out];rfl,Below.refl _ _⟩
def numAt (b most:Nat) (l:List UInt8):Option Int :=
  match parseU b l with
  | none=>none
  | some n=>if most < l.length then none else some (signN n)
def entV:Option Int -> Value
  | some x=>.tuple #[.int .i32 x,.bool true]
  | none=>.tuple #[.int .i32 0,.bool false]
theorem parseB_lt {b:Nat} (hb:0 < b) (l:List UInt8):∀ m n,parseB b m l = some n -> n + 1 <= (m + 1) * b ^ l.length:=by
 induction l with
 | nil=>intro m n h;injection h with h;subst h;simp
 | cons c r ih =>
  intro m n h;rw [parseB] at h;unfold digB at h
  by_cases hd:dgV c < b
  ·rw [if_pos hd] at h;have h1:=ih _ _ h;have h2:m * b + dgV c + 1 <= (m + 1) * b:=by rw [Nat.succ_mul];omega
   have h3:=Nat.mul_le_mul_right (b ^ r.length) h2;rw [List.length_cons,Nat.pow_succ,Nat.mul_comm (b ^ r.length) b,<- Nat.mul_assoc];exact Nat.le_trans h1 h3
  ·rw [if_neg hd] at h;cases h
theorem parse_lt {b:Nat} {l:List UInt8} (hb:0 < b):∀ n,parseU b l = some n -> n < b ^ l.length:=by
 intro n h;unfold parseU at h;split at h
 ·cases h
 ·have:=parseB_lt hb l 0 n h;rw [Nat.zero_add,Nat.one_mul] at this;exact this
theorem pref_size {D:ByteArray} {c:UInt8} (h:Lib.hasPrefix D.data.toList [c] = true):1 <= D.size:=by
 rw [<- toList_length];cases hl:D.data.toList with
 | nil=>rw [hl] at h;cases h
 | cons a r=>exact Nat.succ_pos _
theorem byNumber_x (D:ByteArray) (ev:Value) (w:World) (hs:D.size <= 8) (p1:Lib.hasPrefix D.data.toList [120] = true) (hT:Tab w) (hU:Lib.Utf8Tabs 1 2 w)
  (hv:w.cell? ⟨3,0,none⟩ = some ev) (hev:ev = .nilIface \/ ∃ te pe,ev = .iface te pe) :
  Calls Tryz.prog 99 #[.string D] w fun e w'=>e = .returned (entV (numAt 16 6 (D.extract 1 D.size).data.toList)) /\ Below w.heap.size w w':=by
 have z1:1 <= D.size:=pref_size p1;have k1:(1:Int) <= D.size:=by omega
 have P1:Hid (Lib.hasPrefix D.data.toList [120] = true):=hide p1;have HT:=hide hT;have HTU:=hide hU;have HC:=hide (fun w1 (hb:Below w.heap.size w w1)=>parse16_any (D.extract 1 D.size) ev w1 (Nat.le_trans (by rw [ByteArray.size_extract];omega) hs) ((hb.cell (p:=⟨3,0,none⟩) (World.block_lt_of_cell? _ _ hv)).trans hv) hev);have tok1:True:=trivial;have tok2:True:=trivial;have hrl:(D.extract 1 D.size).size = (D.size - 1):=(by rw [ByteArray.size_extract];omega)
 have HB0:=hide (parse_lt (b:=16) (l:=(D.extract 1 D.size).data.toList) (by decide));cases hu:parseU 16 (D.extract 1 D.size).data.toList with
 | none =>
  have HU:=hide hu;have HR:Hid (numAt 16 6 (D.extract 1 D.size).data.toList = none):=hide (by unfold numAt;rw [hu]);clear hu hT hU hv hev p1;go_enter Tryz.func99,Tryz.ntmps99
  go_wp2_with (first
   |(go_at_call 95;have _t:=tok1;refine (Tryz.strings_HasPrefix D ⟨#[120]⟩ _).mono ?_;rintro e w1 ⟨rfl,hw1⟩;obtain rfl:=hw1.symm;rw [show (⟨#[120]⟩:ByteArray).data.toList = [120] from rfl,P1.out];clear tok1)
   |(go_at_call 115;refine (HC.out _ (Below.refl _ _)).mono ?_;rintro e w1 ⟨he,hb1⟩;rw [HU.out] at he;obtain ⟨N,rfl⟩:=he;have HB1:=hide hb1;clear hb1)
   |(go_at_call 116;refine (signOf_any _ _ HN31.out (HT.out.below HB1.out HT.out.lt) (tabs_kept HTU.out HB1.out)).mono ?_;rintro e w2 ⟨rfl,hb2⟩;have HB2:=hide (HB1.out.trans (hb2.mono HB1.out.size));clear hb2))
  go_ret2;exact ⟨by rw [HR.out];rfl,HB1.out⟩
 | some n =>
  have HU:=hide hu;have hlt:=HB0.out n hu;rw [toList_length,hrl] at hlt
  by_cases hm:6 < (D.size - 1)
  ·have HR:Hid (numAt 16 6 (D.extract 1 D.size).data.toList = none):=hide (by unfold numAt;rw [hu];simp only [];rw [toList_length,hrl,if_pos hm]);have t1:decide ((6:Int) < ((D.extract 1 D.size).size:Int)) = true:=decide_eq_true (by rw [hrl];omega);have t2:decide (6 < (D.extract 1 D.size).size) = true:=decide_eq_true (by rw [hrl];exact hm);have t3:decide ((6:Int) < (((D.size - 1):Nat):Int)) = true:=decide_eq_true (by omega);have t4:decide (6 < (D.size - 1)) = true:=decide_eq_true hm;clear hu hT hU hv hev p1 hlt hm hrl;go_enter Tryz.func99,Tryz.ntmps99;go_wp2_with (first
   |(go_at_call 95;have _t:=tok1;refine (Tryz.strings_HasPrefix D ⟨#[120]⟩ _).mono ?_;rintro e w1 ⟨rfl,hw1⟩;obtain rfl:=hw1.symm;rw [show (⟨#[120]⟩:ByteArray).data.toList = [120] from rfl,P1.out];clear tok1)
   |(go_at_call 115;refine (HC.out _ (Below.refl _ _)).mono ?_;rintro e w1 ⟨he,hb1⟩;rw [HU.out] at he;obtain rfl:=he;have HB1:=hide hb1;clear hb1)
   |(go_at_call 116;refine (signOf_any _ _ HN31.out (HT.out.below HB1.out HT.out.lt) (tabs_kept HTU.out HB1.out)).mono ?_;rintro e w2 ⟨rfl,hb2⟩;have HB2:=hide (HB1.out.trans (hb2.mono HB1.out.size));clear hb2))
   go_ret2;exact ⟨by rw [HR.out];rfl,HB1.out⟩
  ·have HR:Hid (numAt 16 6 (D.extract 1 D.size).data.toList = some (signN n)):=hide (by unfold numAt;rw [hu];simp only [];rw [toList_length,hrl,if_neg hm]);have t1:decide ((6:Int) < ((D.extract 1 D.size).size:Int)) = false:=decide_eq_false (by rw [hrl];omega);have t2:decide (6 < (D.extract 1 D.size).size) = false:=decide_eq_false (by rw [hrl];exact hm);have t3:decide ((6:Int) < (((D.size - 1):Nat):Int)) = false:=decide_eq_false (by omega);have t4:decide (6 < (D.size - 1)) = false:=decide_eq_false hm;have hn31:n < 2147483648:=Nat.lt_of_lt_of_le hlt (Nat.le_trans (Nat.pow_le_pow_right (by decide) (by omega:(D.size - 1) <= 6)) (by decide));have HN31:=hide hn31;have x1:IntKind.i32.wrap (n:Int) = (n:Int):=IntWalk.i32_in _ (by omega);clear hu hT hU hv hev p1 hlt hm hrl hn31;go_enter Tryz.func99,Tryz.ntmps99;go_wp2_with (first
   |(go_at_call 95;have _t:=tok1;refine (Tryz.strings_HasPrefix D ⟨#[120]⟩ _).mono ?_;rintro e w1 ⟨rfl,hw1⟩;obtain rfl:=hw1.symm;rw [show (⟨#[120]⟩:ByteArray).data.toList = [120] from rfl,P1.out];clear tok1)
   |(go_at_call 115;refine (HC.out _ (Below.refl _ _)).mono ?_;rintro e w1 ⟨he,hb1⟩;rw [HU.out] at he;obtain rfl:=he;have HB1:=hide hb1;clear hb1)
   |(go_at_call 116;refine (signOf_any _ _ HN31.out (HT.out.below HB1.out HT.out.lt) (tabs_kept HTU.out HB1.out)).mono ?_;rintro e w2 ⟨rfl,hb2⟩;have HB2:=hide (HB1.out.trans (hb2.mono HB1.out.size));clear hb2))
   go_ret2;exact ⟨by rw [HR.out];rfl,HB2.out⟩
theorem byNumber_X (D:ByteArray) (ev:Value) (w:World) (hs:D.size <= 8) (p1:Lib.hasPrefix D.data.toList [120] = false) (p2:Lib.hasPrefix D.data.toList [88] = true) (hT:Tab w) (hU:Lib.Utf8Tabs 1 2 w)
  (hv:w.cell? ⟨3,0,none⟩ = some ev) (hev:ev = .nilIface \/ ∃ te pe,ev = .iface te pe) :
  Calls Tryz.prog 99 #[.string D] w fun e w'=>e = .returned (entV (numAt 16 6 (D.extract 1 D.size).data.toList)) /\ Below w.heap.size w w':=by
 have z1:1 <= D.size:=pref_size p2;have k1:(1:Int) <= D.size:=by omega
 have P1:Hid (Lib.hasPrefix D.data.toList [120] = false):=hide p1;have P2:Hid (Lib.hasPrefix D.data.toList [88] = true):=hide p2;have HT:=hide hT;have HTU:=hide hU;have HC:=hide (fun w1 (hb:Below w.heap.size w w1)=>parse16_any (D.extract 1 D.size) ev w1 (Nat.le_trans (by rw [ByteArray.size_extract];omega) hs) ((hb.cell (p:=⟨3,0,none⟩) (World.block_lt_of_cell? _ _ hv)).trans hv) hev);have tok1:True:=trivial;have tok2:True:=trivial;have hrl:(D.extract 1 D.size).size = (D.size - 1):=(by rw [ByteArray.size_extract];omega)
 have HB0:=hide (parse_lt (b:=16) (l:=(D.extract 1 D.size).data.toList) (by decide));cases hu:parseU 16 (D.extract 1 D.size).data.toList with
 | none =>
  have HU:=hide hu;have HR:Hid (numAt 16 6 (D.extract 1 D.size).data.toList = none):=hide (by unfold numAt;rw [hu]);clear hu hT hU hv hev p1 p2;go_enter Tryz.func99,Tryz.ntmps99
  go_wp2_with (first
   |(go_at_call 95;have _t:=tok1;refine (Tryz.strings_HasPrefix D ⟨#[120]⟩ _).mono ?_;rintro e w1 ⟨rfl,hw1⟩;obtain rfl:=hw1.symm;rw [show (⟨#[120]⟩:ByteArray).data.toList = [120] from rfl,P1.out];clear tok1)
   |(go_at_call 95;have _t:=tok2;refine (Tryz.strings_HasPrefix D ⟨#[88]⟩ _).mono ?_;rintro e w1 ⟨rfl,hw1⟩;obtain rfl:=hw1.symm;rw [show (⟨#[88]⟩:ByteArray).data.toList = [88] from rfl,P2.out];clear tok2)
   |(go_at_call 115;refine (HC.out _ (Below.refl _ _)).mono ?_;rintro e w1 ⟨he,hb1⟩;rw [HU.out] at he;obtain ⟨N,rfl⟩:=he;have HB1:=hide hb1;clear hb1)
   |(go_at_call 116;refine (signOf_any _ _ HN31.out (HT.out.below HB1.out HT.out.lt) (tabs_kept HTU.out HB1.out)).mono ?_;rintro e w2 ⟨rfl,hb2⟩;have HB2:=hide (HB1.out.trans (hb2.mono HB1.out.size));clear hb2))
  go_ret2;exact ⟨by rw [HR.out];rfl,HB1.out⟩
 | some n =>
  have HU:=hide hu;have hlt:=HB0.out n hu;rw [toList_length,hrl] at hlt
  by_cases hm:6 < (D.size - 1)
  ·have HR:Hid (numAt 16 6 (D.extract 1 D.size).data.toList = none):=hide (by unfold numAt;rw [hu];simp only [];rw [toList_length,hrl,if_pos hm]);have t1:decide ((6:Int) < ((D.extract 1 D.size).size:Int)) = true:=decide_eq_true (by rw [hrl];omega);have t2:decide (6 < (D.extract 1 D.size).size) = true:=decide_eq_true (by rw [hrl];exact hm);have t3:decide ((6:Int) < (((D.size - 1):Nat):Int)) = true:=decide_eq_true (by omega);have t4:decide (6 < (D.size - 1)) = true:=decide_eq_true hm;clear hu hT hU hv hev p1 p2 hlt hm hrl;go_enter Tryz.func99,Tryz.ntmps99;go_wp2_with (first
   |(go_at_call 95;have _t:=tok1;refine (Tryz.strings_HasPrefix D ⟨#[120]⟩ _).mono ?_;rintro e w1 ⟨rfl,hw1⟩;obtain rfl:=hw1.symm;rw [show (⟨#[120]⟩:ByteArray).data.toList = [120] from rfl,P1.out];clear tok1)
   |(go_at_call 95;have _t:=tok2;refine (Tryz.strings_HasPrefix D ⟨#[88]⟩ _).mono ?_;rintro e w1 ⟨rfl,hw1⟩;obtain rfl:=hw1.symm;rw [show (⟨#[88]⟩:ByteArray).data.toList = [88] from rfl,P2.out];clear tok2)
   |(go_at_call 115;refine (HC.out _ (Below.refl _ _)).mono ?_;rintro e w1 ⟨he,hb1⟩;rw [HU.out] at he;obtain rfl:=he;have HB1:=hide hb1;clear hb1)
   |(go_at_call 116;refine (signOf_any _ _ HN31.out (HT.out.below HB1.out HT.out.lt) (tabs_kept HTU.out HB1.out)).mono ?_;rintro e w2 ⟨rfl,hb2⟩;have HB2:=hide (HB1.out.trans (hb2.mono HB1.out.size));clear hb2))
   go_ret2;exact ⟨by rw [HR.out];rfl,HB1.out⟩
  ·have HR:Hid (numAt 16 6 (D.extract 1 D.size).data.toList = some (signN n)):=hide (by unfold numAt;rw [hu];simp only [];rw [toList_length,hrl,if_neg hm]);have t1:decide ((6:Int) < ((D.extract 1 D.size).size:Int)) = false:=decide_eq_false (by rw [hrl];omega);have t2:decide (6 < (D.extract 1 D.size).size) = false:=decide_eq_false (by rw [hrl];exact hm);have t3:decide ((6:Int) < (((D.size - 1):Nat):Int)) = false:=decide_eq_false (by omega);have t4:decide (6 < (D.size - 1)) = false:=decide_eq_false hm;have hn31:n < 2147483648:=Nat.lt_of_lt_of_le hlt (Nat.le_trans (Nat.pow_le_pow_right (by decide) (by omega:(D.size - 1) <= 6)) (by decide));have HN31:=hide hn31;have x1:IntKind.i32.wrap (n:Int) = (n:Int):=IntWalk.i32_in _ (by omega);clear hu hT hU hv hev p1 p2 hlt hm hrl hn31;go_enter Tryz.func99,Tryz.ntmps99;go_wp2_with (first
   |(go_at_call 95;have _t:=tok1;refine (Tryz.strings_HasPrefix D ⟨#[120]⟩ _).mono ?_;rintro e w1 ⟨rfl,hw1⟩;obtain rfl:=hw1.symm;rw [show (⟨#[120]⟩:ByteArray).data.toList = [120] from rfl,P1.out];clear tok1)
   |(go_at_call 95;have _t:=tok2;refine (Tryz.strings_HasPrefix D ⟨#[88]⟩ _).mono ?_;rintro e w1 ⟨rfl,hw1⟩;obtain rfl:=hw1.symm;rw [show (⟨#[88]⟩:ByteArray).data.toList = [88] from rfl,P2.out];clear tok2)
   |(go_at_call 115;refine (HC.out _ (Below.refl _ _)).mono ?_;rintro e w1 ⟨he,hb1⟩;rw [HU.out] at he;obtain rfl:=he;have HB1:=hide hb1;clear hb1)
   |(go_at_call 116;refine (signOf_any _ _ HN31.out (HT.out.below HB1.out HT.out.lt) (tabs_kept HTU.out HB1.out)).mono ?_;rintro e w2 ⟨rfl,hb2⟩;have HB2:=hide (HB1.out.trans (hb2.mono HB1.out.size));clear hb2))
   go_ret2;exact ⟨by rw [HR.out];rfl,HB2.out⟩
theorem byNumber_d (D:ByteArray) (ev:Value) (w:World) (hs:D.size <= 8) (p1:Lib.hasPrefix D.data.toList [120] = false) (p2:Lib.hasPrefix D.data.toList [88] = false) (hT:Tab w) (hU:Lib.Utf8Tabs 1 2 w)
  (hv:w.cell? ⟨3,0,none⟩ = some ev) (hev:ev = .nilIface \/ ∃ te pe,ev = .iface te pe) :
  Calls Tryz.prog 99 #[.string D] w fun e w'=>e = .returned (entV (numAt 10 7 D.data.toList)) /\ Below w.heap.size w w':=by
 have P1:Hid (Lib.hasPrefix D.data.toList [120] = false):=hide p1;have P2:Hid (Lib.hasPrefix D.data.toList [88] = false):=hide p2;have HT:=hide hT;have HTU:=hide hU;have HC:=hide (fun w1 (hb:Below w.heap.size w w1)=>parse10_any D ev w1 hs ((hb.cell (p:=⟨3,0,none⟩) (World.block_lt_of_cell? _ _ hv)).trans hv) hev);have tok1:True:=trivial;have tok2:True:=trivial;have hrl:D.size = D.size:=rfl;have HB0:=hide (parse_lt (b:=10) (l:=D.data.toList) (by decide));cases hu:parseU 10 D.data.toList with
 | none =>
  have HU:=hide hu;have HR:Hid (numAt 10 7 D.data.toList = none):=hide (by unfold numAt;rw [hu]);clear hu hT hU hv hev p1 p2;go_enter Tryz.func99,Tryz.ntmps99
  go_wp2_with (first
   |(go_at_call 95;have _t:=tok1;refine (Tryz.strings_HasPrefix D ⟨#[120]⟩ _).mono ?_;rintro e w1 ⟨rfl,hw1⟩;obtain rfl:=hw1.symm;rw [show (⟨#[120]⟩:ByteArray).data.toList = [120] from rfl,P1.out];clear tok1)
   |(go_at_call 95;have _t:=tok2;refine (Tryz.strings_HasPrefix D ⟨#[88]⟩ _).mono ?_;rintro e w1 ⟨rfl,hw1⟩;obtain rfl:=hw1.symm;rw [show (⟨#[88]⟩:ByteArray).data.toList = [88] from rfl,P2.out];clear tok2)
   |(go_at_call 115;refine (HC.out _ (Below.refl _ _)).mono ?_;rintro e w1 ⟨he,hb1⟩;rw [HU.out] at he;obtain ⟨N,rfl⟩:=he;have HB1:=hide hb1;clear hb1)
   |(go_at_call 116;refine (signOf_any _ _ HN31.out (HT.out.below HB1.out HT.out.lt) (tabs_kept HTU.out HB1.out)).mono ?_;rintro e w2 ⟨rfl,hb2⟩;have HB2:=hide (HB1.out.trans (hb2.mono HB1.out.size));clear hb2))
  go_ret2;exact ⟨by rw [HR.out];rfl,HB1.out⟩
 | some n =>
  have HU:=hide hu;have hlt:=HB0.out n hu;rw [toList_length,hrl] at hlt
  by_cases hm:7 < D.size
  ·have HR:Hid (numAt 10 7 D.data.toList = none):=hide (by unfold numAt;rw [hu];simp only [];rw [toList_length,hrl,if_pos hm]);have t1:decide ((7:Int) < (D.size:Int)) = true:=decide_eq_true (by rw [hrl];omega);have t2:decide (7 < D.size) = true:=decide_eq_true (by rw [hrl];exact hm);have t3:decide ((7:Int) < ((D.size:Nat):Int)) = true:=decide_eq_true (by omega);have t4:decide (7 < D.size) = true:=decide_eq_true hm;clear hu hT hU hv hev p1 p2 hlt hm hrl;go_enter Tryz.func99,Tryz.ntmps99;go_wp2_with (first
   |(go_at_call 95;have _t:=tok1;refine (Tryz.strings_HasPrefix D ⟨#[120]⟩ _).mono ?_;rintro e w1 ⟨rfl,hw1⟩;obtain rfl:=hw1.symm;rw [show (⟨#[120]⟩:ByteArray).data.toList = [120] from rfl,P1.out];clear tok1)
   |(go_at_call 95;have _t:=tok2;refine (Tryz.strings_HasPrefix D ⟨#[88]⟩ _).mono ?_;rintro e w1 ⟨rfl,hw1⟩;obtain rfl:=hw1.symm;rw [show (⟨#[88]⟩:ByteArray).data.toList = [88] from rfl,P2.out];clear tok2)
   |(go_at_call 115;refine (HC.out _ (Below.refl _ _)).mono ?_;rintro e w1 ⟨he,hb1⟩;rw [HU.out] at he;obtain rfl:=he;have HB1:=hide hb1;clear hb1)
   |(go_at_call 116;refine (signOf_any _ _ HN31.out (HT.out.below HB1.out HT.out.lt) (tabs_kept HTU.out HB1.out)).mono ?_;rintro e w2 ⟨rfl,hb2⟩;have HB2:=hide (HB1.out.trans (hb2.mono HB1.out.size));clear hb2))
   go_ret2;exact ⟨by rw [HR.out];rfl,HB1.out⟩
  ·have HR:Hid (numAt 10 7 D.data.toList = some (signN n)):=hide (by unfold numAt;rw [hu];simp only [];rw [toList_length,hrl,if_neg hm]);have t1:decide ((7:Int) < (D.size:Int)) = false:=decide_eq_false (by rw [hrl];omega);have t2:decide (7 < D.size) = false:=decide_eq_false (by rw [hrl];exact hm);have t3:decide ((7:Int) < ((D.size:Nat):Int)) = false:=decide_eq_false (by omega);have t4:decide (7 < D.size) = false:=decide_eq_false hm;have hn31:n < 2147483648:=Nat.lt_of_lt_of_le hlt (Nat.le_trans (Nat.pow_le_pow_right (by decide) (by omega:D.size <= 7)) (by decide));have HN31:=hide hn31;have x1:IntKind.i32.wrap (n:Int) = (n:Int):=IntWalk.i32_in _ (by omega);clear hu hT hU hv hev p1 p2 hlt hm hrl hn31;go_enter Tryz.func99,Tryz.ntmps99;go_wp2_with (first
   |(go_at_call 95;have _t:=tok1;refine (Tryz.strings_HasPrefix D ⟨#[120]⟩ _).mono ?_;rintro e w1 ⟨rfl,hw1⟩;obtain rfl:=hw1.symm;rw [show (⟨#[120]⟩:ByteArray).data.toList = [120] from rfl,P1.out];clear tok1)
   |(go_at_call 95;have _t:=tok2;refine (Tryz.strings_HasPrefix D ⟨#[88]⟩ _).mono ?_;rintro e w1 ⟨rfl,hw1⟩;obtain rfl:=hw1.symm;rw [show (⟨#[88]⟩:ByteArray).data.toList = [88] from rfl,P2.out];clear tok2)
   |(go_at_call 115;refine (HC.out _ (Below.refl _ _)).mono ?_;rintro e w1 ⟨he,hb1⟩;rw [HU.out] at he;obtain rfl:=he;have HB1:=hide hb1;clear hb1)
   |(go_at_call 116;refine (signOf_any _ _ HN31.out (HT.out.below HB1.out HT.out.lt) (tabs_kept HTU.out HB1.out)).mono ?_;rintro e w2 ⟨rfl,hb2⟩;have HB2:=hide (HB1.out.trans (hb2.mono HB1.out.size));clear hb2))
   go_ret2;exact ⟨by rw [HR.out];rfl,HB2.out⟩
def byN (l:List UInt8):Option Int:=if Lib.hasPrefix l [120] || Lib.hasPrefix l [88] then numAt 16 6 (l.drop 1) else numAt 10 7 l
def sgn (l:List UInt8):Option Int:=if Lib.hasPrefix l [35] = true then byN (Lib.trimPrefix l [35]) else nameN l
def refN (l:List UInt8):Int × Nat :=
  match sgn (beforeC 59 (l.take 9)),hasC 59 (l.take 9) with
  | some x,true=>(x,(beforeC 59 (l.take 9)).length + 1)
  | _,_=>(0,0)
theorem byNumber_any (D:ByteArray) (ev:Value) (w:World) (hs:D.size <= 8) (hT:Tab w) (hU:Lib.Utf8Tabs 1 2 w)
  (hv:w.cell? ⟨3,0,none⟩ = some ev) (hev:ev = .nilIface \/ ∃ te pe,ev = .iface te pe) :
  Calls Tryz.prog 99 #[.string D] w fun e w'=>e = .returned (entV (byN D.data.toList)) /\ Below w.heap.size w w':=by
 cases p1:Lib.hasPrefix D.data.toList [120] with
 | true =>
  have e:byN D.data.toList = numAt 16 6 (D.extract 1 D.size).data.toList:=by unfold byN;rw [p1,extract_end];rfl
  rw [e];exact byNumber_x D ev w hs p1 hT hU hv hev
 | false =>
  cases p2:Lib.hasPrefix D.data.toList [88] with
  | true =>
   have e:byN D.data.toList = numAt 16 6 (D.extract 1 D.size).data.toList:=by unfold byN;rw [p1,p2,extract_end];rfl
   rw [e];exact byNumber_X D ev w hs p1 p2 hT hU hv hev
  | false =>
   have e:byN D.data.toList = numAt 10 7 D.data.toList:=by unfold byN;rw [p1,p2];rfl
   rw [e];exact byNumber_d D ev w hs p1 p2 hT hU hv hev
theorem dig_size {C D:ByteArray} (hp:Lib.hasPrefix C.data.toList [35] = true) (hD:D.data.toList = Lib.trimPrefix C.data.toList [35]) (h:C.size <= 9):D.size <= 8:=by
 have:=congrArg List.length hD;rw [toList_length] at this;rw [this];unfold Lib.trimPrefix;rw [hp];have:=pref_size hp;simp only [if_true,List.length_drop,toList_length];have e1:([35]:List UInt8).length = 1:=rfl;omega
def refV (o:Int × Nat):Value:=.tuple #[.int .i32 o.1,.int .i64 o.2]
theorem reference_any (R:ByteArray) (b:Nat) (ev:Value) (w:World) (hs:R.size <= 16777216) (hM:SMapN w b 16 nameN) (hT:Tab w) (hU:Lib.Utf8Tabs 1 2 w)
  (hv:w.cell? ⟨3,0,none⟩ = some ev) (hev:ev = .nilIface \/ ∃ te pe,ev = .iface te pe) :
  Calls Tryz.prog 72 #[.string R,.map (some b)] w fun e w'=>e = .returned (refV (refN R.data.toList)) /\ Below w.heap.size w w':=by
 have zC:(beforeC 59 (R.data.toList.take 9)).length <= 9:=Nat.le_trans ((List.takeWhile_sublist _).length_le) (List.length_take_le _ _);obtain ⟨C,hC⟩:∃ C,C = str (beforeC 59 (R.data.toList.take 9)):=⟨_,rfl⟩
 have hCt:C.data.toList = beforeC 59 (R.data.toList.take 9):=by rw [hC,str_toList]
 have HCS:Hid (C.size <= maxLen):=hide (by rw [hC,str_size];exact Nat.le_trans zC (by decide));have hCs:C.size <= 9:=by rw [hC,str_size];exact zC
 have HM:=hide hM;obtain ⟨D,hD⟩:∃ D,D = (⟨(Lib.trimPrefix C.data.toList [35]).toArray⟩:ByteArray):=⟨_,rfl⟩
 have hDt:D.data.toList = Lib.trimPrefix C.data.toList [35]:=by rw [hD]
 have hpre:=fun w1=>Tryz.strings_CutPrefix C ⟨#[35]⟩ w1
 rw [show (⟨#[35]⟩:ByteArray).data.toList = [35] from rfl,<- hD] at hpre
 by_cases hz:R.size < 9
 ·have m1:decide ((R.size:Int) < 9) = true:=decide_eq_true (by omega);have mn:min (R.size:Int) 9 = R.size:=by omega
  obtain ⟨N,hN⟩:∃ N,N = R:=⟨_,rfl⟩
  have hNt:N.data.toList = R.data.toList.take 9:=by rw [hN,List.take_of_length_le (by rw [toList_length];omega)]
  have hcut:=fun w1=>strCut_any N 59 w1 (by rw [<- toList_length,hNt];exact Nat.le_trans (List.length_take_le _ _) (by decide))
  simp only [cutV] at hcut;rw [hNt,<- hC,hN] at hcut;cases hp:Lib.hasPrefix C.data.toList [35]
  ·have HP:Hid (Lib.hasPrefix C.data.toList [35] = false):=hide hp;rw [hp] at hpre;have HPRE:=hide hpre;have hsg:sgn C.data.toList = nameN C.data.toList:=by unfold sgn;rw [hp,if_neg (by decide)]
   cases hsn:nameN C.data.toList with
   | none =>
    rw [hsn] at hsg;have HNM:=hide hsn;cases hend:hasC 59 (R.data.toList.take 9) with
    | false =>
     have HR:Hid (refN R.data.toList = (0,0)):=hide (by unfold refN;rw [<- hCt,hsg,hend]);rw [hend] at hcut;have HCUT:=hide hcut;clear hcut hsg hsn hend hp hpre hT hU hv hev hM hC hCt hDt hD hN hNt zC;go_enter Tryz.func72,Tryz.ntmps72;go_wp2_with (first | (go_at_call 70;with_reducible refine (HCUT.out _).mono ?_;rintro e w1 ⟨rfl,hb1⟩;have HB1:=hide hb1;clear hb1) | (go_at_call 76;with_reducible refine (HPRE.out _).mono ?_;rintro e wp ⟨rfl,hwp⟩;obtain rfl:=hwp) | (at_lookup;refine wpList_sm_look rfl _ _ rfl b 16 nameN rfl (HM.out.kept HB1.out) C HCS.out rfl ?_;rw [HNM.out]));go_ret2;exact ⟨by rw [HR.out];rfl,HB1.out⟩
    | true =>
     have HR:Hid (refN R.data.toList = (0,0)):=hide (by unfold refN;rw [<- hCt,hsg,hend]);rw [hend] at hcut;have HCUT:=hide hcut;clear hcut hsg hsn hend hp hpre hT hU hv hev hM hC hCt hDt hD hN hNt zC;go_enter Tryz.func72,Tryz.ntmps72;go_wp2_with (first | (go_at_call 70;with_reducible refine (HCUT.out _).mono ?_;rintro e w1 ⟨rfl,hb1⟩;have HB1:=hide hb1;clear hb1) | (go_at_call 76;with_reducible refine (HPRE.out _).mono ?_;rintro e wp ⟨rfl,hwp⟩;obtain rfl:=hwp) | (at_lookup;refine wpList_sm_look rfl _ _ rfl b 16 nameN rfl (HM.out.kept HB1.out) C HCS.out rfl ?_;rw [HNM.out]));go_ret2;exact ⟨by rw [HR.out];rfl,HB1.out⟩
   | some x =>
    rw [hsn] at hsg;have HNM:=hide hsn;cases hend:hasC 59 (R.data.toList.take 9) with
    | false =>
     have HR:Hid (refN R.data.toList = (0,0)):=hide (by unfold refN;rw [<- hCt,hsg,hend]);rw [hend] at hcut;have HCUT:=hide hcut;clear hcut hsg hsn hend hp hpre hT hU hv hev hM hC hCt hDt hD hN hNt zC;go_enter Tryz.func72,Tryz.ntmps72;go_wp2_with (first | (go_at_call 70;with_reducible refine (HCUT.out _).mono ?_;rintro e w1 ⟨rfl,hb1⟩;have HB1:=hide hb1;clear hb1) | (go_at_call 76;with_reducible refine (HPRE.out _).mono ?_;rintro e wp ⟨rfl,hwp⟩;obtain rfl:=hwp) | (at_lookup;refine wpList_sm_look rfl _ _ rfl b 16 nameN rfl (HM.out.kept HB1.out) C HCS.out rfl ?_;rw [HNM.out]));go_ret2;exact ⟨by rw [HR.out];rfl,HB1.out⟩
    | true =>
     have HR:Hid (refN R.data.toList = (x,C.size + 1)):=hide (by unfold refN;rw [<- hCt,hsg,hend];simp only [toList_length]);rw [hend] at hcut;have HCUT:=hide hcut;clear hcut hsg hsn hend hp hpre hT hU hv hev hM hC hCt hDt hD hN hNt zC;go_enter Tryz.func72,Tryz.ntmps72;go_wp2_with (first | (go_at_call 70;with_reducible refine (HCUT.out _).mono ?_;rintro e w1 ⟨rfl,hb1⟩;have HB1:=hide hb1;clear hb1) | (go_at_call 76;with_reducible refine (HPRE.out _).mono ?_;rintro e wp ⟨rfl,hwp⟩;obtain rfl:=hwp) | (at_lookup;refine wpList_sm_look rfl _ _ rfl b 16 nameN rfl (HM.out.kept HB1.out) C HCS.out rfl ?_;rw [HNM.out]));go_ret2;exact ⟨by rw [HR.out];rfl,HB1.out⟩
  ·have HP:Hid (Lib.hasPrefix C.data.toList [35] = true):=hide hp;rw [hp] at hpre;have HPRE:=hide hpre;obtain ⟨nm,hnm⟩:∃ nm,nameN C.data.toList = nm:=⟨_,rfl⟩
   have HNM:=hide hnm;have hsg:sgn C.data.toList = byN D.data.toList:=by unfold sgn;rw [hp,if_pos rfl,hDt]
   have hds:D.size <= 8:=dig_size hp hDt (by rw [<- hCt] at zC;rw [toList_length] at zC;exact zC);have hnum:=fun w1 (hb:Below w.heap.size w w1)=>byNumber_any D ev w1 hds (hT.below hb hT.lt) (tabs_kept hU hb) ((hb.cell (p:=⟨3,0,none⟩) (World.block_lt_of_cell? _ _ hv)).trans hv) hev
   cases hsn:byN D.data.toList with
   | none =>
    rw [hsn] at hsg;rw [hsn] at hnum;simp only [entV] at hnum;have HNUM:=hide hnum;cases hend:hasC 59 (R.data.toList.take 9) with
    | false =>
     have HR:Hid (refN R.data.toList = (0,0)):=hide (by unfold refN;rw [<- hCt,hsg,hend]);rw [hend] at hcut;have HCUT:=hide hcut;clear hcut hsg hsn hend hp hpre hT hU hv hev hM hC hCt hDt hD hN hNt zC hnm hnum hds;go_enter Tryz.func72,Tryz.ntmps72;go_wp2_with (first | (go_at_call 70;with_reducible refine (HCUT.out _).mono ?_;rintro e w1 ⟨rfl,hb1⟩;have HB1:=hide hb1;clear hb1) | (go_at_call 76;with_reducible refine (HPRE.out _).mono ?_;rintro e wp ⟨rfl,hwp⟩;obtain rfl:=hwp) | (at_lookup;refine wpList_sm_look rfl _ _ rfl b 16 nameN rfl (HM.out.kept HB1.out) C HCS.out rfl ?_;rw [HNM.out]) | (go_at_call 99;with_reducible refine (HNUM.out _ HB1.out).mono ?_;rintro e w2 ⟨rfl,hb2⟩;have HB2:=hide (HB1.out.trans (hb2.mono HB1.out.size));clear hb2));go_ret2;exact ⟨by rw [HR.out];rfl,HB2.out⟩
    | true =>
     have HR:Hid (refN R.data.toList = (0,0)):=hide (by unfold refN;rw [<- hCt,hsg,hend]);rw [hend] at hcut;have HCUT:=hide hcut;clear hcut hsg hsn hend hp hpre hT hU hv hev hM hC hCt hDt hD hN hNt zC hnm hnum hds;go_enter Tryz.func72,Tryz.ntmps72;go_wp2_with (first | (go_at_call 70;with_reducible refine (HCUT.out _).mono ?_;rintro e w1 ⟨rfl,hb1⟩;have HB1:=hide hb1;clear hb1) | (go_at_call 76;with_reducible refine (HPRE.out _).mono ?_;rintro e wp ⟨rfl,hwp⟩;obtain rfl:=hwp) | (at_lookup;refine wpList_sm_look rfl _ _ rfl b 16 nameN rfl (HM.out.kept HB1.out) C HCS.out rfl ?_;rw [HNM.out]) | (go_at_call 99;with_reducible refine (HNUM.out _ HB1.out).mono ?_;rintro e w2 ⟨rfl,hb2⟩;have HB2:=hide (HB1.out.trans (hb2.mono HB1.out.size));clear hb2));go_ret2;exact ⟨by rw [HR.out];rfl,HB2.out⟩
   | some x =>
    rw [hsn] at hsg;rw [hsn] at hnum;simp only [entV] at hnum;have HNUM:=hide hnum;cases hend:hasC 59 (R.data.toList.take 9) with
    | false =>
     have HR:Hid (refN R.data.toList = (0,0)):=hide (by unfold refN;rw [<- hCt,hsg,hend]);rw [hend] at hcut;have HCUT:=hide hcut;clear hcut hsg hsn hend hp hpre hT hU hv hev hM hC hCt hDt hD hN hNt zC hnm hnum hds;go_enter Tryz.func72,Tryz.ntmps72;go_wp2_with (first | (go_at_call 70;with_reducible refine (HCUT.out _).mono ?_;rintro e w1 ⟨rfl,hb1⟩;have HB1:=hide hb1;clear hb1) | (go_at_call 76;with_reducible refine (HPRE.out _).mono ?_;rintro e wp ⟨rfl,hwp⟩;obtain rfl:=hwp) | (at_lookup;refine wpList_sm_look rfl _ _ rfl b 16 nameN rfl (HM.out.kept HB1.out) C HCS.out rfl ?_;rw [HNM.out]) | (go_at_call 99;with_reducible refine (HNUM.out _ HB1.out).mono ?_;rintro e w2 ⟨rfl,hb2⟩;have HB2:=hide (HB1.out.trans (hb2.mono HB1.out.size));clear hb2));go_ret2;exact ⟨by rw [HR.out];rfl,HB2.out⟩
    | true =>
     have HR:Hid (refN R.data.toList = (x,C.size + 1)):=hide (by unfold refN;rw [<- hCt,hsg,hend];simp only [toList_length]);rw [hend] at hcut;have HCUT:=hide hcut;clear hcut hsg hsn hend hp hpre hT hU hv hev hM hC hCt hDt hD hN hNt zC hnm hnum hds;go_enter Tryz.func72,Tryz.ntmps72;go_wp2_with (first | (go_at_call 70;with_reducible refine (HCUT.out _).mono ?_;rintro e w1 ⟨rfl,hb1⟩;have HB1:=hide hb1;clear hb1) | (go_at_call 76;with_reducible refine (HPRE.out _).mono ?_;rintro e wp ⟨rfl,hwp⟩;obtain rfl:=hwp) | (at_lookup;refine wpList_sm_look rfl _ _ rfl b 16 nameN rfl (HM.out.kept HB1.out) C HCS.out rfl ?_;rw [HNM.out]) | (go_at_call 99;with_reducible refine (HNUM.out _ HB1.out).mono ?_;rintro e w2 ⟨rfl,hb2⟩;have HB2:=hide (HB1.out.trans (hb2.mono HB1.out.size));clear hb2));go_ret2;exact ⟨by rw [HR.out];rfl,HB2.out⟩
 ·have m1:decide ((R.size:Int) < 9) = false:=decide_eq_false (by omega);have mn:min (R.size:Int) 9 = 9:=by omega
  have m4:(9:Int) <= R.size:=by omega
  obtain ⟨N,hN⟩:∃ N,N = R.extract 0 9:=⟨_,rfl⟩
  have hNt:N.data.toList = R.data.toList.take 9:=by rw [hN,extract_list,List.drop_zero]
  have hcut:=fun w1=>strCut_any N 59 w1 (by rw [<- toList_length,hNt];exact Nat.le_trans (List.length_take_le _ _) (by decide))
  simp only [cutV] at hcut;rw [hNt,<- hC,hN] at hcut;cases hp:Lib.hasPrefix C.data.toList [35]
  ·have HP:Hid (Lib.hasPrefix C.data.toList [35] = false):=hide hp;rw [hp] at hpre;have HPRE:=hide hpre;have hsg:sgn C.data.toList = nameN C.data.toList:=by unfold sgn;rw [hp,if_neg (by decide)]
   cases hsn:nameN C.data.toList with
   | none =>
    rw [hsn] at hsg;have HNM:=hide hsn;cases hend:hasC 59 (R.data.toList.take 9) with
    | false =>
     have HR:Hid (refN R.data.toList = (0,0)):=hide (by unfold refN;rw [<- hCt,hsg,hend]);rw [hend] at hcut;have HCUT:=hide hcut;clear hcut hsg hsn hend hp hpre hT hU hv hev hM hC hCt hDt hD hN hNt zC;go_enter Tryz.func72,Tryz.ntmps72;go_wp2_with (first | (go_at_call 70;with_reducible refine (HCUT.out _).mono ?_;rintro e w1 ⟨rfl,hb1⟩;have HB1:=hide hb1;clear hb1) | (go_at_call 76;with_reducible refine (HPRE.out _).mono ?_;rintro e wp ⟨rfl,hwp⟩;obtain rfl:=hwp) | (at_lookup;refine wpList_sm_look rfl _ _ rfl b 16 nameN rfl (HM.out.kept HB1.out) C HCS.out rfl ?_;rw [HNM.out]));go_ret2;exact ⟨by rw [HR.out];rfl,HB1.out⟩
    | true =>
     have HR:Hid (refN R.data.toList = (0,0)):=hide (by unfold refN;rw [<- hCt,hsg,hend]);rw [hend] at hcut;have HCUT:=hide hcut;clear hcut hsg hsn hend hp hpre hT hU hv hev hM hC hCt hDt hD hN hNt zC;go_enter Tryz.func72,Tryz.ntmps72;go_wp2_with (first | (go_at_call 70;with_reducible refine (HCUT.out _).mono ?_;rintro e w1 ⟨rfl,hb1⟩;have HB1:=hide hb1;clear hb1) | (go_at_call 76;with_reducible refine (HPRE.out _).mono ?_;rintro e wp ⟨rfl,hwp⟩;obtain rfl:=hwp) | (at_lookup;refine wpList_sm_look rfl _ _ rfl b 16 nameN rfl (HM.out.kept HB1.out) C HCS.out rfl ?_;rw [HNM.out]));go_ret2;exact ⟨by rw [HR.out];rfl,HB1.out⟩
   | some x =>
    rw [hsn] at hsg;have HNM:=hide hsn;cases hend:hasC 59 (R.data.toList.take 9) with
    | false =>
     have HR:Hid (refN R.data.toList = (0,0)):=hide (by unfold refN;rw [<- hCt,hsg,hend]);rw [hend] at hcut;have HCUT:=hide hcut;clear hcut hsg hsn hend hp hpre hT hU hv hev hM hC hCt hDt hD hN hNt zC;go_enter Tryz.func72,Tryz.ntmps72;go_wp2_with (first | (go_at_call 70;with_reducible refine (HCUT.out _).mono ?_;rintro e w1 ⟨rfl,hb1⟩;have HB1:=hide hb1;clear hb1) | (go_at_call 76;with_reducible refine (HPRE.out _).mono ?_;rintro e wp ⟨rfl,hwp⟩;obtain rfl:=hwp) | (at_lookup;refine wpList_sm_look rfl _ _ rfl b 16 nameN rfl (HM.out.kept HB1.out) C HCS.out rfl ?_;rw [HNM.out]));go_ret2;exact ⟨by rw [HR.out];rfl,HB1.out⟩
    | true =>
     have HR:Hid (refN R.data.toList = (x,C.size + 1)):=hide (by unfold refN;rw [<- hCt,hsg,hend];simp only [toList_length]);rw [hend] at hcut;have HCUT:=hide hcut;clear hcut hsg hsn hend hp hpre hT hU hv hev hM hC hCt hDt hD hN hNt zC;go_enter Tryz.func72,Tryz.ntmps72;go_wp2_with (first | (go_at_call 70;with_reducible refine (HCUT.out _).mono ?_;rintro e w1 ⟨rfl,hb1⟩;have HB1:=hide hb1;clear hb1) | (go_at_call 76;with_reducible refine (HPRE.out _).mono ?_;rintro e wp ⟨rfl,hwp⟩;obtain rfl:=hwp) | (at_lookup;refine wpList_sm_look rfl _ _ rfl b 16 nameN rfl (HM.out.kept HB1.out) C HCS.out rfl ?_;rw [HNM.out]));go_ret2;exact ⟨by rw [HR.out];rfl,HB1.out⟩
  ·have HP:Hid (Lib.hasPrefix C.data.toList [35] = true):=hide hp;rw [hp] at hpre;have HPRE:=hide hpre;obtain ⟨nm,hnm⟩:∃ nm,nameN C.data.toList = nm:=⟨_,rfl⟩
   have HNM:=hide hnm;have hsg:sgn C.data.toList = byN D.data.toList:=by unfold sgn;rw [hp,if_pos rfl,hDt]
   have hds:D.size <= 8:=dig_size hp hDt (by rw [<- hCt] at zC;rw [toList_length] at zC;exact zC);have hnum:=fun w1 (hb:Below w.heap.size w w1)=>byNumber_any D ev w1 hds (hT.below hb hT.lt) (tabs_kept hU hb) ((hb.cell (p:=⟨3,0,none⟩) (World.block_lt_of_cell? _ _ hv)).trans hv) hev
   cases hsn:byN D.data.toList with
   | none =>
    rw [hsn] at hsg;rw [hsn] at hnum;simp only [entV] at hnum;have HNUM:=hide hnum;cases hend:hasC 59 (R.data.toList.take 9) with
    | false =>
     have HR:Hid (refN R.data.toList = (0,0)):=hide (by unfold refN;rw [<- hCt,hsg,hend]);rw [hend] at hcut;have HCUT:=hide hcut;clear hcut hsg hsn hend hp hpre hT hU hv hev hM hC hCt hDt hD hN hNt zC hnm hnum hds;go_enter Tryz.func72,Tryz.ntmps72;go_wp2_with (first | (go_at_call 70;with_reducible refine (HCUT.out _).mono ?_;rintro e w1 ⟨rfl,hb1⟩;have HB1:=hide hb1;clear hb1) | (go_at_call 76;with_reducible refine (HPRE.out _).mono ?_;rintro e wp ⟨rfl,hwp⟩;obtain rfl:=hwp) | (at_lookup;refine wpList_sm_look rfl _ _ rfl b 16 nameN rfl (HM.out.kept HB1.out) C HCS.out rfl ?_;rw [HNM.out]) | (go_at_call 99;with_reducible refine (HNUM.out _ HB1.out).mono ?_;rintro e w2 ⟨rfl,hb2⟩;have HB2:=hide (HB1.out.trans (hb2.mono HB1.out.size));clear hb2));go_ret2;exact ⟨by rw [HR.out];rfl,HB2.out⟩
    | true =>
     have HR:Hid (refN R.data.toList = (0,0)):=hide (by unfold refN;rw [<- hCt,hsg,hend]);rw [hend] at hcut;have HCUT:=hide hcut;clear hcut hsg hsn hend hp hpre hT hU hv hev hM hC hCt hDt hD hN hNt zC hnm hnum hds;go_enter Tryz.func72,Tryz.ntmps72;go_wp2_with (first | (go_at_call 70;with_reducible refine (HCUT.out _).mono ?_;rintro e w1 ⟨rfl,hb1⟩;have HB1:=hide hb1;clear hb1) | (go_at_call 76;with_reducible refine (HPRE.out _).mono ?_;rintro e wp ⟨rfl,hwp⟩;obtain rfl:=hwp) | (at_lookup;refine wpList_sm_look rfl _ _ rfl b 16 nameN rfl (HM.out.kept HB1.out) C HCS.out rfl ?_;rw [HNM.out]) | (go_at_call 99;with_reducible refine (HNUM.out _ HB1.out).mono ?_;rintro e w2 ⟨rfl,hb2⟩;have HB2:=hide (HB1.out.trans (hb2.mono HB1.out.size));clear hb2));go_ret2;exact ⟨by rw [HR.out];rfl,HB2.out⟩
   | some x =>
    rw [hsn] at hsg;rw [hsn] at hnum;simp only [entV] at hnum;have HNUM:=hide hnum;cases hend:hasC 59 (R.data.toList.take 9) with
    | false =>
     have HR:Hid (refN R.data.toList = (0,0)):=hide (by unfold refN;rw [<- hCt,hsg,hend]);rw [hend] at hcut;have HCUT:=hide hcut;clear hcut hsg hsn hend hp hpre hT hU hv hev hM hC hCt hDt hD hN hNt zC hnm hnum hds;go_enter Tryz.func72,Tryz.ntmps72;go_wp2_with (first | (go_at_call 70;with_reducible refine (HCUT.out _).mono ?_;rintro e w1 ⟨rfl,hb1⟩;have HB1:=hide hb1;clear hb1) | (go_at_call 76;with_reducible refine (HPRE.out _).mono ?_;rintro e wp ⟨rfl,hwp⟩;obtain rfl:=hwp) | (at_lookup;refine wpList_sm_look rfl _ _ rfl b 16 nameN rfl (HM.out.kept HB1.out) C HCS.out rfl ?_;rw [HNM.out]) | (go_at_call 99;with_reducible refine (HNUM.out _ HB1.out).mono ?_;rintro e w2 ⟨rfl,hb2⟩;have HB2:=hide (HB1.out.trans (hb2.mono HB1.out.size));clear hb2));go_ret2;exact ⟨by rw [HR.out];rfl,HB2.out⟩
    | true =>
     have HR:Hid (refN R.data.toList = (x,C.size + 1)):=hide (by unfold refN;rw [<- hCt,hsg,hend];simp only [toList_length]);rw [hend] at hcut;have HCUT:=hide hcut;clear hcut hsg hsn hend hp hpre hT hU hv hev hM hC hCt hDt hD hN hNt zC hnm hnum hds;go_enter Tryz.func72,Tryz.ntmps72;go_wp2_with (first | (go_at_call 70;with_reducible refine (HCUT.out _).mono ?_;rintro e w1 ⟨rfl,hb1⟩;have HB1:=hide hb1;clear hb1) | (go_at_call 76;with_reducible refine (HPRE.out _).mono ?_;rintro e wp ⟨rfl,hwp⟩;obtain rfl:=hwp) | (at_lookup;refine wpList_sm_look rfl _ _ rfl b 16 nameN rfl (HM.out.kept HB1.out) C HCS.out rfl ?_;rw [HNM.out]) | (go_at_call 99;with_reducible refine (HNUM.out _ HB1.out).mono ?_;rintro e w2 ⟨rfl,hb2⟩;have HB2:=hide (HB1.out.trans (hb2.mono HB1.out.size));clear hb2));go_ret2;exact ⟨by rw [HR.out];rfl,HB2.out⟩
def szOfS:Value -> Nat
  | .string t=>t.size
  | _=>0
theorem bldSize:(Tryz.prog.info? 99).map (·.size) = some 2:=by kernel_rfl
theorem bldLies:liesAt Tryz.prog Tryz.prog.depth 99 (2 / Tryz.prog.cellsOf 99) 0 99 1 = true:=by kernel_rfl
def Bld (B b:Nat) (l:List UInt8) (W0 w:World):Prop:=Lib.IsBuilder 99 5 B b (cellsOf l) w /\ Below B W0 w /\ B <= w.heap.size
theorem copyCheck_used (b:Nat) (w:World) (h0:w.cell? ⟨b,0,none⟩ = some (.pointer (some ⟨b,0,none⟩))) :
  Calls Tryz.prog 67 #[.pointer (some ⟨b,0,none⟩)] w fun e w'=>e = .returned (.tuple #[]) /\ w = w':=by
 obtain ⟨j,hj,_⟩:=Option.map_eq_some_iff.1 bldSize;have hne:=fun w:World=>Lib.run_neq_ptr_same (P:=Tryz.prog) w ⟨b,0,none⟩ Tryz.underlying97 hj
 go_enter Tryz.func67,Tryz.ntmps67;go_wp2;go_end0;exact ⟨rfl,rfl⟩
theorem copyCheck_fresh (b:Nat) (w:World) (h0:w.cell? ⟨b,0,none⟩ = some (.pointer none)) (hsh:w.shape? b = some (99,2)) (hfz:w.frozen? ⟨b,0,none⟩ = false) :
  Calls Tryz.prog 67 #[.pointer (some ⟨b,0,none⟩)] w fun e w'=>e = .returned (.tuple #[]) /\ w.setCell ⟨b,0,none⟩ (.pointer (some ⟨b,0,none⟩)) = w':=by
 obtain ⟨j,hj,hjs⟩:=Option.map_eq_some_iff.1 bldSize;have c1:=Lib.run_to_unsafe (P:=Tryz.prog) w ⟨b,0,none⟩ Tryz.underlying97 Tryz.underlying134 hj (by rw [hjs];decide) hsh (Nat.zero_lt_succ 1);have c2:=Lib.run_from_unsafe (P:=Tryz.prog) w ⟨b,0,none⟩ Tryz.underlying134 Tryz.underlying97 hj hsh bldLies;have ce:=fun w:World=>run_callFunc_extern (P:=Tryz.prog) (w:=w) (args:=#[Value.pointer (some ⟨b,0,none⟩)]) Tryz.func96 (by kernel_rfl) (by kernel_rfl) (by kernel_rfl) (e:=Extern.AbiNoEscape.same) (by kernel_rfl)
 have cn:=fun w:World=>Lib.run_noEscape (P:=Tryz.prog) (w:=w) (Value.pointer (some ⟨b,0,none⟩))
 go_enter Tryz.func67,Tryz.ntmps67;go_wp2;go_end0;exact ⟨rfl,rfl⟩
theorem Bld.string {B b:Nat} {l:List UInt8} {W0 w:World} (h:Bld B b l W0 w) :
  Calls Tryz.prog 71 #[.pointer (some ⟨b,0,none⟩)] w fun e w'=>e = .returned (.string (str l)) /\ Below B W0 w' :=
 (Tryz.Builder_String_any B b l w h.1 h.2.2).mono fun _ _ ⟨he,hb⟩=>⟨he,h.2.1.trans hb⟩
theorem Bld.kept {B b:Nat} {l:List UInt8} {W0 w w':World} (h:Bld B b l W0 w) (hb:Below w.heap.size w w'):Bld B b l W0 w':=by
 obtain ⟨h1,h2,h3⟩:=h;refine ⟨?_,h2.trans (hb.mono h3),Nat.le_trans h3 hb.size⟩
 have key:∀ p,Lib.BuilderAt 99 5 B b p (cellsOf l) w -> Lib.BuilderAt 99 5 B b p (cellsOf l) w':=by
  intro p h;have hlt:=h.lt;obtain ⟨hB,v,hbk,hown,hne⟩:=h;exact ⟨hB,v,(hb.block b hlt).trans hbk,hown.kept (row:=none) ⟨hb.os,hb.tape,hb.output,hb.size,fun k hk _=>hb.block k hk⟩ (by cases hv:v.ownBlock <;> simp),hne⟩
 rcases h1 with h | h
 ·exact .inl (key _ h)
 ·exact .inr (key _ h)
theorem Bld.new {B:Nat} {W0 w:World} (hb:Below B W0 w) (hB:B <= w.heap.size):Bld B w.heap.size [] W0 (w.alloc (.cells #[.pointer none,.slice none 0 0] 99)) :=
 ⟨.inl ⟨hB,.slice none 0 0,heap_alloc_new w _,World.ownsRow_nil _ B _ 1,by simp [Value.ownBlock]⟩,hb.alloc hB _,by simp;omega⟩
def KM (w w':World):Prop:=∀ (m:Nat) es c,w.heap[m]? = some (Obj.map es c) -> w'.heap[m]? = some (Obj.map es c)
theorem KM.refl (w:World):KM w w:=fun _ _ _ h=>h
theorem KM.trans {a b c:World} (h:KM a b) (k:KM b c):KM a c:=fun m es x hm=>k m es x (h m es x hm)
theorem KM.alloc (w:World) (o:Obj):KM w (w.alloc o):=fun m es x hm=>(Below.heap_alloc w o m (Array.getElem?_eq_some_iff.1 hm).1).trans hm
theorem KM.below {w w':World} (h:Below w.heap.size w w'):KM w w':=fun m es x hm=>(h.block m (Array.getElem?_eq_some_iff.1 hm).1).trans hm
theorem KM.set {w:World} {b:Nat} {cs:Array Value} {t:TypeId} {fr:Nat × Nat} (h:w.heap[b]? = some (.cells cs t fr)) (i:Nat) (v:Value):KM w (w.setCell ⟨b,i,none⟩ v):=fun m es x hm=>by
 have hne:m ≠ b:=by rintro rfl;rw [h] at hm;cases hm
 exact (Below.heap_setCell w _ v m hne).trans hm
theorem KM.own {w w':World} {B n:Nat} {e:TypeId} {v:Value} {xs:List Value} (h:w.ownsRow B e 1 v n xs) (hg:w.grownBy w' v.ownBlock):KM w w':=fun m es x hm=>by
 refine (hg.block m (Array.getElem?_eq_some_iff.1 hm).1 (fun he=>?_)).trans hm;rcases h.2 with ⟨rfl,_⟩ | ⟨g,cap,cur,rfl,_,hh,_⟩
 ·simp [Value.ownBlock] at he
 ·have e1:g = m:=by simpa [Value.ownBlock] using he.symm
  subst e1;rw [hh] at hm;cases hm
theorem copyCheckM_any (B b:Nat) (bs:List Value) (w:World) (h:Lib.IsBuilder 99 5 B b bs w) :
  Calls Tryz.prog 67 #[.pointer (some ⟨b,0,none⟩)] w fun e w'=>e = .returned (.tuple #[]) /\ Lib.BuilderAt 99 5 B b (.pointer (some ⟨b,0,none⟩)) bs w' /\ Below B w w' /\ KM w w':=by
 rcases h with h | h
 ·obtain ⟨hB,v,hbk,ho,hne⟩:=id h;refine (copyCheck_fresh b w h.cell0 h.shape h.frozen0).mono ?_;rintro e w' ⟨rfl,rfl⟩;exact ⟨rfl,h.used _,(Below.refl B w).setCell (p:=⟨b,0,none⟩) h.1 _,KM.set hbk _ _⟩
 ·refine (copyCheck_used b w h.cell0).mono ?_;rintro e w' ⟨rfl,rfl⟩;exact ⟨rfl,h,Below.refl B _,KM.refl _⟩
theorem writeStringM_any (B b : Nat) (l : List UInt8) (s : ByteArray) (W0 w : World) (h : Bld B b l W0 w) (hlen : l.length + s.size ≤ 140737488355328) :
    Calls Tryz.prog 49 #[.pointer (some ⟨b, 0, none⟩), .string s] w fun e w' => e = .returned (.tuple #[.int .i64 s.size, .nilIface]) ∧ Bld B b (l ++ s.data.toList) W0 w' ∧ KM w w' := by
  obtain ⟨h, hbel, hBw⟩ := h
  obtain ⟨i0, hi, hz0, hz1, hz2⟩ := info_parts info_u8
  have HBL := hide hbel
  clear hbel
  go_enter Tryz.func49, Tryz.ntmps49
  go_wp2_with fail
  refine (copyCheckM_any B b (cellsOf l) _ h).mono ?_
  rintro e w1 ⟨rfl, h1, hb1, hk1⟩
  have HK1 := hide hk1
  clear hk1
  obtain ⟨hB, v, hbk, hown, hne⟩ := h1
  have c1 : w1.cell? ⟨b, 1, none⟩ = some v := by rw [Lib.cell_of_heap hbk]; rfl
  have hlt : b < w1.heap.size := lt_of_block hbk
  have hl1 : (cellsOf l).length = l.length := cellsOf_length l
  have HBK := hide hbk
  have HOWN := hide hown
  have HNE := hide hne
  have HB1 := hide hb1
  have hsz1 := hb1.size
  have HI := hide hi
  have HZ0 := hide hz0
  have HZ1 := hide hz1
  have HZ2 := hide hz2
  have HL1 := hide hl1
  clear hbk hown hne hb1 hi hz0 hz1 hz2 h
  go_wp2_with (refine Lib.wpList_append_own_string _ rfl _ _ 58 9 rfl B 5 i0 Tryz.underlying58 Tryz.underlying9 HI.out HZ0.out HZ1.out HZ2.out v (cellsOf l).length (cellsOf l) rfl HOWN.out s rfl (by rw [HL1.out]; unfold maxLen; omega) (by rw [HL1.out]; omega) (by omega) ?_
               intro v' w2 hown' hgrow _
               obtain ⟨ao, n', cap, rfl⟩ : ∃ ao n' cap, v' = .slice ao n' cap := by
                 rcases hown'.2 with ⟨hv, _⟩ | ⟨g, cap, cur, hv, _⟩
                 · exact ⟨_, _, _, hv⟩
                 · exact ⟨_, _, _, hv⟩
               have hb2 : w2.heap[b]? = some (.cells #[.pointer (some ⟨b, 0, none⟩), v] 99 (0, 0)) := by
                 rw [hgrow.block b hlt (fun e => HNE.out e.symm)]
                 exact HBK.out
               have d1 : w2.cell? ⟨b, 1, none⟩ = some v := by rw [Lib.cell_of_heap hb2]; rfl
               have f1 : w2.frozen? ⟨b, 1, none⟩ = false := Lib.frozen_of_heap hb2 1
               have HKM := hide (HK1.out.trans (KM.own HOWN.out hgrow))
               have HO2 := hide hown'
               have HG2 := hide hgrow
               have HB2 := hide hb2
               clear hown' hgrow hb2)
  go_ret2
  have hb3 : Below B w w2 := HB1.out.grown HG2.out (by omega) (fun k hk => (HOWN.out.lt k hk).1)
  refine ⟨rfl, ⟨.inr ?_, (HBL.out.trans hb3).setCell (p := ⟨b, 1, none⟩) hB _, ?_⟩, HKM.out.trans (KM.set HB2.out _ _)⟩
  · refine Lib.BuilderAt.put (T := 99) (e := 5) hB HB2.out (bs' := cellsOf (l ++ s.data.toList)) ?_ (by decide)
    have ho := HO2.out
    have e1 : cellsOf (l ++ s.data.toList) = cellsOf l ++ Lib.strCells s := by rw [cellsOf_str, cellsOf, List.map_append]; rfl
    rw [e1, List.length_append, Lib.strCells_length]
    exact ho
  · have := hb3.size
    simp [World.setCell]
    omega
theorem SMapN.km {w w':World} {b n:Nat} {f:List UInt8 -> Option Int} (h:SMapN w b n f) (hk:KM w w'):SMapN w' b n f:=by
 obtain ⟨D,⟨es,c,h1,h2,h3,h4⟩,h5⟩:=h;exact ⟨D,⟨es,c,hk b es c h1,h2,h3,h4⟩,h5⟩
theorem writeRuneM_any (B b : Nat) (l : List UInt8) (r : Int) (h0 : 0 ≤ r) (h1r : r ≤ 1114111) (W0 w : World) (h : Bld B b l W0 w) (hlen : l.length + 4 ≤ 140737488355328) :
    Calls Tryz.prog 73 #[.pointer (some ⟨b, 0, none⟩), .int .i32 r] w fun e w' => (∃ n, e = .returned (.tuple #[.int .i64 n, .nilIface])) ∧ Bld B b (l ++ runeL r) W0 w' ∧ KM w w' := by
  obtain ⟨h, hbel, hBw⟩ := h
  have HBL := hide hbel
  clear hbel
  go_enter Tryz.func73, Tryz.ntmps73
  go_wp2_with fail
  refine (copyCheckM_any B b (cellsOf l) _ h).mono ?_
  rintro e w1 ⟨rfl, h1, hb1, hk1⟩
  have HK1 := hide hk1
  clear hk1
  obtain ⟨hB, v, hbk, hown, hne⟩ := h1
  have c1 : w1.cell? ⟨b, 1, none⟩ = some v := by rw [Lib.cell_of_heap hbk]; rfl
  have hlt : b < w1.heap.size := lt_of_block hbk
  have hl1 : (cellsOf l).length = l.length := cellsOf_length l
  rw [hl1] at hown
  obtain ⟨A, cp, rfl⟩ : ∃ A cp, v = .slice A l.length cp := by
    rcases hown.2 with ⟨hv, hz⟩ | ⟨g, cap, cur, hv, _⟩
    · rw [hz]; exact ⟨_, _, hv⟩
    · exact ⟨_, _, hv⟩
  have HBK := hide hbk
  have HOWN := hide hown
  have HNE := hide hne
  have HB1 := hide hb1
  have hsz1 := hb1.size
  have HAR := hide (Tryz.utf8_AppendRune_plain B (.slice A l.length cp) l.length (cellsOf l) r (by omega) (by omega) w1 hown (by omega) (by omega))
  clear hbk hown hne hb1 h hl1
  go_wp2_with (go_at_call 84; refine HAR.out.mono ?_; rintro e w2 ⟨v', rfl, ho, o, hg⟩
               have e1 : Lib.runeCells r = cellsOf (runeL r) := (Lib.byteCells_encodeRune r).symm
               have e2 : (Lib.runeCells r).length = (runeL r).length := by rw [e1, cellsOf_length]
               rw [e2, e1] at ho
               obtain ⟨ao, cap, rfl⟩ : ∃ ao cap, v' = .slice ao (l.length + (runeL r).length) cap := by
                 rcases ho.2 with ⟨hv, hz⟩ | ⟨g, cap, cur, hv, _⟩
                 · rw [hz]; exact ⟨_, _, hv⟩
                 · exact ⟨_, _, hv⟩
               have hb2 : w2.heap[b]? = some (.cells #[.pointer (some ⟨b, 0, none⟩), .slice A l.length cp] 99 (0, 0)) := by
                 rw [hg.block b (Nat.lt_of_lt_of_le hlt ((Below.refl 0 w1).alloc (Nat.zero_le _) o).size) (fun e => HNE.out e.symm), Below.heap_alloc w1 o b hlt]
                 exact HBK.out
               have d1 : w2.cell? ⟨b, 1, none⟩ = some (.slice A l.length cp) := by rw [Lib.cell_of_heap hb2]; rfl
               have f1 : w2.frozen? ⟨b, 1, none⟩ = false := Lib.frozen_of_heap hb2 1
               obtain ⟨w3, hw3⟩ : ∃ w3, w3 = w2.setCell ⟨b, 1, none⟩ (.slice ao (l.length + (runeL r).length) cap) := ⟨_, rfl⟩
               have g1 : (w2.setCell ⟨b, 1, none⟩ (.slice ao (l.length + (runeL r).length) cap)).cell? ⟨b, 1, none⟩ = some (.slice ao (l.length + (runeL r).length) cap) := World.cell?_setCell_same _ _ _ d1
               have HKM := hide (HK1.out.trans ((KM.alloc w1 o).trans (KM.own (HOWN.out.alloc o) hg)))
               have HO2 := hide ho
               have HG2 : Hid (Below B w w2) := hide ((HB1.out.alloc (by omega) o).grown hg (Nat.le_trans (by omega) ((Below.refl 0 w1).alloc (Nat.zero_le _) o).size) (fun k hk => (HOWN.out.lt k hk).1))
               have HB2 := hide hb2
               clear ho hg hb2 e1 e2 hw3)
  go_ret2
  refine ⟨⟨_, rfl⟩, ⟨.inr ?_, (HBL.out.trans HG2.out).setCell (p := ⟨b, 1, none⟩) hB _, ?_⟩, HKM.out.trans (KM.set HB2.out _ _)⟩
  · refine Lib.BuilderAt.put (T := 99) (e := 5) hB HB2.out (bs' := cellsOf (l ++ runeL r)) ?_ (by decide)
    have ho := HO2.out
    have e1 : cellsOf (l ++ runeL r) = cellsOf l ++ cellsOf (runeL r) := by rw [cellsOf, List.map_append]; rfl
    rw [e1, List.length_append, cellsOf_length, cellsOf_length]
    exact ho
  · have := HG2.out.size
    simp [World.setCell]
    omega
def EnvE (w:World):Prop:=Tab w /\ Lib.Utf8Tabs 1 2 w /\ ∃ ev,w.cell? ⟨3,0,none⟩ = some ev /\ (ev = .nilIface \/ ∃ te pe,ev = .iface te pe)
theorem EnvE.kept {w w':World} (h:EnvE w) (hb:Below w.heap.size w w'):EnvE w':=by
 obtain ⟨h1,h2,ev,h3,h4⟩:=h;exact ⟨h1.below hb h1.lt,tabs_kept h2 hb,ev,(hb.cell (p:=⟨3,0,none⟩) (World.block_lt_of_cell? _ _ h3)).trans h3,h4⟩
def SignOK (c:Int):Prop:=0 <= c /\ c <= 1114111
theorem putN_ok {f:List UInt8 -> Option Int} {k:List UInt8} {c:Int} (hf:∀ l x,f l = some x -> SignOK x) (hc:SignOK c):∀ l x,putN f k c l = some x -> SignOK x:=by
 intro l x h;unfold putN at h;split at h
 ·injection h with h;rw [<- h];exact hc
 ·exact hf l x h
theorem nameN_ok:∀ l x,nameN l = some x -> SignOK x:=by
 unfold nameN
 repeat (refine putN_ok ?_ (by unfold SignOK;decide))
 intro l x h;cases h
theorem signN_ok (n:Nat):SignOK (signN n):=by
 unfold signN SignOK;split
 ·decide
 ·split
  ·have:=winR_range (UInt8.ofNat n);omega
  ·omega
theorem numAt_ok {b m:Nat} {l:List UInt8}:∀ x,numAt b m l = some x -> SignOK x:=by
 intro x h;unfold numAt at h;split at h
 ·cases h
 ·split at h
  ·cases h
  ·injection h with h;rw [<- h];exact signN_ok _
theorem sgn_ok {l:List UInt8}:∀ x,sgn l = some x -> SignOK x:=by
 intro x h;unfold sgn byN at h;split at h
 ·split at h <;> exact numAt_ok x h
 ·exact nameN_ok _ x h
theorem refN_ok (l:List UInt8):SignOK (refN l).1 /\ (refN l).2 <= l.length:=by
 unfold refN;split
 ·rename_i x h1 h2;refine ⟨sgn_ok x h1,?_⟩;rcases cut_case 59 (l.take 9) with ⟨h3,h4,_⟩ | ⟨a,r,h3,_,h4,_⟩
  ·have:hasC 59 (l.take 9) = false:=by unfold hasC;simpa using h3
   rw [this] at h2;cases h2
  ·have:=congrArg List.length h3;rw [List.length_append,List.length_cons,List.length_take] at this;rw [h4];show a.length + 1 <= _
   omega
 ·exact ⟨by unfold SignOK;decide,Nat.zero_le _⟩
def decE (l:List UInt8):List UInt8 :=
  if h:hasC 38 l = true then
    beforeC 38 l ++ (if 0 < (refN (afterC 38 l)).2 then runeL (refN (afterC 38 l)).1 ++ decE ((afterC 38 l).drop (refN (afterC 38 l)).2) else 38 :: decE (afterC 38 l))
  else l
termination_by l.length
decreasing_by
  all_goals
    rcases cut_case 38 l with ⟨h3,_⟩ | ⟨a,r,h3,_,h4,h5⟩
    · exact absurd h (by unfold hasC;simpa using h3)
    · have:=congrArg List.length h3
      rw [List.length_append,List.length_cons] at this
      rw [h5]
      first | (rw [List.length_drop];omega) | omega
theorem decE_no {l:List UInt8} (h:hasC 38 l = false):decE l = l:=by rw [decE,dif_neg (by rw [h];decide)]
theorem decE_yes {l:List UInt8} (h:hasC 38 l = true):decE l = beforeC 38 l ++ (if 0 < (refN (afterC 38 l)).2 then runeL (refN (afterC 38 l)).1 ++ decE ((afterC 38 l).drop (refN (afterC 38 l)).2) else 38 :: decE (afterC 38 l)):=by rw [decE,dif_pos h]
theorem has_cut {c:UInt8} {l:List UInt8} (h:hasC c l = true):l.length = (beforeC c l).length + 1 + (afterC c l).length:=by
 rcases cut_case c l with ⟨h3,_⟩ | ⟨a,r,h3,_,h4,h5⟩
 ·exact absurd h (by unfold hasC;simpa using h3)
 ·have:=congrArg List.length h3;rw [List.length_append,List.length_cons] at this;rw [h4,h5];omega
theorem index_has (c:UInt8) (l:List UInt8):decide (0 <= Lib.indexByte l c) = hasC c l:=by
 rcases index_cut c l with ⟨h1,h2,_⟩ | ⟨o,h1,_,h2,_⟩
 ·rw [h1];have:hasC c l = false:=by unfold hasC;simpa using h2
  rw [this];rfl
 ·rw [h1];have:hasC c l = true:=by unfold hasC;simpa using h2
  rw [this];exact decide_eq_true (by omega)
theorem entDecode_any (s:ByteArray) (w:World) (hs:s.size <= 16777216) (hE:EnvE w) :
  Calls Tryz.prog 50 #[.string s] w fun e w'=>e = .returned (.string (str (decE s.data.toList))) /\ Below w.heap.size w w':=by
 have HC:=hide (Tryz.strings_Contains_one s 38 w);rw [index_has] at HC;cases hh:hasC 38 s.data.toList with
 | false =>
  have HR:Hid (decE s.data.toList = s.data.toList):=hide (decE_no hh);rw [hh] at HC;clear hh hE;go_enter Tryz.func50,Tryz.ntmps50;go_wp2_with (go_at_call 68;refine HC.out.mono ?_;rintro e w1 ⟨rfl,hw⟩;obtain rfl:=hw.symm);go_ret;exact ⟨by rw [HR.out,str_of];rfl,Below.refl _ _⟩
 | true =>
  rw [hh] at HC;have HE:=hide hE;have KB:Hid (Below w.heap.size w (w.alloc (.cells #[.pointer none,.slice none 0 0] 99))):=hide ((Below.refl _ _).alloc (Nat.le_refl _) _);have HBD:=hide (Bld.new (B:=w.heap.size) (W0:=w) (Below.refl _ w) (Nat.le_refl _));clear hh hE;go_enter Tryz.func50,Tryz.ntmps50
  go_wp2_with (first
   |(go_at_call 68;refine HC.out.mono ?_;rintro e w1 ⟨rfl,hw⟩;obtain rfl:=hw.symm)
   |(go_at_call 69;refine (signs_any _).mono ?_;rintro e w2 ⟨rfl,hm2,hb2⟩;have HM2:=hide hm2;have HB2:=hide hb2;clear hm2 hb2))
  have HM2':Hid (SMapN w2 (w.heap.size + 1) 16 nameN):=hide (by have:=HM2.out;rwa [World.size_alloc] at this);go_loopw [0] (fun sv wr=>∃ (S:ByteArray) (acc:List UInt8),sv = .string S /\ Hid (acc.length + 4 * S.size <= 4 * s.size) /\ Hid (Bld w.heap.size w.heap.size acc w wr) /\ Hid (SMapN wr (w.heap.size + 1) 16 nameN) /\ Hid (acc ++ decE S.data.toList = decE s.data.toList)) (fun sv _=>szOfS sv)
  case atStart=>exact ⟨s,[],rfl,hide (by simp),hide (HBD.out.kept HB2.out),HM2',hide rfl⟩
  case round =>
   obtain ⟨S,acc,rfl,HL,HB,HM,HG⟩:=hrel;have hSz:S.size <= s.size:=by have:=HL.out;omega
   have hcut:=fun w1=>strCut_any S 38 w1 (by omega)
   simp only [cutV] at hcut;obtain ⟨A,hA⟩:∃ A,A = str (beforeC 38 S.data.toList):=⟨_,rfl⟩
   obtain ⟨R,hR⟩:∃ R,R = str (afterC 38 S.data.toList):=⟨_,rfl⟩
   rw [<- hA,<- hR] at hcut;have hAl:A.data.toList = beforeC 38 S.data.toList:=by rw [hA,str_toList]
   have hRl:R.data.toList = afterC 38 S.data.toList:=by rw [hR,str_toList]
   have hAs:A.size <= S.size:=by rw [<- toList_length,hAl,<- toList_length S];exact (List.takeWhile_sublist _).length_le
   have HL1:Hid (acc.length + A.size <= 140737488355328):=hide (by have:=HL.out;omega);have tok1:True:=trivial;cases hc:hasC 38 S.data.toList with
   | false =>
    rw [hc] at hcut;have HCUT:=hide hcut
    have HR:Hid (decE s.data.toList = acc ++ A.data.toList):=hide (by
     rw [<- HG.out,decE_no hc,hAl];rcases cut_case 38 S.data.toList with ⟨_,h4,_⟩ | ⟨a,r,h3,_⟩
     ·rw [h4]
     ·exact absurd hc (by unfold hasC;rw [h3];simp))
    clear hcut hc hA hR hAl hRl hAs hSz
    go_wp2_with (first
     |(go_at_call 70;with_reducible refine (HCUT.out _).mono ?_;rintro e w3 ⟨rfl,hb3⟩;have HB3:=hide (HB.out.kept hb3);have HM3:=hide (HM.out.kept hb3);clear hb3)
     |(go_at_call 49;have _t:=tok1;refine (writeStringM_any _ _ acc A w _ HB3.out HL1.out).mono ?_;rintro e w4 ⟨rfl,hb4,hk4⟩;have HB4:=hide hb4;have HM4:=hide (HM3.out.km hk4);clear hb4 hk4 tok1)
     |(go_at_call 71;refine (HB4.out.string).mono ?_;rintro e w5 ⟨rfl,hb5⟩;have HB5:=hide hb5;clear hb5))
    go_ret;exact ⟨by rw [HR.out];rfl,HB5.out⟩
   | true =>
    rw [hc] at hcut;have HCUT:=hide hcut;have hlen:=has_cut hc;rw [<- hAl,<- hRl,toList_length,toList_length,toList_length] at hlen;have hdec:=decE_yes hc;rw [<- hAl,<- hRl] at hdec;have hG:=HG.out;rw [hdec] at hG;obtain ⟨hx,hnl⟩:=refN_ok R.data.toList;rw [toList_length] at hnl;have href:=fun w1 (hm:SMapN w1 (w.heap.size + 1) 16 nameN) (he:EnvE w1)=>reference_any R (w.heap.size + 1) he.2.2.choose w1 (by omega) hm he.1 he.2.1 he.2.2.choose_spec.1 he.2.2.choose_spec.2
    obtain ⟨⟨x,n⟩,hr⟩:∃ o,refN R.data.toList = o:=⟨_,rfl⟩
    rw [hr] at hx hnl href hG;simp only [refV] at href;simp only [] at hx hnl hG;have HREF:=hide href;have HX:=hide hx;have hLL:=HL.out
    by_cases hn:0 < n
    ·have t1:decide ((n:Int) > 0) = true:=decide_eq_true (by omega);have t2:decide (0 < n) = true:=decide_eq_true hn;have k1:(0:Int) <= n:=by omega
     have k2:(n:Int) <= R.size:=by omega
     rw [if_pos hn] at hG;have hrl:=(runeL_length x).2.1;have hsz:(R.extract n R.size).size = R.size - n:=by rw [ByteArray.size_extract];omega
     have HL2:Hid ((acc ++ A.data.toList).length + 4 <= 140737488355328):=hide (by rw [List.length_append,toList_length];omega);have HLN:Hid (((acc ++ A.data.toList) ++ runeL x).length + 4 * (R.extract n R.size).size <= 4 * s.size):=hide (by rw [List.length_append,List.length_append,toList_length,hsz];omega);have HGN:Hid (((acc ++ A.data.toList) ++ runeL x) ++ decE (R.extract n R.size).data.toList = decE s.data.toList):=hide (by rw [extract_end,<- hG];simp);have HLT:Hid ((R.extract n R.size).size < S.size):=hide (by rw [hsz];omega);clear hcut hc hA hR hAl hRl hAs hlen hdec hG hx hnl href hr hLL hn hrl hsz hSz
     go_wp2_with (first
      |(go_at_call 70;with_reducible refine (HCUT.out _).mono ?_;rintro e w3 ⟨rfl,hb3⟩;have HB3:=hide (HB.out.kept hb3);have HM3:=hide (HM.out.kept hb3);clear hb3)
      |(go_at_call 49;have _t:=tok1;refine (writeStringM_any _ _ acc A w _ HB3.out HL1.out).mono ?_;rintro e w4 ⟨rfl,hb4,hk4⟩;have HB4:=hide hb4;have HM4:=hide (HM3.out.km hk4);clear hb4 hk4 tok1)
      |(go_at_call 72;refine (HREF.out _ HM4.out (HE.out.kept HB4.out.2.1)).mono ?_;rintro e w5 ⟨rfl,hb5⟩;have HB5:=hide (HB4.out.kept hb5);have HM5:=hide (HM4.out.kept hb5);clear hb5)
      |(go_at_call 73;refine (writeRuneM_any _ _ _ x HX.out.1 HX.out.2 w _ HB5.out HL2.out).mono ?_;rintro e w6 ⟨⟨m6,rfl⟩,hb6,hk6⟩;have HB6:=hide hb6;have HM6:=hide (HM5.out.km hk6);clear hb6 hk6))
     go_roundw
     case rel=>exact ⟨_,_,rfl,HLN,HB6,HM6,HGN⟩
     case measure=>exact HLT.out
    ·have hn0:n = 0:=by omega
     have t1:decide ((n:Int) > 0) = false:=decide_eq_false (by omega);have t2:decide (0 < n) = false:=decide_eq_false hn;rw [if_neg hn] at hG;have tok2:True:=trivial;have HL2:Hid ((acc ++ A.data.toList).length + (⟨#[38]⟩:ByteArray).size <= 140737488355328):=hide (by rw [List.length_append,toList_length,show (⟨#[38]⟩:ByteArray).size = 1 from rfl];omega);have HLN:Hid (((acc ++ A.data.toList) ++ (⟨#[38]⟩:ByteArray).data.toList).length + 4 * R.size <= 4 * s.size):=hide (by rw [List.length_append,List.length_append,toList_length,toList_length,show (⟨#[38]⟩:ByteArray).size = 1 from rfl];omega);have HGN:Hid (((acc ++ A.data.toList) ++ (⟨#[38]⟩:ByteArray).data.toList) ++ decE R.data.toList = decE s.data.toList):=hide (by rw [<- hG,show (⟨#[38]⟩:ByteArray).data.toList = [38] from rfl];simp);have HLT:Hid (R.size < S.size):=hide (by omega);clear hcut hc hA hR hAl hRl hAs hlen hdec hG hx hnl href hr hLL hn hn0 hSz
     go_wp2_with (first
      |(go_at_call 70;with_reducible refine (HCUT.out _).mono ?_;rintro e w3 ⟨rfl,hb3⟩;have HB3:=hide (HB.out.kept hb3);have HM3:=hide (HM.out.kept hb3);clear hb3)
      |(go_at_call 49;have _t:=tok1;refine (writeStringM_any _ _ acc A w _ HB3.out HL1.out).mono ?_;rintro e w4 ⟨rfl,hb4,hk4⟩;have HB4:=hide hb4;have HM4:=hide (HM3.out.km hk4);clear hb4 hk4 tok1)
      |(go_at_call 72;refine (HREF.out _ HM4.out (HE.out.kept HB4.out.2.1)).mono ?_;rintro e w5 ⟨rfl,hb5⟩;have HB5:=hide (HB4.out.kept hb5);have HM5:=hide (HM4.out.kept hb5);clear hb5)
      |(go_at_call 49;have _t:=tok2;refine (writeStringM_any _ _ _ ⟨#[38]⟩ w _ HB5.out HL2.out).mono ?_;rintro e w6 ⟨rfl,hb6,hk6⟩;have HB6:=hide hb6;have HM6:=hide (HM5.out.km hk6);clear hb6 hk6 tok2))
     go_roundw
     case rel=>exact ⟨_,_,rfl,HLN,HB6,HM6,HGN⟩
     case measure=>exact HLT.out
def mapC (c:UInt8):Nat:=if c = 38 then 0 else if c = 60 then 1 else if c = 62 then 2 else if c = 160 then 3 else if c = 194 then 4 else 5
def ampT:List UInt8:=[38,97,109,112,59]
def ltT:List UInt8:=[38,108,116,59]
def gtT:List UInt8:=[38,103,116,59]
def nbT:List UInt8:=[38,110,98,115,112,59]
def Node (w:World) (b:Nat) (val:ByteArray) (prio:Int) (pre:ByteArray) (nx:Option Addr) (tab:Value):Prop :=
  w.cell? ⟨b,0,none⟩ = some (.string val) /\ w.cell? ⟨b,1,none⟩ = some (.int .i64 prio) /\ w.cell? ⟨b,2,none⟩ = some (.string pre) /\ w.cell? ⟨b,3,none⟩ = some (.pointer nx) /\ w.cell? ⟨b,4,none⟩ = some tab
structure Trie (w:World) (G T n0 n1 n2 n4 n5:Nat):Prop where
  root:Node w G ⟨#[]⟩ 0 ⟨#[]⟩ none (.slice (some ⟨T,0,none⟩) 5 5)
  size:w.cell? ⟨G,5,none⟩ = some (.int .i64 5)
  map:∀ c:UInt8,w.cell? ⟨G,6 + c.toNat,none⟩ = some (.int .u8 (mapC c))
  t0:w.cell? ⟨T,0,none⟩ = some (.pointer (some ⟨n0,0,none⟩))
  t1:w.cell? ⟨T,1,none⟩ = some (.pointer (some ⟨n1,0,none⟩))
  t2:w.cell? ⟨T,2,none⟩ = some (.pointer (some ⟨n2,0,none⟩))
  t3:w.cell? ⟨T,3,none⟩ = some (.pointer none)
  t4:w.cell? ⟨T,4,none⟩ = some (.pointer (some ⟨n4,0,none⟩))
  k0:Node w n0 (str ampT) 8 ⟨#[]⟩ none (.slice none 0 0)
  k1:Node w n1 (str ltT) 6 ⟨#[]⟩ none (.slice none 0 0)
  k2:Node w n2 (str gtT) 4 ⟨#[]⟩ none (.slice none 0 0)
  k4:Node w n4 ⟨#[]⟩ 0 ⟨#[160]⟩ (some ⟨n5,0,none⟩) (.slice none 0 0)
  k5:Node w n5 (str nbT) 2 ⟨#[]⟩ none (.slice none 0 0)
def lookL:List UInt8 -> Option (List UInt8 × Nat)
  | 38 :: _=>some (ampT,1)
  | 60 :: _=>some (ltT,1)
  | 62 :: _=>some (gtT,1)
  | 194 :: 160 :: _=>some (nbT,2)
  | _=>none
theorem below_drewN (w:World) (n:Nat):Below w.heap.size w (w.drewN n):=⟨rfl,rfl,rfl,Nat.le_refl _,fun _ _=>rfl⟩
theorem chr_lt (c:UInt8):c.toNat < 256:=c.toBitVec.isLt
def WBuf (B b:Nat) (l:List UInt8) (W0 w:World):Prop:=B <= b /\ ∃ v,Box w b 304 v /\ Buf B v l W0 w
theorem WBuf.drewN {B b:Nat} {l:List UInt8} {W0 w:World} (h:WBuf B b l W0 w) (n:Nat):WBuf B b l W0 (w.drewN n):=by
 obtain ⟨hB,v,h1,h2⟩:=h;exact ⟨hB,v,h1.drewN n,h2.drewN n⟩
theorem WBuf.below {B b:Nat} {l:List UInt8} {W0 w:World} (h:WBuf B b l W0 w):Below B W0 w:=by
 obtain ⟨hB,v,h1,h2⟩:=h;exact h2.below
theorem WBuf.kept {B b:Nat} {l:List UInt8} {W0 w w':World} (h:WBuf B b l W0 w) (hb:Below w.heap.size w w'):WBuf B b l W0 w':=by
 obtain ⟨hB,v,h1,h2⟩:=h;exact ⟨hB,v,h1.below hb h1.lt,h2.kept hb⟩
def escG:List UInt8 -> List UInt8
  | []=>[]
  | c :: r=>match lookL (c :: r) with
    | some (t,n)=>t ++ escG (r.drop (n - 1))
    | none=>c :: escG r
termination_by l=>l.length
decreasing_by all_goals simp;try omega
theorem lookL_some {l:List UInt8} {t:List UInt8} {n:Nat} (h:lookL l = some (t,n)):1 <= n /\ n <= 2 /\ n <= l.length /\ t.length <= 6 /\ t ≠ []:=by
 unfold lookL at h;split at h <;> first | (injection h with h;injection h with h1 h2;subst h1 h2;refine ⟨by omega,by omega,by simp,by decide,by decide⟩) | cases h
theorem escG_some {l:List UInt8} {t:List UInt8} {n:Nat} (h:lookL l = some (t,n)):escG l = t ++ escG (l.drop n):=by
 have hp:=lookL_some h;cases l with
 | nil=>simp [lookL] at h
 | cons c r =>
  rw [escG,h];obtain ⟨k,rfl⟩:∃ k,n = k + 1:=⟨n - 1,by omega⟩
  rfl
theorem escG_none {c:UInt8} {r:List UInt8} (h:lookL (c :: r) = none):escG (c :: r) = c :: escG r:=by
 rw [escG,h]
theorem escG_len:∀ (k:Nat) (l:List UInt8),l.length <= k -> (escG l).length <= 6 * l.length
 | 0,l,h=>by
  have:l = []:=List.eq_nil_of_length_eq_zero (by omega);subst this;rw [escG];simp
 | k + 1,[],h=>by rw [escG];simp
 | k + 1,c :: r,h=>by
  cases e:lookL (c :: r) with
  | none =>
   rw [escG_none e];have:=escG_len k r (by simp at h;omega);simp only [List.length_cons];omega
  | some p =>
   obtain ⟨t,n⟩:=p;have hp:=lookL_some e;rw [escG_some e];have:=escG_len k ((c :: r).drop n) (by rw [List.length_drop];simp at h ⊢;omega);rw [List.length_append];rw [List.length_drop] at this;omega
theorem Trie.below {w w':World} {G T n0 n1 n2 n4 n5 B:Nat} (h:Trie w G T n0 n1 n2 n4 n5) (hb:Below B w w') (hB:G < B /\ T < B /\ n0 < B /\ n1 < B /\ n2 < B /\ n4 < B /\ n5 < B):Trie w' G T n0 n1 n2 n4 n5:=by
 have key:∀ (b o:Nat),b < B -> w'.cell? ⟨b,o,none⟩ = w.cell? ⟨b,o,none⟩:=fun b o hb'=>hb.cell (p:=⟨b,o,none⟩) hb'
 have kn:∀ {b val prio pre nx tab},b < B -> Node w b val prio pre nx tab -> Node w' b val prio pre nx tab:=by
  intro b val prio pre nx tab hb' ⟨a0,a1,a2,a3,a4⟩;exact ⟨(key _ _ hb').trans a0,(key _ _ hb').trans a1,(key _ _ hb').trans a2,(key _ _ hb').trans a3,(key _ _ hb').trans a4⟩
 obtain ⟨b0,b1,b2,b3,b4,b5,b6⟩:=hB;exact ⟨kn b0 h.root,(key _ _ b0).trans h.size,fun c=>(key _ _ b0).trans (h.map c),(key _ _ b1).trans h.t0,(key _ _ b1).trans h.t1,(key _ _ b1).trans h.t2,(key _ _ b1).trans h.t3,(key _ _ b1).trans h.t4,kn b2 h.k0,kn b3 h.k1,kn b4 h.k2,kn b5 h.k4,kn b6 h.k5⟩
theorem Trie.drewN {w:World} {G T n0 n1 n2 n4 n5:Nat} (h:Trie w G T n0 n1 n2 n4 n5) (n:Nat):Trie (w.drewN n) G T n0 n1 n2 n4 n5:=⟨h.1,h.2,h.3,h.4,h.5,h.6,h.7,h.8,h.9,h.10,h.11,h.12,h.13⟩
def WInv (L:List UInt8) (i m:Nat) (acc:List UInt8):Prop:=m <= i /\ i <= L.length + 1 /\ m <= L.length /\ acc ++ (L.take i).drop m ++ escG (L.drop i) = escG L
theorem WInv.last {L:List UInt8} {m:Nat} {acc:List UInt8} (h:WInv L L.length m acc):WInv L (L.length + 1) m acc:=by
 obtain ⟨h1,h2,h3,h4⟩:=h;refine ⟨by omega,by omega,h3,?_⟩;rw [<- h4,List.take_of_length_le (Nat.le_succ _),List.take_length,List.drop_length,List.drop_eq_nil_of_le (Nat.le_succ _)]
theorem WInv.hit {L:List UInt8} {i m n:Nat} {acc t:List UInt8} (h:WInv L i m acc) (hn:lookL (L.drop i) = some (t,n)):i + n <= L.length /\ WInv L (i + n) (i + n) (acc ++ (L.take i).drop m ++ t):=by
 obtain ⟨h1,h2,h3,h4⟩:=h;have hp:=lookL_some hn;rw [List.length_drop] at hp;refine ⟨by omega,by omega,by omega,by omega,?_⟩;rw [<- h4,escG_some hn,List.drop_drop,show (L.take (i + n)).drop (i + n) = [] from List.drop_eq_nil_of_le (by rw [List.length_take];omega)];simp
theorem WInv.len {L:List UInt8} {i m:Nat} {acc:List UInt8} (h:WInv L i m acc):acc.length <= 6 * L.length:=by
 have:=escG_len L.length L (Nat.le_refl _);rw [<- h.2.2.2] at this;simp only [List.length_append] at this;omega
end Go.Proofs.YtmgpmdfmkdhfgaaGreatDoor
