import Derived.Test.YtiejmkjpgjbodaaGreatDoorArZ
import Derived.Test.YtiejmkjpgjbodaaGreatDoorBaseR
import Derived.Test.YtiejmkjpgjbodaaGreatDoorBaseP
import Derived.Deep.LoopGhost
import Derived.BigRegion
namespace Go.Proofs.YtiejmkjpgjbodaaGreatDoor
open Go.RowKit
set_option linter.unusedVariables false
set_option linter.unusedSimpArgs false
set_option maxRecDepth 100000
def MadC (B:Nat) (w w':World):Nat -> Prop:=fun b=>b < B \/ (w.heap.size <= b /\ b < w'.heap.size)
def MadR (B:Nat) (w:World) (v:Value) (wr:World):Nat -> Prop:=fun b=>(b < B \/ w.heap.size <= b) /\ b < wr.heap.size /\ v.ownBlock ≠ some b
def MadeP (B b:Nat) (r o:Value) (l:List ArV) (opn:List Nat) (hot:List Nat) (W0:World) (N:Nat):Prop:=∀ (kv:Value) (ks:List Nat) (T:Tr) (w:World),T.count < N -> AB B b r o l opn W0 w -> w.ownsRow B 3 1 kv ks.length (intVals ks) -> ArRes (arL l) hot ks T ->
    Calls Tryz.prog 45 #[.pointer (some ⟨b,0,none⟩),kv] w fun e w'=>∃ u,e = .returned u /\ NodesC (MadC B w w') w' u T /\ Below w.heap.size w w'
theorem made_ready {B:Nat} {w wr w6:World} {v u2 av:Value} {qs:List KidV} {f:NdH} {K:Tr} (hBw:B <= w.heap.size) (hwr:w.heap.size <= wr.heap.size) (hk:KRow (MadR B w v wr) w.heap.size v qs wr) (hb:Below wr.heap.size wr w6) (hA:AttrsC (fun g=>g < B) wr av f.attrs)
  (hn:NodesC (fun b=>b < B \/ (wr.heap.size <= b /\ b < w6.heap.size)) w6 u2 K) :
  KRow (MadR B w v (w6.alloc (.cells #[.string (str f.name),av,.string (str f.text),u2] 33))) w.heap.size v qs (w6.alloc (.cells #[.string (str f.name),av,.string (str f.text),u2] 33)) /\
  NodesC (MadR B w v (w6.alloc (.cells #[.string (str f.name),av,.string (str f.text),u2] 33))) (w6.alloc (.cells #[.string (str f.name),av,.string (str f.text),u2] 33)) (.slice (some ⟨w6.heap.size,0,none⟩) 1 1) (.cons f K .nil):=by
 obtain ⟨W,hW⟩:∃ W,W = w6.alloc (.cells #[.string (str f.name),av,.string (str f.text),u2] 33):=⟨_,rfl⟩
 rw [<- hW];have hbW:Below w6.heap.size w6 W:=by rw [hW];exact below_one w6 _
 have hzW:W.heap.size = w6.heap.size + 1:=by rw [hW,World.size_alloc]
 have hblk:W.heap[w6.heap.size]? = some (.cells #[.string (str f.name),av,.string (str f.text),u2] 33 (0,0)):=by rw [hW];exact heap_alloc_new w6 _
 have hs:=hb.size;have hown:∀ k,v.ownBlock = some k -> w.heap.size <= k /\ k < wr.heap.size:=fun k e=>hk.row.lt k e
 constructor
 ·exact (hk.kept (fun k hk2=>hk2.2.1) (bl_two hb hbW)).widen (fun b hb2=>⟨hb2.1,by have:=hb2.2.1;omega,hb2.2.2⟩) (fun g e hg2=>hg2.2.2 e)
 ·have hA2:AttrsC (MadR B w v W) W av f.attrs:=hA.mono (fun g hg=>(bl_two hb hbW).block g (by omega)) (fun g hg=>⟨.inl hg,by omega,fun e=>by have:=(hown g e).1;omega⟩)
  have hN:NodesC (MadR B w v W) W u2 K:=hn.mono (fun b hb2=>hbW.block b (by rcases hb2 with h | h;omega;exact h.2)) (fun b hb2=>by
   rcases hb2 with h | h
   ·exact ⟨.inl h,by omega,fun e=>by have:=(hown b e).1;omega⟩
   ·exact ⟨.inr (by omega),by omega,fun e=>by have:=(hown b e).2;omega⟩)
  exact .inr ⟨⟨w6.heap.size,0,none⟩,1,rfl,Nat.le_refl _,by decide,⟨⟨.inr (by show w.heap.size <= w6.heap.size;omega),by show w6.heap.size < _;omega,fun e=>by have h1:=(hown _ e).2;simp only at h1;omega⟩,(Lib.cell_of_heap hblk 0).trans rfl,(Lib.cell_of_heap hblk 2).trans rfl,⟨_,(Lib.cell_of_heap hblk 1).trans rfl,hA2⟩,⟨_,(Lib.cell_of_heap hblk 3).trans rfl,hN⟩,trivial⟩⟩
set_option maxHeartbeats 16000000 in
theorem made_step (B b : Nat) (r o : Value) (l : List ArV) (opn : List Nat) (hot : List Nat) (W0 : World) (hl : l.length ≤ 100000) (N : Nat) (hNm : N + 1 ≤ 1000000) (IH : MadeP B b r o l opn hot W0 N) : MadeP B b r o l opn hot W0 (N + 1) := by
  intro kv ks T w hN h hkr hres
  have hkl := hres.len
  obtain ⟨kA, kc, rfl, -, -⟩ := own_slice hkr
  have HH := hide h
  have HKR := hide hkr
  have HRES := hide hres
  have HIH := hide IH
  have HL := hide hl
  have HTN := hide hN
  have HSM0 : Hid (T.len ≤ 1000000) := hide (by have := Tr.len_count T; omega)
  obtain ⟨n, hn⟩ : ∃ n, n = ks.length := ⟨_, rfl⟩
  have HNN := hide hn
  have HNT : Hid (n = T.len) := hide (by rw [hn, hkl])
  have HSMALL : Hid (n ≤ 1000000) := hide (by have := HSM0.out; have := HNT.out; omega)
  rw [← hn]
  clear h hkr hres IH hl hkl hN hn hNm
  have hn6 : n ≤ 1000000 := HSMALL.out
  go_enter Tryz.func45, Tryz.ntmps45
  go_wp2_with fail
  go_loopw [5, 6] (fun ov i wr => ∃ (k : Nat) (qs : List KidV) (A1 : Option Addr) (c1 : Nat), k ≤ n ∧ i = .int .i64 k ∧ ov = .slice A1 qs.length c1 ∧ Hid (KRow (MadR B w (.slice A1 qs.length c1) wr) w.heap.size (.slice A1 qs.length c1) qs wr) ∧ Hid (qs.map Prod.fst = T.list.take k) ∧ Hid (Below w.heap.size w wr)) (fun _ i _ => n - (intOf i).toNat)
  case atStart => exact ⟨0, [], none, 0, Nat.zero_le _, rfl, rfl, hide (KRow.nil _ _ _), hide rfl, hide (Below.refl _ _)⟩
  case round =>
    obtain ⟨k, qs, A1, c1, hk, rfl, rfl, HK, HM, HB⟩ := hrel
    by_cases hlt : k < n
    · obtain ⟨q, hq⟩ : ∃ q, ks[k]? = some q := ⟨_, List.getElem?_eq_getElem (by rw [← HNN.out]; exact hlt)⟩
      obtain ⟨f, K, ls, hf, hall, hnh, hrl⟩ := HRES.out.at hq
      obtain ⟨p, hp, hpf, hpk⟩ := arL_at hall
      have hh := HH.out.kept HB.out
      have hql : q < l.length := (List.getElem?_eq_some_iff.1 hp).1
      obtain ⟨g, rc, hrv, -, -, -, -⟩ := own_form hh.row (by omega)
      subst hrv
      have c0 := hh.c0
      obtain ⟨m0, m1, m2, m3, m4, mf⟩ := hh.node hp
      have hpkr := hh.kids q p hp
      obtain ⟨pA, pc, hpv, -, -⟩ := own_slice hpkr
      rw [hpv] at m4
      obtain ⟨avA, avc, hav⟩ := (hh.attrs q p hp).1.form
      obtain ⟨al, hal⟩ : ∃ al, p.h.attrs.length = al := ⟨_, rfl⟩
      rw [hal] at hav
      rw [hav] at m1
      have hkw : wr.ownsRow B 3 1 (.slice kA ks.length kc) ks.length (intVals ks) := HKR.out.kept (grown_none HB.out) (by cases kA <;> simp [Value.ownBlock])
      obtain ⟨gk, kc2, hkv, -, -, -, -⟩ := own_form hkw (by rw [← HNN.out]; omega)
      injection hkv with hkv _ hkc
      subst hkv hkc
      have c1' := own_int hkw hq rfl
      obtain ⟨X, hX⟩ : ∃ X, X = str p.h.name := ⟨_, rfl⟩
      obtain ⟨Y, hY⟩ : ∃ Y, Y = str p.h.text := ⟨_, rfl⟩
      rw [← hX] at m0
      rw [← hY] at m2
      have i1 : (q : Int) < (l.length : Int) := by omega
      have i2 : (k : Int) < (n : Int) := by omega
      have c0a : ∀ ob, (wr.alloc ob).cell? ⟨b, 0, none⟩ = some (.slice (some ⟨g, 0, none⟩) l.length rc) := fun ob => ((below_one wr ob).cell (World.block_lt_of_cell? _ _ c0)).trans c0
      have c1a : ∀ ob, (wr.alloc ob).cell? ⟨gk, k, none⟩ = some (.int .i64 q) := fun ob => ((below_one wr ob).cell (World.block_lt_of_cell? _ _ c1')).trans c1'
      have m0a : ∀ ob, (wr.alloc ob).cell? ⟨g, q * 5, none⟩ = some (.string X) := fun ob => ((below_one wr ob).cell (World.block_lt_of_cell? _ _ m0)).trans m0
      have m1a : ∀ ob, (wr.alloc ob).cell? ⟨g, q * 5 + 1, none⟩ = some (.slice avA al avc) := fun ob => ((below_one wr ob).cell (World.block_lt_of_cell? _ _ m1)).trans m1
      have m2a : ∀ ob, (wr.alloc ob).cell? ⟨g, q * 5 + 2, none⟩ = some (.string Y) := fun ob => ((below_one wr ob).cell (World.block_lt_of_cell? _ _ m2)).trans m2
      have m3a : ∀ ob, (wr.alloc ob).cell? ⟨g, q * 5 + 3, none⟩ = some (.slice none 0 0) := fun ob => ((below_one wr ob).cell (World.block_lt_of_cell? _ _ m3)).trans m3
      have m4a : ∀ ob, (wr.alloc ob).cell? ⟨g, q * 5 + 4, none⟩ = some (.slice pA p.ks.length pc) := fun ob => ((below_one wr ob).cell (World.block_lt_of_cell? _ _ m4)).trans m4
      have HP := hide (And.intro hp (And.intro hpf (And.intro hpk (And.intro hpv hav))))
      have HF := hide (And.intro hf hrl)
      have HXY := hide (And.intro hX hY)
      clear hal hh hpkr hkw hp hpf hpk hpv hav hf hrl hX hY hall hnh hq hql mf
      go_wp2_with fail
      go_region
      obtain ⟨W5, hW5⟩ : ∃ W5, W5 = (wr.alloc (Obj.cells #[.string X, .slice avA al avc, .string Y, .slice none 0 0, .slice pA p.ks.length pc] 65)).drew := ⟨_, rfl⟩
      have hb5 : Below wr.heap.size wr W5 := by rw [hW5]; exact (below_one wr _).drew
      have hz5 : W5.heap.size = wr.heap.size + 1 := by rw [hW5]; exact World.size_alloc _ _
      have hk5 : W5.heap[wr.heap.size]? = some (Obj.cells #[.string X, .slice avA al avc, .string Y, .slice none 0 0, .slice pA p.ks.length pc] 65 (0, 0)) := by rw [hW5]; exact heap_alloc_new wr _
      rw [← hW5]
      have x4 : W5.cell? ⟨wr.heap.size, 4, none⟩ = some (.slice pA p.ks.length pc) := (Lib.cell_of_heap hk5 4).trans rfl
      have hab5 := (HH.out.kept HB.out).kept hb5
      have hKc := Tr.at_count HF.out.1
      have hpr5 := hab5.kids q p HP.out.1
      rw [HP.out.2.2.2.1] at hpr5
      have HMD := hide (HIH.out (.slice pA p.ks.length pc) p.ks K W5 (by have := HTN.out; omega) hab5 hpr5 (by rw [HP.out.2.2.1]; exact HF.out.2))
      have HAB5 := hide hab5
      have HB5 := hide hb5
      have HZ5 := hide hz5
      have HK5 := hide hk5
      clear c0 c1' m0 m1 m2 m3 m4 c0a c1a m0a m1a m2a m3a m4a hW5 hb5 hz5 hk5 hab5 hKc hpr5 i1 i2
      go_wp2_with fail
      refine HMD.out.mono ?_
      rintro e w4 ⟨u2, rfl, hn4, hb4⟩
      obtain ⟨Ak, ck, rfl⟩ := NodesC.form hn4
      have hk4 := (hb4.block wr.heap.size (by rw [HZ5.out]; omega)).trans HK5.out
      have y3 : w4.cell? ⟨wr.heap.size, 3, none⟩ = some (.slice none 0 0) := (Lib.cell_of_heap hk4 3).trans rfl
      have yf : w4.frozen? ⟨wr.heap.size, 3, none⟩ = false := Lib.frozen_of_heap hk4 3
      have hk6 := heap_put0 (i := 3) hk4 (.slice Ak K.len ck)
      have hb6 : Below wr.heap.size wr (w4.setCell ⟨wr.heap.size, 3, none⟩ (.slice Ak K.len ck)) := (HB5.out.trans (hb4.mono HB5.out.size)).setCell (p := ⟨wr.heap.size, 3, none⟩) (Nat.le_refl _) _
      have hn6 : NodesC (fun b => b < B ∨ (wr.heap.size ≤ b ∧ b < (w4.setCell ⟨wr.heap.size, 3, none⟩ (.slice Ak K.len ck)).heap.size)) (w4.setCell ⟨wr.heap.size, 3, none⟩ (.slice Ak K.len ck)) (.slice Ak K.len ck) K := hn4.mono (fun g hg => Below.heap_setCell w4 ⟨wr.heap.size, 3, none⟩ _ g (fun e => by
          have e : g = wr.heap.size := e
          have h1 := HZ5.out
          have h2 := HAB5.out.size
          have h3 := HH.out.size
          have h4 := HB.out.size
          rcases hg with h | h <;> omega)) (fun g hg => by
          rw [World.size_setCell]
          have h1 := HZ5.out
          rcases hg with h | h
          · exact .inl h
          · exact .inr (by omega))
      have hA6 := (HH.out.kept HB.out).attrs q p HP.out.1
      rw [HP.out.2.2.2.2] at hA6
      have hA7 : AttrsC (fun g => g < B) wr (.slice avA al avc) f.attrs := by rw [← HP.out.2.1]; exact hA6
      have hrd := made_ready HH.out.size HB.out.size HK.out hb6 hA7 hn6
      rw [← HP.out.2.1, ← HXY.out.1, ← HXY.out.2, World.size_setCell, HP.out.2.1] at hrd
      have HRD := hide hrd
      have HB6 := hide hb6
      have z0 : (w4.setCell ⟨wr.heap.size, 3, none⟩ (.slice Ak K.len ck)).cell? ⟨wr.heap.size, 0, none⟩ = some (.string X) := (Lib.cell_of_heap hk6 0).trans rfl
      have z1 : (w4.setCell ⟨wr.heap.size, 3, none⟩ (.slice Ak K.len ck)).cell? ⟨wr.heap.size, 1, none⟩ = some (.slice avA al avc) := (Lib.cell_of_heap hk6 1).trans rfl
      have z2 : (w4.setCell ⟨wr.heap.size, 3, none⟩ (.slice Ak K.len ck)).cell? ⟨wr.heap.size, 2, none⟩ = some (.string Y) := (Lib.cell_of_heap hk6 2).trans rfl
      have z3 : (w4.setCell ⟨wr.heap.size, 3, none⟩ (.slice Ak K.len ck)).cell? ⟨wr.heap.size, 3, none⟩ = some (.slice Ak K.len ck) := (Lib.cell_of_heap hk6 3).trans rfl
      have HKL : Hid (qs.length + Tr.len (.cons f K .nil) ≤ 1073741824) := hide (by
        have h1 := congrArg List.length HM.out
        rw [List.length_map, List.length_take, Tr.len_list] at h1
        have h2 := HNT.out
        have h3 := hlt
        have h4 := HRES.out
        simp only [Tr.len]
        have h5 : n ≤ 1000000 := HSMALL.out
        omega)
      have HW6 : Hid (Below w.heap.size w ((w4.setCell ⟨wr.heap.size, 3, none⟩ (.slice Ak K.len ck)).alloc (.cells #[.string X, .slice avA al avc, .string Y, .slice Ak K.len ck] 33))) := hide (bl_two (bl_two HB.out HB6.out) (below_one _ _))
      clear hk4 hk6 hb6 hn6 hA6 hA7 hrd hn4 hb4 x4
      go_wp2_with (refine wpList_nodes rfl _ _ rfl _ w.heap.size (.slice A1 qs.length c1) qs rfl HRD.out.1 (fun k hk => hk.2.1) HW6.out.size _ rfl (.cons f K .nil) HRD.out.2 HKL.out ?_
                   intro v' qs' w7 hk' he' hg' hor'
                   obtain ⟨k2, hkk⟩ : ∃ k, k = qs ++ qs' := ⟨_, rfl⟩
                   have HM7 : Hid (k2.map Prod.fst = T.list.take (k + 1)) := hide (by
                     rw [hkk, List.map_append, HM.out, he', List.take_add_one, HF.out.1]; rfl)
                   rw [← hkk] at hk'
                   obtain ⟨A7, c7, hv7, _⟩ := hk'.slice
                   subst hv7
                   have HK7 : Hid (KRow (MadR B w (.slice A7 k2.length c7) w7) w.heap.size (.slice A7 k2.length c7) k2 w7) := hide (hk'.widen (fun b hb => ⟨hb.1, Nat.lt_of_lt_of_le hb.2.1 hg'.size, fun e => hk'.out b e hb⟩) (fun g e hg => hg.2.2 e))
                   have HB7 : Hid (Below w.heap.size w w7) := hide (HW6.out.grown hg' HW6.out.size (fun k e => (HRD.out.1.row.lt k e).1))
                   clear hk' he' hg' hor' hkk)
      go_roundw
      case rel => exact ⟨k + 1, k2, A7, c7, by omega, by go_num, rfl, HK7, HM7, HB7⟩
      case measure => simp [intOf]; omega
    · obtain rfl : k = n := by omega
      have HM2 := HM.out
      rw [HNT.out, ← Tr.len_list, List.take_length] at HM2
      replace HM2 := hide HM2
      go_wp2_with fail
      go_ret
      refine ⟨_, rfl, ?_, HB.out⟩
      have := HK.out.nodes (C' := MadC B w wr) (fun b hb => by rcases hb.1 with h | h; exact .inl h; exact .inr ⟨h, hb.2.1⟩) (fun k e => .inr ⟨(HK.out.row.lt k e).1, (HK.out.row.lt k e).2⟩)
      rw [HM2.out, Tr.of_list] at this
      exact this
theorem made_all (B b:Nat) (r o:Value) (l:List ArV) (opn:List Nat) (hot:List Nat) (W0:World) (hl:l.length <= 100000):∀ N,N <= 1000000 -> MadeP B b r o l opn hot W0 N
 | 0,_=>fun kv ks T w h=>absurd h (by omega)
 | N + 1,hN=>made_step B b r o l opn hot W0 hl N hN (made_all B b r o l opn hot W0 hl N (by omega))
end Go.Proofs.YtiejmkjpgjbodaaGreatDoor
