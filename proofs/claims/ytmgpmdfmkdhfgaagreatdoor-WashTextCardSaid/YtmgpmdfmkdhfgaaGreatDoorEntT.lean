import Derived.Test.YtmgpmdfmkdhfgaaGreatDoorEntS
namespace Go.Proofs.YtmgpmdfmkdhfgaaGreatDoor
open Go.RowKit
set_option linter.unusedVariables false
set_option linter.unusedSimpArgs false
set_option maxRecDepth 100000
structure Hung (T m n:Nat) (w w':World):Prop where
  size:w.heap.size < w'.heap.size
  mine:w.heap.size <= n /\ n < w'.heap.size
  hit:w'.cell? ⟨T,m,none⟩ = some (.pointer (some ⟨n,0,none⟩))
  tab:∀ j:Nat,j ≠ m -> w'.cell? ⟨T,j,none⟩ = w.cell? ⟨T,j,none⟩
  cell:∀ b o:Nat,b ≠ T -> b < w.heap.size -> w'.cell? ⟨b,o,none⟩ = w.cell? ⟨b,o,none⟩
  fr:∀ b o:Nat,b < w.heap.size -> w'.frozen? ⟨b,o,none⟩ = w.frozen? ⟨b,o,none⟩
  below:∀ B:Nat,B <= T -> B <= w.heap.size -> Below B w w'
theorem Hung.node {T m n b:Nat} {w w':World} (h:Hung T m n w w') (hT:b ≠ T) (hb:b < w.heap.size) {val pre:ByteArray} {prio:Int} {nx:Option Addr} {tab:Value} (hn:Node w b val prio pre nx tab):Node w' b val prio pre nx tab:=by
 obtain ⟨a0,a1,a2,a3,a4⟩:=hn;exact ⟨(h.cell b 0 hT hb).trans a0,(h.cell b 1 hT hb).trans a1,(h.cell b 2 hT hb).trans a2,(h.cell b 3 hT hb).trans a3,(h.cell b 4 hT hb).trans a4⟩
theorem z_set (w:World) (p:Addr) (x:Value):(w.setCell p x).heap.size = w.heap.size:=by simp [World.setCell]
structure TSt (B:Nat) (W0:World) (G T k:Nat) (w:World):Prop where
  below:Below B W0 w
  lo:B <= G /\ B <= T /\ G ≠ T /\ G < w.heap.size /\ T < w.heap.size /\ B <= w.heap.size
  root:Node w G ⟨#[]⟩ 0 ⟨#[]⟩ none (.slice (some ⟨T,0,none⟩) 5 5)
  size:w.cell? ⟨G,5,none⟩ = some (.int .i64 5)
  map:∀ c:UInt8,w.cell? ⟨G,6 + c.toNat,none⟩ = some (.int .u8 (mapC c))
  fr:∀ i:Nat,w.frozen? ⟨T,i,none⟩ = false
  t3:w.cell? ⟨T,3,none⟩ = some (.pointer none)
  old:∀ j,j < 3 -> (j < k -> ∃ n:Nat,B <= n /\ n < w.heap.size /\ n ≠ T /\ w.cell? ⟨T,j,none⟩ = some (.pointer (some ⟨n,0,none⟩)) /\ Node w n (valE j) (8 - 2 * j) ⟨#[]⟩ none (.slice none 0 0)) /\ (k <= j -> w.cell? ⟨T,j,none⟩ = some (.pointer none))
  t4:(k <= 3 -> w.cell? ⟨T,4,none⟩ = some (.pointer none)) /\ (3 < k -> ∃ n4 n5:Nat,B <= n4 /\ B <= n5 /\ n4 < w.heap.size /\ n5 < w.heap.size /\ w.cell? ⟨T,4,none⟩ = some (.pointer (some ⟨n4,0,none⟩)) /\ Node w n4 ⟨#[]⟩ 0 ⟨#[160]⟩ (some ⟨n5,0,none⟩) (.slice none 0 0) /\ Node w n5 (str nbT) 2 ⟨#[]⟩ none (.slice none 0 0))
theorem TSt.last {B G T:Nat} {W0 w w':World} (h:TSt B W0 G T 3 w) (hh:Hung T 4 w.heap.size w w') (h4:Node w' w.heap.size ⟨#[]⟩ 0 ⟨#[160]⟩ (some ⟨w.heap.size + 1,0,none⟩) (.slice none 0 0)) (h5:Node w' (w.heap.size + 1) (str nbT) 2 ⟨#[]⟩ none (.slice none 0 0)) (hz:w.heap.size + 1 < w'.heap.size):TSt B W0 G T 4 w':=by
 obtain ⟨l1,l2,l3,l4,l5,l6⟩:=h.lo;refine ⟨h.below.trans (hh.below B l2 l6),⟨l1,l2,l3,Nat.lt_trans l4 hh.size,Nat.lt_trans l5 hh.size,Nat.le_trans l6 (Nat.le_of_lt hh.size)⟩,hh.node l3 l4 h.root,(hh.cell G 5 l3 l4).trans h.size,fun c=>(hh.cell G _ l3 l4).trans (h.map c),fun i=>(hh.fr T i l5).trans (h.fr i),(hh.tab 3 (by omega)).trans h.t3,fun j hj=>⟨fun hjk=>?_,fun hjk=>absurd hjk (by omega)⟩,fun hk3=>absurd hk3 (by omega),fun _=>⟨w.heap.size,w.heap.size + 1,l6,Nat.le_succ_of_le l6,hh.mine.2,hz,hh.hit,h4,h5⟩⟩;obtain ⟨n,n1,n2,n3,n4,n5⟩:=(h.old j hj).1 (by omega);exact ⟨n,n1,Nat.lt_trans n2 hh.size,n3,(hh.tab j (by omega)).trans n4,hh.node n3 n2 n5⟩
def TrieX (B G:Nat) (w:World):Prop:=∃ T n0 n1 n2 n4 n5:Nat,Trie w G T n0 n1 n2 n4 n5 /\ (B <= G /\ B <= T /\ B <= n0 /\ B <= n1 /\ B <= n2 /\ B <= n4 /\ B <= n5) /\ (G < w.heap.size /\ T < w.heap.size /\ n0 < w.heap.size /\ n1 < w.heap.size /\ n2 < w.heap.size /\ n4 < w.heap.size /\ n5 < w.heap.size)
theorem TrieX.set {B G b o:Nat} {w:World} (h:TrieX B G w) (hb:b < B) (x:Value):TrieX B G (w.setCell ⟨b,o,none⟩ x):=by
 obtain ⟨T,n0,n1,n2,n4,n5,ht,⟨l0,l1,l2,l3,l4,l5,l6⟩,hi⟩:=h;have key:∀ (c i:Nat),B <= c -> (w.setCell ⟨b,o,none⟩ x).cell? ⟨c,i,none⟩ = w.cell? ⟨c,i,none⟩:=fun c i hc=>World.cell?_setCell_other _ _ _ _ (ne_blk (by omega))
 have kn:∀ {c val prio pre nx tab},B <= c -> Node w c val prio pre nx tab -> Node (w.setCell ⟨b,o,none⟩ x) c val prio pre nx tab:=by
  intro c val prio pre nx tab hc ⟨a0,a1,a2,a3,a4⟩;exact ⟨(key _ _ hc).trans a0,(key _ _ hc).trans a1,(key _ _ hc).trans a2,(key _ _ hc).trans a3,(key _ _ hc).trans a4⟩
 refine ⟨T,n0,n1,n2,n4,n5,⟨kn l0 ht.root,(key _ _ l0).trans ht.size,fun c=>(key _ _ l0).trans (ht.map c),(key _ _ l1).trans ht.t0,(key _ _ l1).trans ht.t1,(key _ _ l1).trans ht.t2,(key _ _ l1).trans ht.t3,(key _ _ l1).trans ht.t4,kn l2 ht.k0,kn l3 ht.k1,kn l4 ht.k2,kn l5 ht.k4,kn l6 ht.k5⟩,⟨l0,l1,l2,l3,l4,l5,l6⟩,?_⟩;rw [z_set];exact hi
theorem TrieX.drew {B G:Nat} {w:World} (h:TrieX B G w):TrieX B G w.drew:=by
 obtain ⟨T,n0,n1,n2,n4,n5,ht,lo,hi⟩:=h;exact ⟨T,n0,n1,n2,n4,n5,⟨ht.1,ht.2,ht.3,ht.4,ht.5,ht.6,ht.7,ht.8,ht.9,ht.10,ht.11,ht.12,ht.13⟩,lo,hi⟩
end Go.Proofs.YtmgpmdfmkdhfgaaGreatDoor
