import Derived.Test.YtiejmkjpgjbodaaGreatDoorRows
import Derived.Test.YtiejmkjpgjbodaaGreatDoorBaseP
import Derived.Test.YtiejmkjpgjbodaaGreatDoorNodesRow
import Derived.Lib.LaidTab
import Derived.Lib.LaidU8
import Derived.LaidSub
import Derived.Lay
import Derived.Shelf.Vars
import Derived.Carry
namespace Go.Proofs.YtiejmkjpgjbodaaGreatDoor
open Go.RowKit Go.WideShapes
set_option linter.unusedVariables false
set_option maxRecDepth 100000
theorem laidOutSeat:laidOutB Tryz.prog = true:=by kernel_rfl
theorem max_of_shaped {W:World} (h:W.ShapedOpen Tryz.prog):∃ m:Int,W.cell? ⟨0,0,none⟩ = some (.int .i64 m) :=
 cell_of_shapedOpen_int (P:=Tryz.prog) (g:=0) (t:=3) (zero:=#[.int .i64 0]) h (of_decide_eq_true (by kernel_rfl)) (by kernel_rfl) rfl (by kernel_rfl) (by kernel_rfl) Tryz.underlying3
theorem cellsWin:Tryz.prog.cellsOf 264 = 32:=by kernel_rfl
theorem cellsRune:Tryz.prog.cellsOf 21 = 1:=by kernel_rfl
theorem cellsU8:Tryz.prog.cellsOf 5 = 1:=by kernel_rfl
theorem cellsFirst:Tryz.prog.cellsOf 228 = 256:=by kernel_rfl
theorem cellsAcc:Tryz.prog.cellsOf 267 = 2:=by kernel_rfl
theorem win_of_reads {W : World} (h : Lib.VarReads Tryz.prog W "muslin/chars.windowsRow" (Lib.tabData .i32 winTab)) : Tab W := by
 obtain ⟨g, t, cs, fuel, p, hg, hty, hvar, hd⟩ := h; obtain rfl := Option.some.inj ((show Tryz.prog.globalNamed "muslin/chars.windowsRow" = some 3 by kernel_rfl).symm.trans hg); obtain rfl := Option.some.inj ((show (Tryz.prog.globals[3]?).map (·.type) = some 264 by kernel_rfl).symm.trans hty); have hcs := Lib.cells_of_tab Tryz.underlying264 Tryz.underlying21 cellsRune cellsWin hd; intro j hj; have := World.var?_cell hg hvar j; rw [this, <- Array.getElem?_toList, hcs]; have hl : winTab.length = 32 := rfl; simp [List.getD, hl, hj]
theorem first_of_reads {W : World} (h : Lib.VarReads Tryz.prog W "unicode/utf8.first" Lib.firstData) : ∀ c, c < 256 -> W.cell? ⟨4, c, none⟩ = some (.int .u8 (Lib.firstT c)) := by
 intro c hc; obtain ⟨g, t, cs, fuel, p, hg, hty, hvar, hd⟩ := h; obtain rfl := Option.some.inj ((show Tryz.prog.globalNamed "unicode/utf8.first" = some 4 by kernel_rfl).symm.trans hg); obtain rfl := Option.some.inj ((show (Tryz.prog.globals[4]?).map (·.type) = some 228 by kernel_rfl).symm.trans hty); have hcs := Lib.cells_of_tab Tryz.underlying228 Tryz.underlying5 cellsU8 cellsFirst hd; have := World.var?_cell hg hvar c; rw [this, <- Array.getElem?_toList, hcs]; simp [Lib.firstTab, hc]
theorem acc_of_reads {W : World} (h : Lib.VarReads Tryz.prog W "unicode/utf8.acceptRanges" Lib.acceptData) : ∀ i, i < 16 -> W.cell? ⟨5, 2 * i, none⟩ = some (.int .u8 (Lib.accLo i)) /\ W.cell? ⟨5, 2 * i + 1, none⟩ = some (.int .u8 (Lib.accHi i)) := by
 intro i hi; obtain ⟨g, t, cs, fuel, p, hg, hty, hvar, hd⟩ := h; obtain rfl := Option.some.inj ((show Tryz.prog.globalNamed "unicode/utf8.acceptRanges" = some 5 by kernel_rfl).symm.trans hg); obtain rfl := Option.some.inj ((show (Tryz.prog.globals[5]?).map (·.type) = some 268 by kernel_rfl).symm.trans hty); obtain ⟨fuel', d, q, hdi, he⟩ := Lib.array_elem Tryz.underlying268 hd i hi; simp only [List.getElem?_map, List.getElem?_range hi, Option.map_some, Option.some.injEq] at hdi; subst hdi; rw [cellsAcc] at he
 have hcs:=Lib.ints_of_struct Tryz.underlying267 (fun j f hj=>by
  match j,hj with
  | 0,hj=>simp at hj;subst hj;exact ⟨Tryz.underlying5,rfl,cellsU8⟩
  | 1,hj=>simp at hj;subst hj;exact ⟨Tryz.underlying5,rfl,cellsU8⟩
  | j + 2,hj=>simp at hj) (by rw [cellsAcc];rfl) he
 have e0:=congrArg (·[0]?) hcs;have e1:=congrArg (·[1]?) hcs;simp [List.getElem?_take,List.getElem?_drop] at e0 e1;have c0:=World.var?_cell hg hvar (2 * i);have c1:=World.var?_cell hg hvar (2 * i + 1);rw [Nat.mul_comm i 2] at e0 e1;rw [c0,c1];exact ⟨e0,e1⟩
theorem err_of_reads {W : World} {d : DataW Unit} (h : Lib.VarReads Tryz.prog W "strconv.ErrSyntax" d) : ∃ ev, W.cell? ⟨1, 0, none⟩ = some ev /\ (ev = .nilIface \/ ∃ te pe, ev = .iface te pe) := by
 obtain ⟨g, t, cs, fuel, p, hg, hty, hvar, hd⟩ := h; obtain rfl := Option.some.inj ((show Tryz.prog.globalNamed "strconv.ErrSyntax" = some 1 by kernel_rfl).symm.trans hg); obtain rfl := Option.some.inj ((show (Tryz.prog.globals[1]?).map (·.type) = some 86 by kernel_rfl).symm.trans hty); have hc := World.var?_cell hg hvar 0
 have key:∃ ev,cs.toList[0]? = some ev /\ (ev = .nilIface \/ ∃ te pe,ev = .iface te pe):=by
  cases fuel with
  | zero=>simp [DataW.trod] at hd
  | succ n =>
   match hl:cs.toList,hd with
   | [],hd=>simp [DataW.trod,Tryz.underlying86] at hd
   | [v],hd =>
    cases v with
    | nilIface=>exact ⟨_,rfl,.inl rfl⟩
    | iface u x=>exact ⟨_,rfl,.inr ⟨u,x,rfl⟩⟩
    | _=>simp [DataW.trod,Tryz.underlying86] at hd
   | a :: b :: r,hd=>simp [DataW.trod,Tryz.underlying86] at hd
 obtain ⟨ev,h1,h2⟩:=key;exact ⟨ev,by rw [hc,<- Array.getElem?_toList,h1],h2⟩
theorem envX_of_laid {W:World} (h:laidMetH Tryz.prog Rows.serShutRow.laid W) (hS:W.ShapedOpen Tryz.prog):EnvX W:=by
 rw [MakeChecks.laidMetH_plain _ _ _ (by kernel_rfl)] at h;refine ⟨⟨win_of_reads ?_,⟨first_of_reads ?_,acc_of_reads ?_⟩,err_of_reads (d:=Rows.laid_strconv_ErrSyntax) ?_⟩,max_of_shaped hS⟩
 ·have := Lib.laidMet.reads h (n := "muslin/chars.windowsRow") (d := Rows.laid_muslin_chars_windowsRow) (by simp [Rows.serShutRow]); rw [show (Rows.laid_muslin_chars_windowsRow : DataW Unit) = Lib.tabData .i32 winTab by kernel_rfl] at this; exact this
 ·have := Lib.laidMet.reads h (n := "unicode/utf8.first") (d := Rows.laid_unicode_utf8_first) (by simp [Rows.serShutRow]); rw [show (Rows.laid_unicode_utf8_first : DataW Unit) = Lib.firstData by kernel_rfl] at this; exact this
 ·have := Lib.laidMet.reads h (n := "unicode/utf8.acceptRanges") (d := Rows.laid_unicode_utf8_acceptRanges) (by simp [Rows.serShutRow]); rw [show (Rows.laid_unicode_utf8_acceptRanges : DataW Unit) = Lib.acceptData by kernel_rfl] at this; exact this
 ·exact Lib.laidMet.reads h (n := "strconv.ErrSyntax") (by simp [Rows.serShutRow])
def relayE (cs:Array Value):Obj -> Obj
  | .cells _ t frozen=>.cells cs t frozen
  | o=>o
def cellsE_deb32:Array Value:=#[.int .u8 0,.int .u8 1,.int .u8 28,.int .u8 2,.int .u8 29,.int .u8 14,.int .u8 24,.int .u8 3,.int .u8 30,.int .u8 22,.int .u8 20,.int .u8 15,.int .u8 25,.int .u8 17,.int .u8 4,.int .u8 8,.int .u8 31,.int .u8 27,.int .u8 13,.int .u8 23,.int .u8 21,.int .u8 19,.int .u8 16,.int .u8 7,.int .u8 26,.int .u8 12,.int .u8 18,.int .u8 6,.int .u8 11,.int .u8 5,.int .u8 10,.int .u8 9]
def cellsE_deb64:Array Value:=#[.int .u8 0,.int .u8 1,.int .u8 56,.int .u8 2,.int .u8 57,.int .u8 49,.int .u8 28,.int .u8 3,.int .u8 61,.int .u8 58,.int .u8 42,.int .u8 50,.int .u8 38,.int .u8 29,.int .u8 17,.int .u8 4,.int .u8 62,.int .u8 47,.int .u8 59,.int .u8 36,.int .u8 45,.int .u8 43,.int .u8 51,.int .u8 22,.int .u8 53,.int .u8 39,.int .u8 33,.int .u8 30,.int .u8 24,.int .u8 18,.int .u8 12,.int .u8 5,.int .u8 63,.int .u8 55,.int .u8 48,.int .u8 27,.int .u8 60,.int .u8 41,.int .u8 37,.int .u8 16,.int .u8 46,.int .u8 35,.int .u8 44,.int .u8 21,.int .u8 52,.int .u8 32,.int .u8 23,.int .u8 11,.int .u8 54,.int .u8 26,.int .u8 40,.int .u8 15,.int .u8 34,.int .u8 20,.int .u8 31,.int .u8 10,.int .u8 25,.int .u8 14,.int .u8 19,.int .u8 9,.int .u8 13,.int .u8 8,.int .u8 7,.int .u8 6]
def cellsE_pow10:Array Value:=#[.int .u64 1,.int .u64 10,.int .u64 100,.int .u64 1000,.int .u64 10000,.int .u64 100000,.int .u64 1000000,.int .u64 10000000,.int .u64 100000000,.int .u64 1000000000,.int .u64 10000000000,.int .u64 100000000000,.int .u64 1000000000000,.int .u64 10000000000000,.int .u64 100000000000000,.int .u64 1000000000000000,.int .u64 10000000000000000,.int .u64 100000000000000000,.int .u64 1000000000000000000,.int .u64 10000000000000000000]
def cellsE_acc:Array Value:=#[.int .u8 128,.int .u8 191,.int .u8 160,.int .u8 191,.int .u8 128,.int .u8 159,.int .u8 144,.int .u8 191,.int .u8 128,.int .u8 143,.int .u8 0,.int .u8 0,.int .u8 0,.int .u8 0,.int .u8 0,.int .u8 0,.int .u8 0,.int .u8 0,.int .u8 0,.int .u8 0,.int .u8 0,.int .u8 0,.int .u8 0,.int .u8 0,.int .u8 0,.int .u8 0,.int .u8 0,.int .u8 0,.int .u8 0,.int .u8 0,.int .u8 0,.int .u8 0]
def cellsE_win:Array Value:=#[.int .i32 8364,.int .i32 129,.int .i32 8218,.int .i32 402,.int .i32 8222,.int .i32 8230,.int .i32 8224,.int .i32 8225,.int .i32 710,.int .i32 8240,.int .i32 352,.int .i32 8249,.int .i32 338,.int .i32 141,.int .i32 381,.int .i32 143,.int .i32 144,.int .i32 8216,.int .i32 8217,.int .i32 8220,.int .i32 8221,.int .i32 8226,.int .i32 8211,.int .i32 8212,.int .i32 732,.int .i32 8482,.int .i32 353,.int .i32 8250,.int .i32 339,.int .i32 157,.int .i32 382,.int .i32 376]
def cellsE_first:Array Value:=#[.int .u8 240,.int .u8 240,.int .u8 240,.int .u8 240,.int .u8 240,.int .u8 240,.int .u8 240,.int .u8 240,.int .u8 240,.int .u8 240,.int .u8 240,.int .u8 240,.int .u8 240,.int .u8 240,.int .u8 240,.int .u8 240,.int .u8 240,.int .u8 240,.int .u8 240,.int .u8 240,.int .u8 240,.int .u8 240,.int .u8 240,.int .u8 240,.int .u8 240,.int .u8 240,.int .u8 240,.int .u8 240,.int .u8 240,.int .u8 240,.int .u8 240,.int .u8 240,.int .u8 240,.int .u8 240,.int .u8 240,.int .u8 240,.int .u8 240,.int .u8 240,.int .u8 240,.int .u8 240,.int .u8 240,.int .u8 240,.int .u8 240,.int .u8 240,.int .u8 240,.int .u8 240,.int .u8 240,.int .u8 240,.int .u8 240,.int .u8 240,.int .u8 240,.int .u8 240,.int .u8 240,.int .u8 240,.int .u8 240,.int .u8 240,.int .u8 240,.int .u8 240,.int .u8 240,.int .u8 240,.int .u8 240,.int .u8 240,.int .u8 240,.int .u8 240,.int .u8 240,.int .u8 240,.int .u8 240,.int .u8 240,.int .u8 240,.int .u8 240,.int .u8 240,.int .u8 240,.int .u8 240,.int .u8 240,.int .u8 240,.int .u8 240,.int .u8 240,.int .u8 240,.int .u8 240,.int .u8 240,.int .u8 240,.int .u8 240,.int .u8 240,.int .u8 240,.int .u8 240,.int .u8 240,.int .u8 240,.int .u8 240,.int .u8 240,.int .u8 240,.int .u8 240,.int .u8 240,.int .u8 240,.int .u8 240,.int .u8 240,.int .u8 240,.int .u8 240,.int .u8 240,.int .u8 240,.int .u8 240,.int .u8 240,.int .u8 240,.int .u8 240,.int .u8 240,.int .u8 240,.int .u8 240,.int .u8 240,.int .u8 240,.int .u8 240,.int .u8 240,.int .u8 240,.int .u8 240,.int .u8 240,.int .u8 240,.int .u8 240,.int .u8 240,.int .u8 240,.int .u8 240,.int .u8 240,.int .u8 240,.int .u8 240,.int .u8 240,.int .u8 240,.int .u8 240,.int .u8 240,.int .u8 240,.int .u8 240,.int .u8 240,.int .u8 241,.int .u8 241,.int .u8 241,.int .u8 241,.int .u8 241,.int .u8 241,.int .u8 241,.int .u8 241,.int .u8 241,.int .u8 241,.int .u8 241,.int .u8 241,.int .u8 241,.int .u8 241,.int .u8 241,.int .u8 241,.int .u8 241,.int .u8 241,.int .u8 241,.int .u8 241,.int .u8 241,.int .u8 241,.int .u8 241,.int .u8 241,.int .u8 241,.int .u8 241,.int .u8 241,.int .u8 241,.int .u8 241,.int .u8 241,.int .u8 241,.int .u8 241,.int .u8 241,.int .u8 241,.int .u8 241,.int .u8 241,.int .u8 241,.int .u8 241,.int .u8 241,.int .u8 241,.int .u8 241,.int .u8 241,.int .u8 241,.int .u8 241,.int .u8 241,.int .u8 241,.int .u8 241,.int .u8 241,.int .u8 241,.int .u8 241,.int .u8 241,.int .u8 241,.int .u8 241,.int .u8 241,.int .u8 241,.int .u8 241,.int .u8 241,.int .u8 241,.int .u8 241,.int .u8 241,.int .u8 241,.int .u8 241,.int .u8 241,.int .u8 241,.int .u8 241,.int .u8 241,.int .u8 2,.int .u8 2,.int .u8 2,.int .u8 2,.int .u8 2,.int .u8 2,.int .u8 2,.int .u8 2,.int .u8 2,.int .u8 2,.int .u8 2,.int .u8 2,.int .u8 2,.int .u8 2,.int .u8 2,.int .u8 2,.int .u8 2,.int .u8 2,.int .u8 2,.int .u8 2,.int .u8 2,.int .u8 2,.int .u8 2,.int .u8 2,.int .u8 2,.int .u8 2,.int .u8 2,.int .u8 2,.int .u8 2,.int .u8 2,.int .u8 19,.int .u8 3,.int .u8 3,.int .u8 3,.int .u8 3,.int .u8 3,.int .u8 3,.int .u8 3,.int .u8 3,.int .u8 3,.int .u8 3,.int .u8 3,.int .u8 3,.int .u8 35,.int .u8 3,.int .u8 3,.int .u8 52,.int .u8 4,.int .u8 4,.int .u8 4,.int .u8 68,.int .u8 241,.int .u8 241,.int .u8 241,.int .u8 241,.int .u8 241,.int .u8 241,.int .u8 241,.int .u8 241,.int .u8 241,.int .u8 241,.int .u8 241]
noncomputable def laidWorld (os:Os):World :=
  { World.holding Tryz.prog os ⟨#[],#[],[]⟩ with heap:=(((((((((((World.holding Tryz.prog os ⟨#[],#[],[]⟩).heap.modify 7 (relayE cellsE_deb32)).modify 8 (relayE cellsE_deb64)).modify 6 (relayE cellsE_pow10)).modify 5 (relayE cellsE_acc)).modify 3 (relayE cellsE_win)).modify 4 (relayE cellsE_first)).modify 2 (relayE #[.iface 279 (.pointer (some ⟨(World.holding Tryz.prog os ⟨#[],#[],[]⟩).heap.size,0,none⟩))])).modify 1 (relayE #[.iface 279 (.pointer (some ⟨(World.holding Tryz.prog os ⟨#[],#[],[]⟩).heap.size + 1,0,none⟩))])).push (.cells #[.string ⟨#[118,97,108,117,101,32,111,117,116,32,111,102,32,114,97,110,103,101]⟩] 281)).push (.cells #[.string ⟨#[105,110,118,97,108,105,100,32,115,121,110,116,97,120]⟩] 281)) }
end Go.Proofs.YtiejmkjpgjbodaaGreatDoor
