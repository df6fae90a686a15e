/- WALKS of (*strings.appendSliceWriter).WriteString and strings.getStringWriter. No statement is proved here. -/
import Derived.Test.YtmojckphfbcibaaGreatDoorEntG
namespace Go.Proofs.YtmojckphfbcibaaGreatDoor
open Go.RowKit
set_option linter.unusedVariables false
set_option linter.unusedSimpArgs false
set_option maxRecDepth 100000
/-- an appendSliceWriter in block b that has gathered the bytes l -/
def WBuf (B b : Nat) (l : List UInt8) (W0 w : World) : Prop := B ≤ b ∧ ∃ v, Box w b 238 v ∧ Buf B v l W0 w
theorem WBuf.drewN {B b : Nat} {l : List UInt8} {W0 w : World} (h : WBuf B b l W0 w) (n : Nat) : WBuf B b l W0 (w.drewN n) := by
  obtain ⟨hB, v, h1, h2⟩ := h
  exact ⟨hB, v, h1.drewN n, h2.drewN n⟩
theorem WBuf.below {B b : Nat} {l : List UInt8} {W0 w : World} (h : WBuf B b l W0 w) : Below B W0 w := by
  obtain ⟨hB, v, h1, h2⟩ := h
  exact h2.below
theorem WBuf.kept {B b : Nat} {l : List UInt8} {W0 w w' : World} (h : WBuf B b l W0 w) (hb : Below w.heap.size w w') : WBuf B b l W0 w' := by
  obtain ⟨hB, v, h1, h2⟩ := h
  exact ⟨hB, v, h1.below hb h1.lt, h2.kept hb⟩
/-- append of a text to a row of a named type -/
theorem wpList_wbuf_text {ops : Array Oper} {rest : List Oper} {o : Oper} {a : Act} {Q : Exit → Act → World → Prop} {w : World} (hgd : o.guard = none) (sl x : Operand)
    (ho : o.op = .call { callee := .builtin .append, args := #[sl, x], argTypes := #[238, 9] })
    (B : Nat) (v : Value) (l : List UInt8) (hs : a.eval sl = v) (W0 : World) (hb : Buf B v l W0 w) (s : ByteArray) (hx : a.eval x = .string s) (hlen : l.length + s.size ≤ 140737488355328)
    (h : ∀ v' w', Buf B v' (l ++ s.data.toList) W0 w' → w.grownBy w' v.ownBlock → wpList Tryz.prog ops Q rest (a.put o.dst v') w') : wpList Tryz.prog ops Q (o :: rest) a w := by
  obtain ⟨i0, hi, hz0, hz1, hz2⟩ := info_parts info_u8
  refine Lib.wpList_append_own_string w hgd sl x 238 9 ho B 5 i0 Tryz.underlying238 Tryz.underlying9 hi hz0 hz1 hz2 v l.length (cellsOf l) hs hb.1 s hx (by unfold maxLen; omega) hlen hb.2.2 ?_
  intro v' w' ho' hg _
  refine h v' w' (hb.grown (l' := l ++ s.data.toList) ?_ hg) hg
  rw [List.length_append, toList_length, cellsOf, List.map_append]
  exact ho'
set_option maxHeartbeats 1000000 in
theorem appender_any (B b : Nat) (l : List UInt8) (s : ByteArray) (W0 w : World) (h : WBuf B b l W0 w) (hlen : l.length + s.size ≤ 140737488355328) :
    Calls Tryz.prog 235 #[.pointer (some ⟨b, 0, none⟩), .string s] w fun e w' => e = .returned (.tuple #[.int .i64 s.size, .nilIface]) ∧ WBuf B b (l ++ s.data.toList) W0 w' := by
  obtain ⟨hB, v, hbx, hbf⟩ := h
  have c0 := hbx.cell
  have HBX := hide hbx
  have HBF := hide hbf
  clear hbx hbf
  go_enter Tryz.func235, Tryz.ntmps235
  go_wp2_with (refine wpList_wbuf_text rfl _ _ rfl B v l rfl W0 HBF.out s rfl hlen ?_; intro v' w2 hbf2 hgr; have hbx2 : Box w2 b 238 v := (kept_own HBF.out hgr) b _ v (by decide) HBX.out; have f2 := hbx2.free; have d2 := hbx2.cell; have HF2 := hide hbf2; have HX2 := hide hbx2; clear hbf2 hgr hbx2; obtain ⟨A, n, c, rfl⟩ := HF2.out.slice)
  go_ret2
  exact ⟨rfl, hB, _, HX2.out.set _, HF2.out.setBox HX2.out (by decide) hB _⟩
theorem assert_writer (a : Addr) (w : World) : (Instr.typeAssert (.iface 239 (.pointer (some a))) 241 243 true).run Tryz.prog w = .ok (.tuple #[.iface 239 (.pointer (some a)), .bool true]) w := by kernel_rfl
set_option maxHeartbeats 1000000 in
theorem getWriter_any (b : Nat) (w : World) :
    Calls Tryz.prog 224 #[.iface 239 (.pointer (some ⟨b, 0, none⟩))] w fun e w' => e = .returned (.iface 239 (.pointer (some ⟨b, 0, none⟩))) ∧ w' = w := by
  have hta := assert_writer
  go_enter Tryz.func224, Tryz.ntmps224
  go_wp2_with fail
  go_ret
  exact ⟨rfl, rfl⟩
theorem meth_append (a : Addr) (w : World) : (method 351 239 (.pointer (some a)) "WriteString").run Tryz.prog w = .ok (235, .pointer (some a)) w := by kernel_rfl
end Go.Proofs.YtmojckphfbcibaaGreatDoor
