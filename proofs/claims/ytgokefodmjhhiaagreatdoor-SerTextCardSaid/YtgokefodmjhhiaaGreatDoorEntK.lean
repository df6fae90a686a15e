/- WALK of (*strings.genericReplacer).Replace at the trie of ent.Text. No statement is proved here. -/
import Derived.Test.YtgokefodmjhhiaaGreatDoorEntJ
namespace Go.Proofs.YtgokefodmjhhiaaGreatDoor
open Go.RowKit
set_option linter.unusedVariables false
set_option linter.unusedSimpArgs false
set_option maxRecDepth 100000
/-- make(appendSliceWriter, 0, n) -/
theorem wpList_wbuf_make {ops : Array Oper} {rest : List Oper} {o : Oper} {a : Act} {Q : Exit → Act → World → Prop} {w : World} (hgd : o.guard = none) (x y : Operand)
    (ho : o.op = .makeSlice 279 x y) (B : Nat) (W0 : World) (hb : Below B W0 w) (hB : B ≤ w.heap.size) (c : Nat) (C : Int) (hx : a.eval x = .int .i64 0) (hy : a.eval y = .int .i64 C) (hC : C = c) (hc : c ≤ 281474976710656)
    (h : ∀ v' w', Buf B v' [] W0 w' → wpList Tryz.prog ops Q rest (a.put o.dst v') w') : wpList Tryz.prog ops Q (o :: rest) a w := by
  obtain ⟨i0, hi, hz0, hz1, hz2⟩ := info_parts info_u8
  refine wpList_make_own w hgd x y 279 ho B 5 i0 (.int .u8 0) 1 Tryz.underlying279 hi hz0 hz1 .i64 .i64 C c hx hy hC (by rw [hz2]; omega) (by unfold maxLen; omega) hB ?_
  intro w' ho' hg
  exact h _ _ ⟨ho', hb.grown hg hB (by simp), Nat.le_trans hB hg.size⟩
/-- string(buf) -/
theorem buf_convertW {B : Nat} {v : Value} {l : List UInt8} {W0 w : World} (h : Buf B v l W0 w) : (convert 279 9 v).run Tryz.prog w = .ok (.string (str l)) w := by
  rcases h.1.2 with ⟨rfl, hl⟩ | ⟨g, cap, cur, rfl, _⟩
  · have : l = [] := List.eq_nil_of_length_eq_zero hl
    subst this
    exact run_convert_bytes_nil w 279 5 Tryz.underlying279 Tryz.underlying5 0 0 9 Tryz.underlying9
  · have hc := h.1.cells (g := g) rfl
    have hr := run_convert_bytes_arg (P := Tryz.prog) w 279 5 Tryz.underlying279 Tryz.underlying5 g 0 l.length cap (l.map fun b => (b.toNat : Int)) (by simp) (fun i hi => by
      have h1 := hc i (.int .u8 l[i].toNat) (by simp [cellsOf, hi])
      rw [Addr.add_lit] at h1
      rw [h1]
      simp [List.getD, hi]) 9 Tryz.underlying9
    rw [hr]
    refine congrArg (fun x => Result.ok (Value.string x) w) ?_
    apply ext_list
    rw [strOfNums_data, str_toList, List.map_map]
    conv => rhs; rw [← List.map_id l]
    apply List.map_congr_left
    intro b _
    simp
set_option maxHeartbeats 4000000 in
theorem greplace_any (s : ByteArray) (G T n0 n1 n2 n4 n5 : Nat) (w : World) (hT : Trie w G T n0 n1 n2 n4 n5) (hB : G < w.heap.size ∧ T < w.heap.size ∧ n0 < w.heap.size ∧ n1 < w.heap.size ∧ n2 < w.heap.size ∧ n4 < w.heap.size ∧ n5 < w.heap.size) (hs : s.size ≤ 17592186044416) :
    Calls Tryz.prog 280 #[.pointer (some ⟨G, 0, none⟩), .string s] w fun e w' => e = .returned (.string (str (escG s.data.toList))) ∧ Below w.heap.size w w' := by
  have HT := hide hT
  have HB := hide hB
  have HS := hide hs
  clear hT hB
  go_enter Tryz.func280, Tryz.ntmps280
  go_wp2_with (first
    | (refine wpList_wbuf_make rfl _ _ rfl w.heap.size w (Below.refl _ _) (Nat.le_refl _) s.size s.size rfl rfl rfl (by omega) ?_; intro v0 w0 hb0; obtain ⟨A0, c0, rfl⟩ := hb0.slice_len; have HB0 := hide hb0; clear hb0)
    | (go_at_call 281; refine (gwrite_any s w.heap.size w0.heap.size G T n0 n1 n2 n4 n5 w _ HT.out HB.out (by first | exact ⟨HB0.out.2.2, _, Box.new _ _ _, HB0.out.alloc _⟩ | exact ⟨HB0.out.2.2, _, (Box.new _ _ _).set _, (HB0.out.alloc _).setBox (Box.new _ _ _) (by decide) HB0.out.2.2 _⟩) HS.out).mono ?_; rintro e w2 ⟨⟨n, rfl⟩, hW2⟩; obtain ⟨_, v2, hx2, hf2⟩ := hW2; have c2 := hx2.cell; have hc2 := buf_convertW hf2; have HF2 := hide hf2; clear hx2 hf2))
  go_ret
  exact ⟨rfl, HF2.out.below⟩
end Go.Proofs.YtgokefodmjhhiaaGreatDoor
