/- The first texts of this claim in one: each with its own head. No statement is proved here. -/
import Derived.Test.YtdeaofnhdbhknaaProg
import Derived.WalkKit
import Derived.ProofKit
import Derived.OpenShut
import Derived.Lib.Hide
import Derived.WalkSpells
import Derived.WalkLawsBesides
import Derived.BigQuiet
import Derived.Deep.QuietTactic
import Derived.Lib.AppendStr
import Derived.Laws.BytesArg
import Derived.Deep.Draws
import Derived.OneCell
import Derived.ShutString
import Derived.Deep.RegionWith
import Derived.Deep.RegionLaw
import Derived.Lib.Strings
import Derived.Lib.IndexBytes
/- GENERAL LEMMAS for this seat's walks: a row of bytes that the call owns, append of a byte and of a text onto it, its conversion to a string, small facts on strings as lists of bytes. No statement is proved here. Own work of the verifier. -/
namespace Go.Proofs.Ytdeaofnhdbhknaa
open Go.RowKit
set_option linter.unusedVariables false
set_option linter.unusedSimpArgs false

/-! ### strings as lists of bytes -/
/-- the string of a list of bytes -/
def str (l : List UInt8) : ByteArray := ⟨l.toArray⟩
theorem str_toList (l : List UInt8) : (str l).data.toList = l := rfl
theorem str_size (l : List UInt8) : (str l).size = l.length := by simp [str, ByteArray.size]
theorem str_of (s : ByteArray) : str s.data.toList = s := by cases s; simp [str]
theorem toList_length (s : ByteArray) : s.data.toList.length = s.size := by rw [Array.length_toList]; rfl
theorem drop_cons (s : ByteArray) (k : Nat) (h : k < s.size) : s.data.toList.drop k = s[k] :: s.data.toList.drop (k + 1) := by
  rw [List.drop_eq_getElem_cons (by rw [toList_length]; exact h)]; rfl
theorem drop_nil (s : ByteArray) (k : Nat) (h : s.size ≤ k) : s.data.toList.drop k = [] := List.drop_eq_nil_of_le (by rw [toList_length]; exact h)
theorem take_snoc (s : ByteArray) (k : Nat) (h : k < s.size) : s.data.toList.take (k + 1) = s.data.toList.take k ++ [s[k]] := by
  rw [List.take_succ_eq_append_getElem (by rw [toList_length]; exact h)]; rfl
theorem str_append (a b : List UInt8) : str (a ++ b) = str a ++ str b := by
  simp only [str]; apply ByteArray.ext; simp
theorem ext_list {a b : ByteArray} (h : a.data.toList = b.data.toList) : a = b := by
  rw [← str_of a, ← str_of b, h]
theorem extract_list (s : ByteArray) (a b : Nat) : (s.extract a b).data.toList = (s.data.toList.take b).drop a := by
  rw [ByteArray.data_extract, Array.toList_extract, List.extract_eq_take_drop, List.drop_take]
theorem extract_end (s : ByteArray) (a : Nat) : (s.extract a s.size).data.toList = s.data.toList.drop a := by
  rw [extract_list, List.take_of_length_le (by rw [toList_length]; exact Nat.le_refl _)]
theorem extract_none (s : ByteArray) (a : Nat) : (s.extract a a).data.toList = [] := by
  rw [extract_list]; exact List.drop_eq_nil_of_le (List.length_take_le _ _)
theorem extract_mid (s : ByteArray) (a n : Nat) : (s.extract a (a + n)).data.toList = (s.data.toList.drop a).take n := by
  rw [extract_list, List.take_drop]
theorem extract_size_le (s : ByteArray) (a b : Nat) : (s.extract a b).size ≤ b - a := by rw [ByteArray.size_extract]; omega
theorem str_list (l : List UInt8) : (str l).toList = l := ByteArray.toList_eq _
theorem bytes_list (s : ByteArray) : s.toList = s.data.toList := ByteArray.toList_eq _
theorem nil_app (s : ByteArray) : (⟨#[]⟩ : ByteArray) ++ s = s := ext_list (by simp)
theorem hide {p : Prop} (h : p) : Hid p := h
theorem unhide {p : Prop} (h : Hid p) : p := h
theorem ret_int {k : IntKind} {a b : Int} (h : a = b) : Ending.returned (.int k a) = .returned (.int k b) := by rw [h]
theorem ret_bool {a b : Bool} (h : a = b) : Ending.returned (.bool a) = .returned (.bool b) := by rw [h]
theorem ret_str {a b : ByteArray} (h : a = b) : Ending.returned (.string a) = .returned (.string b) := by rw [h]
theorem u8_eq {c : UInt8} {n : Nat} (hn : n < 256) (h : (c.toNat : Int) = n) : c = UInt8.ofNat n := by
  apply UInt8.toNat_inj.1; rw [UInt8.toNat_ofNat']; omega
/-- a byte's test, as the walk spells it -/
theorem tT {c : UInt8} (n : Nat) (h : c = UInt8.ofNat n) (hn : n < 256) : ((c.toNat : Int) == (n : Int)) = true := by
  subst h; rw [UInt8.toNat_ofNat', Nat.mod_eq_of_lt hn]; simp
theorem tF {c : UInt8} (n : Nat) (h : c ≠ UInt8.ofNat n) (hn : n < 256) : ((c.toNat : Int) == (n : Int)) = false := by
  rw [beq_eq_false_iff_ne]; intro e; exact h (u8_eq hn e)
/-- what the kernel finds of each of the 256 bytes -/
theorem u8_all {p : UInt8 → Prop} [DecidablePred p] (h : (List.range 256).all (fun n => decide (p (UInt8.ofNat n))) = true) (c : UInt8) : p c := by
  have h1 := List.all_eq_true.1 h c.toNat (List.mem_range.2 c.toNat_lt)
  rw [decide_eq_true_eq, UInt8.ofNat_toNat] at h1
  exact h1
theorem byte_lt (c : UInt8) : c.toNat < 256 := c.toNat_lt

/-- a round of a range over a text of bytes below 128 -/
theorem next_ascii {P : Program} (w : World) (s : ByteArray) (pos : Nat) (h : pos < s.size) (ha : s.data.toList.all (fun c => decide (c.toNat < 128)) = true) :
    ∃ x : UInt8, s.data.toList.drop pos = x :: s.data.toList.drop (pos + 1) ∧ x.toNat < 128 ∧
      ∀ ty, (Instr.next (.pointer (some ⟨w.heap.size, 0, none⟩)) true ty).run P (w.iter s pos) = .ok (.tuple #[.bool true, .int .i64 pos, .int .i32 x.toNat]) (w.iter s (pos + 1)) := by
  have hx : (s[pos]'h).toNat < 128 := by
    have := List.all_eq_true.1 ha s[pos] (by rw [← Array.mem_def]; exact Array.getElem_mem (by exact h))
    simpa using this
  exact ⟨s[pos], drop_cons s pos h, hx, fun ty => run_next_ascii w s pos ty h hx⟩
theorem iter_below (w : World) (s : ByteArray) (pos : Nat) : Below w.heap.size w (w.iter s pos) := (Below.refl _ _).alloc (Nat.le_refl _) _

/-! ### a row of bytes that the call owns -/
def cellsOf (l : List UInt8) : List Value := l.map fun b => Value.int .u8 b.toNat
theorem cellsOf_length (l : List UInt8) : (cellsOf l).length = l.length := by simp [cellsOf]
theorem cellsOf_str (s : ByteArray) : Lib.strCells s = cellsOf s.data.toList := rfl
/-- in w the []byte value v owns the bytes l, in a block from B on; below B all is as in W0 -/
def Buf (B : Nat) (v : Value) (l : List UInt8) (W0 w : World) : Prop :=
  w.ownsRow B 5 1 v l.length (cellsOf l) ∧ Below B W0 w ∧ B ≤ w.heap.size

theorem info_u8 : (Try.prog.info? 5).map (fun i => (i.zero, i.size, i.bytes)) = some (some (.int .u8 0), 1, 1) := by kernel_rfl

theorem Buf.nil {B : Nat} {W0 w : World} (hb : Below B W0 w) (hB : B ≤ w.heap.size) : Buf B (.slice none 0 0) [] W0 w := ⟨World.ownsRow_nil w B _ 1, hb, hB⟩
theorem Buf.below {B : Nat} {v : Value} {l : List UInt8} {W0 w : World} (h : Buf B v l W0 w) : Below B W0 w := h.2.1
theorem Buf.grown {B : Nat} {v v' : Value} {l l' : List UInt8} {W0 w w' : World} (h : Buf B v l W0 w) (ho : w'.ownsRow B 5 1 v' l'.length (cellsOf l')) (hg : w.grownBy w' v.ownBlock) : Buf B v' l' W0 w' :=
  ⟨ho, h.2.1.grown hg h.2.2 (fun k hk => (h.1.lt k hk).1), Nat.le_trans h.2.2 hg.size⟩
theorem Buf.alloc {B : Nat} {v : Value} {l : List UInt8} {W0 w : World} (h : Buf B v l W0 w) (o : Obj) : Buf B v l W0 (w.alloc o) :=
  ⟨h.1.alloc o, h.2.1.alloc h.2.2 o, Nat.le_trans h.2.2 ((Below.refl 0 w).alloc (Nat.zero_le _) o).size⟩
theorem Buf.drew {B : Nat} {v : Value} {l : List UInt8} {W0 w : World} (h : Buf B v l W0 w) : Buf B v l W0 w.drew := ⟨h.1, h.2.1.drew, h.2.2⟩
theorem Buf.drewN {B : Nat} {v : Value} {l : List UInt8} {W0 w : World} (h : Buf B v l W0 w) (n : Nat) : Buf B v l W0 (w.drewN n) :=
  ⟨h.1, ⟨h.2.1.os, h.2.1.tape, h.2.1.output, h.2.1.size, h.2.1.block⟩, h.2.2⟩
/-- a call that keeps all that is there keeps the row -/
theorem Buf.kept {B : Nat} {v : Value} {l : List UInt8} {W0 w w' : World} (h : Buf B v l W0 w) (hb : Below w.heap.size w w') : Buf B v l W0 w' :=
  ⟨h.1.kept (row := none) ⟨hb.os, hb.tape, hb.output, hb.size, fun k hk _ => hb.block k hk⟩ (by cases hv : v.ownBlock <;> simp), h.2.1.trans (hb.mono h.2.2), Nat.le_trans h.2.2 hb.size⟩

theorem Buf.slice {B : Nat} {v : Value} {l : List UInt8} {W0 w : World} (h : Buf B v l W0 w) : ∃ A n c, v = .slice A n c := by
  rcases h.1.2 with ⟨rfl, _⟩ | ⟨g, cap, cur, rfl, _⟩
  · exact ⟨_, _, _, rfl⟩
  · exact ⟨_, _, _, rfl⟩
theorem Buf.slice_len {B : Nat} {v : Value} {l : List UInt8} {W0 w : World} (h : Buf B v l W0 w) : ∃ A c, v = .slice A l.length c := by
  rcases h.1.2 with ⟨rfl, h0⟩ | ⟨g, cap, cur, rfl, _⟩
  · rw [h0]; exact ⟨_, _, rfl⟩
  · exact ⟨_, _, rfl⟩
/-- a row that is not empty lies in a block -/
theorem Buf.form {B : Nat} {v : Value} {l : List UInt8} {W0 w : World} (h : Buf B v l W0 w) (hl : l ≠ []) : ∃ g cap, v = .slice (some ⟨g, 0, none⟩) l.length cap ∧ l.length ≤ cap ∧ cap ≤ maxLen ∧ B ≤ g ∧ g < w.heap.size := by
  rcases h.1.2 with ⟨rfl, h0⟩ | ⟨g, cap, cur, rfl, hg, hh, hc, hm, _⟩
  · exact absurd (List.eq_nil_of_length_eq_zero h0) hl
  · refine ⟨g, cap, rfl, hc, hm, hg, ?_⟩
    rcases Nat.lt_or_ge g w.heap.size with h1 | h1
    · exact h1
    · rw [Array.getElem?_eq_none h1] at hh; cases hh
theorem Buf.cellAt {B g cap : Nat} {l : List UInt8} {W0 w : World} (h : Buf B (.slice (some ⟨g, 0, none⟩) l.length cap) l W0 w) (j : Nat) (hj : j < l.length) : w.cell? ⟨g, j, none⟩ = some (.int .u8 l[j].toNat) := by
  rw [h.1.cellAt j (by omega)]; simp [cellsOf, hj]
/-- buf[:k] -/
theorem Buf.take {B g cap : Nat} {l : List UInt8} {W0 w : World} (h : Buf B (.slice (some ⟨g, 0, none⟩) l.length cap) l W0 w) (k : Nat) (hk : k ≤ l.length) : Buf B (.slice (some ⟨g, 0, none⟩) k cap) (l.take k) W0 w := by
  obtain ⟨⟨h0, h1⟩, h2, h3⟩ := h
  rcases h1 with ⟨h1, _⟩ | ⟨g', cap', cur, h1, hg, hh, hc, hm, hs, ht⟩
  · cases h1
  · injection h1 with e1 e2 e3
    injection e1 with e1
    injection e1 with e1
    subst e1; subst e3
    refine ⟨⟨by simp [cellsOf], .inr ⟨g, cap, cur, by rw [List.length_take, Nat.min_eq_left hk], hg, hh, by rw [List.length_take, Nat.min_eq_left hk]; omega, hm, hs, ?_⟩⟩, h2, h3⟩
    rw [List.length_take, Nat.min_eq_left hk, Nat.mul_one]
    rw [Nat.mul_one] at ht
    have := congrArg (List.take k) ht
    rw [List.take_take, Nat.min_eq_left hk] at this
    rw [this, cellsOf, cellsOf, List.map_take]

/-- append(buf, c): the one byte lies in the block that has just been laid -/
theorem wpList_buf_byte {ops : Array Oper} {rest : List Oper} {o : Oper} {a : Act} {Q : Exit → Act → World → Prop} (hgd : o.guard = none) (s x : Operand)
    (ho : o.op = .call { callee := .builtin .append, args := #[s, x], argTypes := #[72, 72] })
    (B : Nat) (v : Value) (l : List UInt8) (hs : a.eval s = v) (W0 w0 : World) (c : UInt8) (hb : Buf B v l W0 w0)
    (hx : a.eval x = .slice (some ⟨w0.heap.size, 0, none⟩) 1 1) (hlen : l.length + 1 ≤ 140737488355328)
    (h : ∀ v' w', Buf B v' (l ++ [c]) W0 w' → wpList Try.prog ops Q rest (a.put o.dst v') w') : wpList Try.prog ops Q (o :: rest) a (w0.alloc (.cells #[.int .u8 c.toNat] 5)) := by
  obtain ⟨i0, hi, hz0, hz1, hz2⟩ := info_parts info_u8
  have hb' := hb.alloc (.cells #[.int .u8 c.toNat] 5)
  refine wpList_append_own _ hgd s x 72 ho B 5 i0 (.int .u8 0) 1 1 Try.underlying72 hi hz0 hz1 hz2 rfl (by decide) v l.length (cellsOf l) hs hb'.1 ⟨w0.heap.size, 0, none⟩ 1 1 [.int .u8 c.toNat] hx rfl ?_ ?_ (by unfold maxLen; omega) (by omega) hb'.2.2 ?_
  · intro j u hj
    match j, hj with
    | 0, hj => simp at hj; subst hj; simp [Addr.add]
    | (j + 1), hj => simp at hj
  · intro u hu; simp at hu; subst hu; rfl
  · intro v' w' ho' hg _
    exact h v' w' (hb'.grown (l' := l ++ [c]) (by simpa [cellsOf] using ho') hg)

/-- the same at a step of a region that draws its order -/
theorem step_buf_byte {ops : Array Oper} {o : Oper} {a : Act} {w : World} {K : Act → World → Prop} {Q : Exit → Act → World → Prop} {E : Prop} (hgd : o.guard = none) (s x : Operand)
    (ho : o.op = .call { callee := .builtin .append, args := #[s, x], argTypes := #[72, 72] })
    (B : Nat) (v : Value) (l : List UInt8) (hs : a.eval s = v) (W0 : World) (hb : Buf B v l W0 w) (ad : Addr) (hx : a.eval x = .slice (some ad) 1 1)
    (c : UInt8) (hc : w.cell? ad = some (.int .u8 c.toNat)) (hlen : l.length + 1 ≤ 140737488355328)
    (h : ∀ v' w', Buf B v' (l ++ [c]) W0 w' → K (a.put o.dst v') w') :
    if Region.wanted o (yielded ops a.tmps) = true then Oper.wp Try.prog o a w K Q else E := by
  have hw : Region.wanted o (yielded ops a.tmps) = true := by simp [Region.wanted, hgd]
  rw [if_pos hw]
  obtain ⟨i0, hi, hz0, hz1, hz2⟩ := info_parts info_u8
  refine wp_append_own _ s x 72 ho B 5 i0 (.int .u8 0) 1 1 Try.underlying72 hi hz0 hz1 hz2 rfl (by decide) v l.length (cellsOf l) hs hb.1 ad 1 1 [.int .u8 c.toNat] hx rfl ?_ ?_ (by unfold maxLen; omega) (by omega) hb.2.2 ?_
  · intro j u hj
    match j, hj with
    | 0, hj => simp at hj; subst hj; simpa [Addr.add] using hc
    | (j + 1), hj => simp at hj
  · intro u hu; simp at hu; subst hu; rfl
  · intro v' w' ho' hg _
    exact h v' w' (hb.grown (l' := l ++ [c]) (by simpa [cellsOf] using ho') hg)

/-- append(buf, text...) -/
theorem wpList_buf_text {ops : Array Oper} {rest : List Oper} {o : Oper} {a : Act} {Q : Exit → Act → World → Prop} {w : World} (hgd : o.guard = none) (sl x : Operand)
    (ho : o.op = .call { callee := .builtin .append, args := #[sl, x], argTypes := #[72, 9] })
    (B : Nat) (v : Value) (l : List UInt8) (hs : a.eval sl = v) (W0 : World) (hb : Buf B v l W0 w) (s : ByteArray) (hx : a.eval x = .string s) (hlen : l.length + s.size ≤ 140737488355328)
    (h : ∀ v' w', Buf B v' (l ++ s.data.toList) W0 w' → wpList Try.prog ops Q rest (a.put o.dst v') w') : wpList Try.prog ops Q (o :: rest) a w := by
  obtain ⟨i0, hi, hz0, hz1, hz2⟩ := info_parts info_u8
  refine Lib.wpList_append_own_string w hgd sl x 72 9 ho B 5 i0 Try.underlying72 Try.underlying9 hi hz0 hz1 hz2 v l.length (cellsOf l) hs hb.1 s hx (by unfold maxLen; omega) hlen hb.2.2 ?_
  intro v' w' ho' hg _
  refine h v' w' (hb.grown (l' := l ++ s.data.toList) ?_ hg)
  rw [List.length_append, toList_length, cellsOf, List.map_append]
  exact ho'

/-- string(buf) -/
theorem Buf.convert {B : Nat} {v : Value} {l : List UInt8} {W0 w : World} (h : Buf B v l W0 w) : (convert 72 9 v).run Try.prog w = .ok (.string (str l)) w := by
  rcases h.1.2 with ⟨rfl, hl⟩ | ⟨g, cap, cur, rfl, _⟩
  · have : l = [] := List.eq_nil_of_length_eq_zero hl
    subst this
    exact run_convert_bytes_nil w 72 5 Try.underlying72 Try.underlying5 0 0 9 Try.underlying9
  · have hc := h.1.cells (g := g) rfl
    have hr := run_convert_bytes_arg (P := Try.prog) w 72 5 Try.underlying72 Try.underlying5 g 0 l.length cap (l.map fun b => (b.toNat : Int)) (by simp) (fun i hi => by
      have h1 := hc i (.int .u8 l[i].toNat) (by simp [cellsOf, hi])
      rw [Addr.add_lit] at h1
      rw [h1]
      simp [List.getD, hi]) 9 Try.underlying9
    rw [hr]
    refine congrArg (fun x => Result.ok (Value.string x) w) ?_
    apply ext_list
    rw [strOfNums_data, str_toList, List.map_map]
    conv => rhs; rw [← List.map_id l]
    apply List.map_congr_left
    intro b _
    simp

/-- string([]byte{x}), string([]byte{x, y, z}): the bytes lie in the block that has just been laid -/
theorem conv1 (w : World) (x : Int) : (convert 72 9 (.slice (some ⟨w.heap.size, 0, none⟩) 1 1)).run Try.prog (w.alloc (.cells #[.int .u8 x] 5)) = .ok (.string (strOfNums [x])) (w.alloc (.cells #[.int .u8 x] 5)) :=
  run_convert_bytes_arg (P := Try.prog) _ 72 5 Try.underlying72 Try.underlying5 w.heap.size 0 1 1 [x] rfl (fun i hi => by
    obtain rfl : i = 0 := by omega
    rw [World.cell?_alloc_at _ _ _ _ (by simp)]; rfl) 9 Try.underlying9
theorem conv2d (w : World) (x y : Int) : (convert 72 9 (.slice (some ⟨w.heap.size, 0, none⟩) 2 2)).run Try.prog (w.alloc (.cells #[.int .u8 x, .int .u8 y] 5)).drew = .ok (.string (strOfNums [x, y])) (w.alloc (.cells #[.int .u8 x, .int .u8 y] 5)).drew :=
  run_convert_bytes_arg (P := Try.prog) _ 72 5 Try.underlying72 Try.underlying5 w.heap.size 0 2 2 [x, y] rfl (fun i hi => by
    show (w.alloc (.cells #[.int .u8 x, .int .u8 y] 5)).cell? _ = _
    rw [World.cell?_alloc_at _ _ _ _ (by simp)]
    obtain rfl | rfl : i = 0 ∨ i = 1 := by omega
    all_goals rfl) 9 Try.underlying9
theorem conv3 (w : World) (x y z : Int) : (convert 72 9 (.slice (some ⟨w.heap.size, 0, none⟩) 3 3)).run Try.prog (w.alloc (.cells #[.int .u8 x, .int .u8 y, .int .u8 z] 5)) = .ok (.string (strOfNums [x, y, z])) (w.alloc (.cells #[.int .u8 x, .int .u8 y, .int .u8 z] 5)) :=
  run_convert_bytes_arg (P := Try.prog) _ 72 5 Try.underlying72 Try.underlying5 w.heap.size 0 3 3 [x, y, z] rfl (fun i hi => by
    rw [World.cell?_alloc_at _ _ _ _ (by simp)]
    obtain rfl | rfl | rfl : i = 0 ∨ i = 1 ∨ i = 2 := by omega
    all_goals rfl) 9 Try.underlying9
theorem conv3d (w : World) (x y z : Int) : (convert 72 9 (.slice (some ⟨w.heap.size, 0, none⟩) 3 3)).run Try.prog (w.alloc (.cells #[.int .u8 x, .int .u8 y, .int .u8 z] 5)).drew = .ok (.string (strOfNums [x, y, z])) (w.alloc (.cells #[.int .u8 x, .int .u8 y, .int .u8 z] 5)).drew :=
  run_convert_bytes_arg (P := Try.prog) _ 72 5 Try.underlying72 Try.underlying5 w.heap.size 0 3 3 [x, y, z] rfl (fun i hi => by
    show (w.alloc (.cells #[.int .u8 x, .int .u8 y, .int .u8 z] 5)).cell? _ = _
    rw [World.cell?_alloc_at _ _ _ _ (by simp)]
    obtain rfl | rfl | rfl : i = 0 ∨ i = 1 ∨ i = 2 := by omega
    all_goals rfl) 9 Try.underlying9
theorem nums_list (xs : List Int) : (strOfNums xs).data.toList = xs.map fun n => UInt8.ofNat n.toNat := rfl
theorem nums_str {xs : List Int} {l : List UInt8} (h : (xs.map fun n => UInt8.ofNat n.toNat) = l) : strOfNums xs = str l := ext_list (by rw [nums_list, h, str_toList])

/-- make([]byte, 0, n) -/
theorem wpList_buf_make {ops : Array Oper} {rest : List Oper} {o : Oper} {a : Act} {Q : Exit → Act → World → Prop} {w : World} (hgd : o.guard = none) (x y : Operand)
    (ho : o.op = .makeSlice 72 x y) (B : Nat) (W0 : World) (hb : Below B W0 w) (hB : B ≤ w.heap.size) (c : Nat) (C : Int) (hx : a.eval x = .int .i64 0) (hy : a.eval y = .int .i64 C) (hC : C = c) (hc : c ≤ 281474976710656)
    (h : ∀ v' w', Buf B v' [] W0 w' → wpList Try.prog ops Q rest (a.put o.dst v') w') : wpList Try.prog ops Q (o :: rest) a w := by
  obtain ⟨i0, hi, hz0, hz1, hz2⟩ := info_parts info_u8
  refine wpList_make_own w hgd x y 72 ho B 5 i0 (.int .u8 0) 1 Try.underlying72 hi hz0 hz1 .i64 .i64 C c hx hy hC (by rw [hz2]; omega) (by unfold maxLen; omega) hB ?_
  intro w' ho' hg
  exact h _ _ ⟨ho', hb.grown hg hB (by simp), Nat.le_trans hB hg.size⟩
/-! ### blocks of one cell -/
/-- block b is one cell of type t that holds v, not frozen -/
def Box (w : World) (b : Nat) (t : TypeId) (v : Value) : Prop := w.heap[b]? = some (.cells #[v] t (0, 0))
section
variable {w w' : World} {b : Nat} {t : TypeId} {v : Value}
theorem Box.cell (h : Box w b t v) : w.cell? ⟨b, 0, none⟩ = some v := cell_of_one h
theorem Box.free (h : Box w b t v) : w.frozen? ⟨b, 0, none⟩ = false := free_of_one h
theorem Box.lt (h : Box w b t v) : b < w.heap.size := lt_of_block h
theorem Box.new (w : World) (t : TypeId) (v : Value) : Box (w.alloc (.cells #[v] t)) w.heap.size t v := heap_alloc_new w _
theorem Box.alloc (h : Box w b t v) (o : Obj) : Box (w.alloc o) b t v := (Below.heap_alloc w o b h.lt).trans h
theorem Box.drew (h : Box w b t v) : Box w.drew b t v := h
theorem Box.drewN (h : Box w b t v) (n : Nat) : Box (w.drewN n) b t v := h
theorem Box.set (h : Box w b t v) (u : Value) : Box (w.setCell ⟨b, 0, none⟩ u) b t u := one_setCell h
theorem Box.far (h : Box w b t v) {a : Addr} (ha : b ≠ a.block) (u : Value) : Box (w.setCell a u) b t v := (Below.heap_setCell w a u b ha).trans h
theorem Box.below {B : Nat} (h : Box w b t v) (hb : Below B w w') (hB : b < B) : Box w' b t v := (hb.block b hB).trans h
theorem Box.ne {b' : Nat} {t' : TypeId} {v' : Value} (h : Box w b t v) (h' : Box w b' t' v') (ht : t ≠ t') : b ≠ b' := by
  rintro rfl
  unfold Box at h h'
  rw [h] at h'
  injection h' with h'
  injection h' with _ e
  exact ht e
end
theorem Buf.ne_box {B b : Nat} {t : TypeId} {u v : Value} {l : List UInt8} {W0 w : World} (h : Buf B v l W0 w) (hb : Box w b t u) (ht : t ≠ 5) : v.ownBlock ≠ some b := by
  rcases h.1.2 with ⟨rfl, _⟩ | ⟨g, cap, cur, rfl, _, hh, _⟩
  · simp [Value.ownBlock]
  · intro he
    have e : g = b := by simpa [Value.ownBlock] using he
    subst e
    unfold Box at hb
    rw [hh] at hb
    injection hb with hb
    injection hb with _ e
    exact ht e.symm
/-- a store into a box of another type leaves the row -/
theorem Buf.setBox {B b : Nat} {t : TypeId} {u v : Value} {l : List UInt8} {W0 w : World} (h : Buf B v l W0 w) (hb : Box w b t u) (ht : t ≠ 5) (hB : B ≤ b) (x : Value) : Buf B v l W0 (w.setCell ⟨b, 0, none⟩ x) :=
  ⟨ownsRow_setCell_other h.1 (h.ne_box hb ht) x, h.2.1.setCell hB x, by simpa [World.setCell] using h.2.2⟩
/-- all boxes of other types than uint8, but one, are as they were -/
def KeptBut (bo : Nat) (w w' : World) : Prop := ∀ b t v, t ≠ 5 → b ≠ bo → Box w b t v → Box w' b t v
theorem KeptBut.refl (bo : Nat) (w : World) : KeptBut bo w w := fun _ _ _ _ _ h => h
theorem KeptBut.trans {bo : Nat} {w w1 w2 : World} (h : KeptBut bo w w1) (k : KeptBut bo w1 w2) : KeptBut bo w w2 := fun b t v ht hb hx => k b t v ht hb (h b t v ht hb hx)
theorem KeptBut.set {bo : Nat} {w w1 : World} (h : KeptBut bo w w1) (x : Value) : KeptBut bo w (w1.setCell ⟨bo, 0, none⟩ x) := fun b t v ht hb hx => (h b t v ht hb hx).far hb x
/-- the same of all boxes -/
def Kept (w w' : World) : Prop := ∀ b t v, t ≠ 5 → Box w b t v → Box w' b t v
theorem Kept.but {w w' : World} (h : Kept w w') (bo : Nat) : KeptBut bo w w' := fun b t v ht _ hx => h b t v ht hx
theorem Kept.alloc {w w' : World} (o : Obj) (h : Kept (w.alloc o) w') : Kept w w' := fun b t v ht hx => h b t v ht (hx.alloc o)
theorem Kept.drew {w w' : World} (h : Kept w.drew w') : Kept w w' := h
theorem kept_own {B : Nat} {v : Value} {l : List UInt8} {W0 w w' : World} (h : Buf B v l W0 w) (hg : w.grownBy w' v.ownBlock) : Kept w w' :=
  fun b t u ht hx => (hg.block b hx.lt (fun e => h.ne_box hx ht e.symm)).trans hx

/-- append(buf, c) at a step of a region that draws, with the boxes kept -/
theorem step_buf_byte_kept {ops : Array Oper} {o : Oper} {a : Act} {w : World} {K : Act → World → Prop} {Q : Exit → Act → World → Prop} {E : Prop} (hgd : o.guard = none) (s x : Operand)
    (ho : o.op = .call { callee := .builtin .append, args := #[s, x], argTypes := #[72, 72] })
    (B : Nat) (v : Value) (l : List UInt8) (hs : a.eval s = v) (W0 : World) (hb : Buf B v l W0 w) (ad : Addr) (hx : a.eval x = .slice (some ad) 1 1)
    (c : UInt8) (hc : w.cell? ad = some (.int .u8 c.toNat)) (hlen : l.length + 1 ≤ 140737488355328)
    (h : ∀ v' w', Buf B v' (l ++ [c]) W0 w' → Kept w w' → K (a.put o.dst v') w') :
    if Region.wanted o (yielded ops a.tmps) = true then Oper.wp Try.prog o a w K Q else E := by
  have hw : Region.wanted o (yielded ops a.tmps) = true := by simp [Region.wanted, hgd]
  rw [if_pos hw]
  obtain ⟨i0, hi, hz0, hz1, hz2⟩ := info_parts info_u8
  refine wp_append_own _ s x 72 ho B 5 i0 (.int .u8 0) 1 1 Try.underlying72 hi hz0 hz1 hz2 rfl (by decide) v l.length (cellsOf l) hs hb.1 ad 1 1 [.int .u8 c.toNat] hx rfl ?_ ?_ (by unfold maxLen; omega) (by omega) hb.2.2 ?_
  · intro j u hj
    match j, hj with
    | 0, hj => simp at hj; subst hj; simpa [Addr.add] using hc
    | (j + 1), hj => simp at hj
  · intro u hu; simp at hu; subst hu; rfl
  · intro v' w' ho' hg _
    exact h v' w' (hb.grown (l' := l ++ [c]) (by simpa [cellsOf] using ho') hg) (kept_own hb hg)
theorem wpList_buf_byte_kept {ops : Array Oper} {rest : List Oper} {o : Oper} {a : Act} {Q : Exit → Act → World → Prop} (hgd : o.guard = none) (s x : Operand)
    (ho : o.op = .call { callee := .builtin .append, args := #[s, x], argTypes := #[72, 72] })
    (B : Nat) (v : Value) (l : List UInt8) (hs : a.eval s = v) (W0 w0 : World) (c : UInt8) (hb : Buf B v l W0 w0)
    (hx : a.eval x = .slice (some ⟨w0.heap.size, 0, none⟩) 1 1) (hlen : l.length + 1 ≤ 140737488355328)
    (h : ∀ v' w', Buf B v' (l ++ [c]) W0 w' → Kept w0 w' → wpList Try.prog ops Q rest (a.put o.dst v') w') : wpList Try.prog ops Q (o :: rest) a (w0.alloc (.cells #[.int .u8 c.toNat] 5)) := by
  obtain ⟨i0, hi, hz0, hz1, hz2⟩ := info_parts info_u8
  have hb' := hb.alloc (.cells #[.int .u8 c.toNat] 5)
  refine wpList_append_own _ hgd s x 72 ho B 5 i0 (.int .u8 0) 1 1 Try.underlying72 hi hz0 hz1 hz2 rfl (by decide) v l.length (cellsOf l) hs hb'.1 ⟨w0.heap.size, 0, none⟩ 1 1 [.int .u8 c.toNat] hx rfl ?_ ?_ (by unfold maxLen; omega) (by omega) hb'.2.2 ?_
  · intro j u hj
    match j, hj with
    | 0, hj => simp at hj; subst hj; simp [Addr.add]
    | (j + 1), hj => simp at hj
  · intro u hu; simp at hu; subst hu; rfl
  · intro v' w' ho' hg _
    exact h v' w' (hb'.grown (l' := l ++ [c]) (by simpa [cellsOf] using ho') hg) ((kept_own hb' hg).alloc _)
/-- append(buf, a constant byte) -/
theorem wpList_buf_const {ops : Array Oper} {rest : List Oper} {o : Oper} {a : Act} {Q : Exit → Act → World → Prop} (hgd : o.guard = none) (s x : Operand)
    (ho : o.op = .call { callee := .builtin .append, args := #[s, x], argTypes := #[72, 72] })
    (B : Nat) (v : Value) (l : List UInt8) (hs : a.eval s = v) (W0 w0 : World) (c : UInt8) (n : Int) (hn : n = c.toNat) (hb : Buf B v l W0 w0)
    (hx : a.eval x = .slice (some ⟨w0.heap.size, 0, none⟩) 1 1) (hlen : l.length + 1 ≤ 140737488355328)
    (h : ∀ v' w', Buf B v' (l ++ [c]) W0 w' → Kept w0 w' → wpList Try.prog ops Q rest (a.put o.dst v') w') : wpList Try.prog ops Q (o :: rest) a (w0.alloc (.cells #[.int .u8 n] 5)) := by
  subst hn
  exact wpList_buf_byte_kept hgd s x ho B v l hs W0 w0 c hb hx hlen h
end Go.Proofs.Ytdeaofnhdbhknaa

/- A row of strings that the call owns: append of one, its cells, kept by calls. No statement is proved here. -/
namespace Go.Proofs.Ytdeaofnhdbhknaa
open Go.RowKit
set_option linter.unusedVariables false
set_option linter.unusedSimpArgs false

def strVals (l : List ByteArray) : List Value := l.map fun s => Value.string s
theorem strVals_length (l : List ByteArray) : (strVals l).length = l.length := by simp [strVals]
/-- in w the []string value v owns the strings l, in a block from B on; below B all is as in W0 -/
def SBuf (B : Nat) (v : Value) (l : List ByteArray) (W0 w : World) : Prop :=
  w.ownsRow B 9 1 v l.length (strVals l) ∧ Below B W0 w ∧ B ≤ w.heap.size
theorem info_str : (Try.prog.info? 9).map (fun i => (i.zero, i.size, i.bytes)) = some (some (.string ByteArray.empty), 1, 16) := by kernel_rfl
theorem SBuf.nil {B : Nat} {W0 w : World} (hb : Below B W0 w) (hB : B ≤ w.heap.size) : SBuf B (.slice none 0 0) [] W0 w := ⟨World.ownsRow_nil w B _ 1, hb, hB⟩
theorem SBuf.below {B : Nat} {v : Value} {l : List ByteArray} {W0 w : World} (h : SBuf B v l W0 w) : Below B W0 w := h.2.1
theorem SBuf.grown {B : Nat} {v v' : Value} {l l' : List ByteArray} {W0 w w' : World} (h : SBuf B v l W0 w) (ho : w'.ownsRow B 9 1 v' l'.length (strVals l')) (hg : w.grownBy w' v.ownBlock) : SBuf B v' l' W0 w' :=
  ⟨ho, h.2.1.grown hg h.2.2 (fun k hk => (h.1.lt k hk).1), Nat.le_trans h.2.2 hg.size⟩
theorem SBuf.alloc {B : Nat} {v : Value} {l : List ByteArray} {W0 w : World} (h : SBuf B v l W0 w) (o : Obj) : SBuf B v l W0 (w.alloc o) :=
  ⟨h.1.alloc o, h.2.1.alloc h.2.2 o, Nat.le_trans h.2.2 ((Below.refl 0 w).alloc (Nat.zero_le _) o).size⟩
theorem SBuf.drew {B : Nat} {v : Value} {l : List ByteArray} {W0 w : World} (h : SBuf B v l W0 w) : SBuf B v l W0 w.drew := ⟨h.1, h.2.1.drew, h.2.2⟩
theorem SBuf.kept {B : Nat} {v : Value} {l : List ByteArray} {W0 w w' : World} (h : SBuf B v l W0 w) (hb : Below w.heap.size w w') : SBuf B v l W0 w' :=
  ⟨h.1.kept (row := none) ⟨hb.os, hb.tape, hb.output, hb.size, fun k hk _ => hb.block k hk⟩ (by cases hv : v.ownBlock <;> simp), h.2.1.trans (hb.mono h.2.2), Nat.le_trans h.2.2 hb.size⟩
theorem SBuf.slice_len {B : Nat} {v : Value} {l : List ByteArray} {W0 w : World} (h : SBuf B v l W0 w) : ∃ A c, v = .slice A l.length c := by
  rcases h.1.2 with ⟨rfl, h0⟩ | ⟨g, cap, cur, rfl, _⟩
  · rw [h0]; exact ⟨_, _, rfl⟩
  · exact ⟨_, _, rfl⟩
theorem SBuf.form {B : Nat} {v : Value} {l : List ByteArray} {W0 w : World} (h : SBuf B v l W0 w) : (v = .slice none 0 0 ∧ l = []) ∨ ∃ g cap, v = .slice (some ⟨g, 0, none⟩) l.length cap ∧ l.length ≤ cap ∧ cap ≤ maxLen ∧ B ≤ g ∧ g < w.heap.size ∧ ∀ (j : Nat) x, l[j]? = some x → w.cell? ⟨g, 0 + j, none⟩ = some (.string x) := by
  have h1 := h.1
  rcases h.1.2 with ⟨rfl, h0⟩ | ⟨g, cap, cur, rfl, hg, hh, hc, hm, _⟩
  · exact .inl ⟨rfl, List.eq_nil_of_length_eq_zero h0⟩
  · refine .inr ⟨g, cap, rfl, hc, hm, hg, ?_, fun j x hj => ?_⟩
    · rcases Nat.lt_or_ge g w.heap.size with h2 | h2
      · exact h2
      · rw [Array.getElem?_eq_none h2] at hh; cases hh
    · have hlt := (List.getElem?_eq_some_iff.1 hj).1
      rw [Nat.zero_add, h1.cellAt j (by omega)]
      simp [strVals, hj]
/-- append(l, s): the one string lies in the block that has just been laid -/
theorem wpList_strs {ops : Array Oper} {rest : List Oper} {o : Oper} {a : Act} {Q : Exit → Act → World → Prop} (hgd : o.guard = none) (s x : Operand)
    (ho : o.op = .call { callee := .builtin .append, args := #[s, x], argTypes := #[32, 32] })
    (B : Nat) (v : Value) (l : List ByteArray) (hs : a.eval s = v) (W0 w0 : World) (c : ByteArray) (hb : SBuf B v l W0 w0)
    (hx : a.eval x = .slice (some ⟨w0.heap.size, 0, none⟩) 1 1) (hlen : l.length + 1 ≤ 8796093022208)
    (h : ∀ v' w', SBuf B v' (l ++ [c]) W0 w' → wpList Try.prog ops Q rest (a.put o.dst v') w') : wpList Try.prog ops Q (o :: rest) a (w0.alloc (.cells #[.string c] 9)) := by
  obtain ⟨i0, hi, hz0, hz1, hz2⟩ := info_parts info_str
  have hb' := hb.alloc (.cells #[.string c] 9)
  refine wpList_append_own _ hgd s x 32 ho B 9 i0 (.string ByteArray.empty) 1 16 Try.underlying32 hi hz0 hz1 hz2 rfl (by decide) v l.length (strVals l) hs hb'.1 ⟨w0.heap.size, 0, none⟩ 1 1 [.string c] hx rfl ?_ ?_ (by unfold maxLen; omega) (by omega) hb'.2.2 ?_
  · intro j u hj
    match j, hj with
    | 0, hj => simp at hj; subst hj; simp [Addr.add]
    | (j + 1), hj => simp at hj
  · intro u hu; simp at hu; subst hu; rfl
  · intro v' w' ho' hg _
    exact h v' w' (hb'.grown (l' := l ++ [c]) (by simpa [strVals] using ho') hg)
def lineVals (L : List (List UInt8)) : List Value := strVals (L.map str)
theorem lineVals_length (L : List (List UInt8)) : (lineVals L).length = L.length := by unfold lineVals; rw [strVals_length, List.length_map]
theorem lineVals_snoc (L : List (List UInt8)) (x : List UInt8) : lineVals (L ++ [x]) = lineVals L ++ [.string (str x)] := by simp [lineVals, strVals]
end Go.Proofs.Ytdeaofnhdbhknaa

