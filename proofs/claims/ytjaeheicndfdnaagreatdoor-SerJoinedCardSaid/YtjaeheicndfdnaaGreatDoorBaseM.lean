/- The first texts of this claim in one: each with its own head. No statement is proved here. -/
import Derived.Test.YtjaeheicndfdnaaGreatDoorProg
import Derived.WalkKit
import Derived.ProofKit
import Derived.OpenShut
import Derived.Lib.Hide
import Derived.WalkSpells
import Derived.WalkLawsBesides
import Derived.BigQuiet
import Derived.Deep.QuietTactic
import Derived.Lib.AppendStr
import Derived.Laws.BytesArg
import Derived.Deep.Draws
import Derived.OneCell
import Derived.ShutString
import Derived.Deep.RegionWith
import Derived.Deep.RegionLaw
import Derived.Lib.Strings
import Derived.Lib.IndexBytes
import Derived.Laws.IdiomStrings
import Derived.Lib.RuneBytes
import Derived.Lib.SlTrimSet
import Derived.Laws.RangeAny
/- GENERAL LEMMAS for this seat's walks: a row of bytes that the call owns, append of a byte and of a text onto it, its conversion to a string, small facts on strings as lists of bytes. No statement is proved here. Own work of the verifier. -/
namespace Go.Proofs.YtjaeheicndfdnaaGreatDoor
open Go.RowKit
set_option linter.unusedVariables false
set_option linter.unusedSimpArgs false

/-! ### strings as lists of bytes -/
/-- the string of a list of bytes -/
def str (l : List UInt8) : ByteArray := ⟨l.toArray⟩
theorem str_toList (l : List UInt8) : (str l).data.toList = l := rfl
theorem str_size (l : List UInt8) : (str l).size = l.length := by simp [str, ByteArray.size]
theorem str_of (s : ByteArray) : str s.data.toList = s := by cases s; simp [str]
theorem toList_length (s : ByteArray) : s.data.toList.length = s.size := by rw [Array.length_toList]; rfl
theorem drop_cons (s : ByteArray) (k : Nat) (h : k < s.size) : s.data.toList.drop k = s[k] :: s.data.toList.drop (k + 1) := by
  rw [List.drop_eq_getElem_cons (by rw [toList_length]; exact h)]; rfl
theorem drop_nil (s : ByteArray) (k : Nat) (h : s.size ≤ k) : s.data.toList.drop k = [] := List.drop_eq_nil_of_le (by rw [toList_length]; exact h)
theorem take_snoc (s : ByteArray) (k : Nat) (h : k < s.size) : s.data.toList.take (k + 1) = s.data.toList.take k ++ [s[k]] := by
  rw [List.take_succ_eq_append_getElem (by rw [toList_length]; exact h)]; rfl
theorem str_append (a b : List UInt8) : str (a ++ b) = str a ++ str b := by
  simp only [str]; apply ByteArray.ext; simp
theorem ext_list {a b : ByteArray} (h : a.data.toList = b.data.toList) : a = b := by
  rw [← str_of a, ← str_of b, h]
theorem extract_list (s : ByteArray) (a b : Nat) : (s.extract a b).data.toList = (s.data.toList.take b).drop a := by
  rw [ByteArray.data_extract, Array.toList_extract, List.extract_eq_take_drop, List.drop_take]
theorem extract_end (s : ByteArray) (a : Nat) : (s.extract a s.size).data.toList = s.data.toList.drop a := by
  rw [extract_list, List.take_of_length_le (by rw [toList_length]; exact Nat.le_refl _)]
theorem extract_none (s : ByteArray) (a : Nat) : (s.extract a a).data.toList = [] := by
  rw [extract_list]; exact List.drop_eq_nil_of_le (List.length_take_le _ _)
theorem extract_mid (s : ByteArray) (a n : Nat) : (s.extract a (a + n)).data.toList = (s.data.toList.drop a).take n := by
  rw [extract_list, List.take_drop]
theorem extract_size_le (s : ByteArray) (a b : Nat) : (s.extract a b).size ≤ b - a := by rw [ByteArray.size_extract]; omega
theorem str_list (l : List UInt8) : (str l).toList = l := ByteArray.toList_eq _
theorem bytes_list (s : ByteArray) : s.toList = s.data.toList := ByteArray.toList_eq _
theorem nil_app (s : ByteArray) : (⟨#[]⟩ : ByteArray) ++ s = s := ext_list (by simp)
theorem hide {p : Prop} (h : p) : Hid p := h
theorem unhide {p : Prop} (h : Hid p) : p := h
theorem ret_int {k : IntKind} {a b : Int} (h : a = b) : Ending.returned (.int k a) = .returned (.int k b) := by rw [h]
theorem ret_bool {a b : Bool} (h : a = b) : Ending.returned (.bool a) = .returned (.bool b) := by rw [h]
theorem ret_str {a b : ByteArray} (h : a = b) : Ending.returned (.string a) = .returned (.string b) := by rw [h]
theorem u8_eq {c : UInt8} {n : Nat} (hn : n < 256) (h : (c.toNat : Int) = n) : c = UInt8.ofNat n := by
  apply UInt8.toNat_inj.1; rw [UInt8.toNat_ofNat']; omega
/-- a byte's test, as the walk spells it -/
theorem tT {c : UInt8} (n : Nat) (h : c = UInt8.ofNat n) (hn : n < 256) : ((c.toNat : Int) == (n : Int)) = true := by
  subst h; rw [UInt8.toNat_ofNat', Nat.mod_eq_of_lt hn]; simp
theorem tF {c : UInt8} (n : Nat) (h : c ≠ UInt8.ofNat n) (hn : n < 256) : ((c.toNat : Int) == (n : Int)) = false := by
  rw [beq_eq_false_iff_ne]; intro e; exact h (u8_eq hn e)
/-- what the kernel finds of each of the 256 bytes -/
theorem u8_all {p : UInt8 → Prop} [DecidablePred p] (h : (List.range 256).all (fun n => decide (p (UInt8.ofNat n))) = true) (c : UInt8) : p c := by
  have h1 := List.all_eq_true.1 h c.toNat (List.mem_range.2 c.toNat_lt)
  rw [decide_eq_true_eq, UInt8.ofNat_toNat] at h1
  exact h1
theorem byte_lt (c : UInt8) : c.toNat < 256 := c.toNat_lt

/-- a round of a range over a text of bytes below 128 -/
theorem next_ascii {P : Program} (w : World) (s : ByteArray) (pos : Nat) (h : pos < s.size) (ha : s.data.toList.all (fun c => decide (c.toNat < 128)) = true) :
    ∃ x : UInt8, s.data.toList.drop pos = x :: s.data.toList.drop (pos + 1) ∧ x.toNat < 128 ∧
      ∀ ty, (Instr.next (.pointer (some ⟨w.heap.size, 0, none⟩)) true ty).run P (w.iter s pos) = .ok (.tuple #[.bool true, .int .i64 pos, .int .i32 x.toNat]) (w.iter s (pos + 1)) := by
  have hx : (s[pos]'h).toNat < 128 := by
    have := List.all_eq_true.1 ha s[pos] (by rw [← Array.mem_def]; exact Array.getElem_mem (by exact h))
    simpa using this
  exact ⟨s[pos], drop_cons s pos h, hx, fun ty => run_next_ascii w s pos ty h hx⟩
theorem iter_below (w : World) (s : ByteArray) (pos : Nat) : Below w.heap.size w (w.iter s pos) := (Below.refl _ _).alloc (Nat.le_refl _) _

/-! ### a row of bytes that the call owns -/
def cellsOf (l : List UInt8) : List Value := l.map fun b => Value.int .u8 b.toNat
theorem cellsOf_length (l : List UInt8) : (cellsOf l).length = l.length := by simp [cellsOf]
theorem cellsOf_str (s : ByteArray) : Lib.strCells s = cellsOf s.data.toList := rfl
/-- in w the []byte value v owns the bytes l, in a block from B on; below B all is as in W0 -/
def Buf (B : Nat) (v : Value) (l : List UInt8) (W0 w : World) : Prop :=
  w.ownsRow B 5 1 v l.length (cellsOf l) ∧ Below B W0 w ∧ B ≤ w.heap.size

theorem info_u8 : (Tryz.prog.info? 5).map (fun i => (i.zero, i.size, i.bytes)) = some (some (.int .u8 0), 1, 1) := by kernel_rfl

theorem Buf.nil {B : Nat} {W0 w : World} (hb : Below B W0 w) (hB : B ≤ w.heap.size) : Buf B (.slice none 0 0) [] W0 w := ⟨World.ownsRow_nil w B _ 1, hb, hB⟩
theorem Buf.below {B : Nat} {v : Value} {l : List UInt8} {W0 w : World} (h : Buf B v l W0 w) : Below B W0 w := h.2.1
theorem Buf.grown {B : Nat} {v v' : Value} {l l' : List UInt8} {W0 w w' : World} (h : Buf B v l W0 w) (ho : w'.ownsRow B 5 1 v' l'.length (cellsOf l')) (hg : w.grownBy w' v.ownBlock) : Buf B v' l' W0 w' :=
  ⟨ho, h.2.1.grown hg h.2.2 (fun k hk => (h.1.lt k hk).1), Nat.le_trans h.2.2 hg.size⟩
theorem Buf.alloc {B : Nat} {v : Value} {l : List UInt8} {W0 w : World} (h : Buf B v l W0 w) (o : Obj) : Buf B v l W0 (w.alloc o) :=
  ⟨h.1.alloc o, h.2.1.alloc h.2.2 o, Nat.le_trans h.2.2 ((Below.refl 0 w).alloc (Nat.zero_le _) o).size⟩
theorem Buf.drew {B : Nat} {v : Value} {l : List UInt8} {W0 w : World} (h : Buf B v l W0 w) : Buf B v l W0 w.drew := ⟨h.1, h.2.1.drew, h.2.2⟩
theorem Buf.drewN {B : Nat} {v : Value} {l : List UInt8} {W0 w : World} (h : Buf B v l W0 w) (n : Nat) : Buf B v l W0 (w.drewN n) :=
  ⟨h.1, ⟨h.2.1.os, h.2.1.tape, h.2.1.output, h.2.1.size, h.2.1.block⟩, h.2.2⟩
/-- a call that keeps all that is there keeps the row -/
theorem Buf.kept {B : Nat} {v : Value} {l : List UInt8} {W0 w w' : World} (h : Buf B v l W0 w) (hb : Below w.heap.size w w') : Buf B v l W0 w' :=
  ⟨h.1.kept (row := none) ⟨hb.os, hb.tape, hb.output, hb.size, fun k hk _ => hb.block k hk⟩ (by cases hv : v.ownBlock <;> simp), h.2.1.trans (hb.mono h.2.2), Nat.le_trans h.2.2 hb.size⟩

theorem Buf.slice {B : Nat} {v : Value} {l : List UInt8} {W0 w : World} (h : Buf B v l W0 w) : ∃ A n c, v = .slice A n c := by
  rcases h.1.2 with ⟨rfl, _⟩ | ⟨g, cap, cur, rfl, _⟩
  · exact ⟨_, _, _, rfl⟩
  · exact ⟨_, _, _, rfl⟩
theorem Buf.slice_len {B : Nat} {v : Value} {l : List UInt8} {W0 w : World} (h : Buf B v l W0 w) : ∃ A c, v = .slice A l.length c := by
  rcases h.1.2 with ⟨rfl, h0⟩ | ⟨g, cap, cur, rfl, _⟩
  · rw [h0]; exact ⟨_, _, rfl⟩
  · exact ⟨_, _, rfl⟩
/-- a row that is not empty lies in a block -/
theorem Buf.form {B : Nat} {v : Value} {l : List UInt8} {W0 w : World} (h : Buf B v l W0 w) (hl : l ≠ []) : ∃ g cap, v = .slice (some ⟨g, 0, none⟩) l.length cap ∧ l.length ≤ cap ∧ cap ≤ maxLen ∧ B ≤ g ∧ g < w.heap.size := by
  rcases h.1.2 with ⟨rfl, h0⟩ | ⟨g, cap, cur, rfl, hg, hh, hc, hm, _⟩
  · exact absurd (List.eq_nil_of_length_eq_zero h0) hl
  · refine ⟨g, cap, rfl, hc, hm, hg, ?_⟩
    rcases Nat.lt_or_ge g w.heap.size with h1 | h1
    · exact h1
    · rw [Array.getElem?_eq_none h1] at hh; cases hh
theorem Buf.cellAt {B g cap : Nat} {l : List UInt8} {W0 w : World} (h : Buf B (.slice (some ⟨g, 0, none⟩) l.length cap) l W0 w) (j : Nat) (hj : j < l.length) : w.cell? ⟨g, j, none⟩ = some (.int .u8 l[j].toNat) := by
  rw [h.1.cellAt j (by omega)]; simp [cellsOf, hj]
/-- buf[:k] -/
theorem Buf.take {B g cap : Nat} {l : List UInt8} {W0 w : World} (h : Buf B (.slice (some ⟨g, 0, none⟩) l.length cap) l W0 w) (k : Nat) (hk : k ≤ l.length) : Buf B (.slice (some ⟨g, 0, none⟩) k cap) (l.take k) W0 w := by
  obtain ⟨⟨h0, h1⟩, h2, h3⟩ := h
  rcases h1 with ⟨h1, _⟩ | ⟨g', cap', cur, h1, hg, hh, hc, hm, hs, ht⟩
  · cases h1
  · injection h1 with e1 e2 e3
    injection e1 with e1
    injection e1 with e1
    subst e1; subst e3
    refine ⟨⟨by simp [cellsOf], .inr ⟨g, cap, cur, by rw [List.length_take, Nat.min_eq_left hk], hg, hh, by rw [List.length_take, Nat.min_eq_left hk]; omega, hm, hs, ?_⟩⟩, h2, h3⟩
    rw [List.length_take, Nat.min_eq_left hk, Nat.mul_one]
    rw [Nat.mul_one] at ht
    have := congrArg (List.take k) ht
    rw [List.take_take, Nat.min_eq_left hk] at this
    rw [this, cellsOf, cellsOf, List.map_take]

/-- append(buf, c): the one byte lies in the block that has just been laid -/
theorem wpList_buf_byte {ops : Array Oper} {rest : List Oper} {o : Oper} {a : Act} {Q : Exit → Act → World → Prop} (hgd : o.guard = none) (s x : Operand)
    (ho : o.op = .call { callee := .builtin .append, args := #[s, x], argTypes := #[48, 48] })
    (B : Nat) (v : Value) (l : List UInt8) (hs : a.eval s = v) (W0 w0 : World) (c : UInt8) (hb : Buf B v l W0 w0)
    (hx : a.eval x = .slice (some ⟨w0.heap.size, 0, none⟩) 1 1) (hlen : l.length + 1 ≤ 140737488355328)
    (h : ∀ v' w', Buf B v' (l ++ [c]) W0 w' → wpList Tryz.prog ops Q rest (a.put o.dst v') w') : wpList Tryz.prog ops Q (o :: rest) a (w0.alloc (.cells #[.int .u8 c.toNat] 5)) := by
  obtain ⟨i0, hi, hz0, hz1, hz2⟩ := info_parts info_u8
  have hb' := hb.alloc (.cells #[.int .u8 c.toNat] 5)
  refine wpList_append_own _ hgd s x 48 ho B 5 i0 (.int .u8 0) 1 1 Tryz.underlying48 hi hz0 hz1 hz2 rfl (by decide) v l.length (cellsOf l) hs hb'.1 ⟨w0.heap.size, 0, none⟩ 1 1 [.int .u8 c.toNat] hx rfl ?_ ?_ (by unfold maxLen; omega) (by omega) hb'.2.2 ?_
  · intro j u hj
    match j, hj with
    | 0, hj => simp at hj; subst hj; simp [Addr.add]
    | (j + 1), hj => simp at hj
  · intro u hu; simp at hu; subst hu; rfl
  · intro v' w' ho' hg _
    exact h v' w' (hb'.grown (l' := l ++ [c]) (by simpa [cellsOf] using ho') hg)

/-- the same at a step of a region that draws its order -/
theorem step_buf_byte {ops : Array Oper} {o : Oper} {a : Act} {w : World} {K : Act → World → Prop} {Q : Exit → Act → World → Prop} {E : Prop} (hgd : o.guard = none) (s x : Operand)
    (ho : o.op = .call { callee := .builtin .append, args := #[s, x], argTypes := #[48, 48] })
    (B : Nat) (v : Value) (l : List UInt8) (hs : a.eval s = v) (W0 : World) (hb : Buf B v l W0 w) (ad : Addr) (hx : a.eval x = .slice (some ad) 1 1)
    (c : UInt8) (hc : w.cell? ad = some (.int .u8 c.toNat)) (hlen : l.length + 1 ≤ 140737488355328)
    (h : ∀ v' w', Buf B v' (l ++ [c]) W0 w' → K (a.put o.dst v') w') :
    if Region.wanted o (yielded ops a.tmps) = true then Oper.wp Tryz.prog o a w K Q else E := by
  have hw : Region.wanted o (yielded ops a.tmps) = true := by simp [Region.wanted, hgd]
  rw [if_pos hw]
  obtain ⟨i0, hi, hz0, hz1, hz2⟩ := info_parts info_u8
  refine wp_append_own _ s x 48 ho B 5 i0 (.int .u8 0) 1 1 Tryz.underlying48 hi hz0 hz1 hz2 rfl (by decide) v l.length (cellsOf l) hs hb.1 ad 1 1 [.int .u8 c.toNat] hx rfl ?_ ?_ (by unfold maxLen; omega) (by omega) hb.2.2 ?_
  · intro j u hj
    match j, hj with
    | 0, hj => simp at hj; subst hj; simpa [Addr.add] using hc
    | (j + 1), hj => simp at hj
  · intro u hu; simp at hu; subst hu; rfl
  · intro v' w' ho' hg _
    exact h v' w' (hb.grown (l' := l ++ [c]) (by simpa [cellsOf] using ho') hg)

/-- append(buf, text...) -/
theorem wpList_buf_text {ops : Array Oper} {rest : List Oper} {o : Oper} {a : Act} {Q : Exit → Act → World → Prop} {w : World} (hgd : o.guard = none) (sl x : Operand)
    (ho : o.op = .call { callee := .builtin .append, args := #[sl, x], argTypes := #[48, 9] })
    (B : Nat) (v : Value) (l : List UInt8) (hs : a.eval sl = v) (W0 : World) (hb : Buf B v l W0 w) (s : ByteArray) (hx : a.eval x = .string s) (hlen : l.length + s.size ≤ 140737488355328)
    (h : ∀ v' w', Buf B v' (l ++ s.data.toList) W0 w' → wpList Tryz.prog ops Q rest (a.put o.dst v') w') : wpList Tryz.prog ops Q (o :: rest) a w := by
  obtain ⟨i0, hi, hz0, hz1, hz2⟩ := info_parts info_u8
  refine Lib.wpList_append_own_string w hgd sl x 48 9 ho B 5 i0 Tryz.underlying48 Tryz.underlying9 hi hz0 hz1 hz2 v l.length (cellsOf l) hs hb.1 s hx (by unfold maxLen; omega) hlen hb.2.2 ?_
  intro v' w' ho' hg _
  refine h v' w' (hb.grown (l' := l ++ s.data.toList) ?_ hg)
  rw [List.length_append, toList_length, cellsOf, List.map_append]
  exact ho'

/-- string(buf) -/
theorem Buf.convert {B : Nat} {v : Value} {l : List UInt8} {W0 w : World} (h : Buf B v l W0 w) : (convert 48 9 v).run Tryz.prog w = .ok (.string (str l)) w := by
  rcases h.1.2 with ⟨rfl, hl⟩ | ⟨g, cap, cur, rfl, _⟩
  · have : l = [] := List.eq_nil_of_length_eq_zero hl
    subst this
    exact run_convert_bytes_nil w 48 5 Tryz.underlying48 Tryz.underlying5 0 0 9 Tryz.underlying9
  · have hc := h.1.cells (g := g) rfl
    have hr := run_convert_bytes_arg (P := Tryz.prog) w 48 5 Tryz.underlying48 Tryz.underlying5 g 0 l.length cap (l.map fun b => (b.toNat : Int)) (by simp) (fun i hi => by
      have h1 := hc i (.int .u8 l[i].toNat) (by simp [cellsOf, hi])
      rw [Addr.add_lit] at h1
      rw [h1]
      simp [List.getD, hi]) 9 Tryz.underlying9
    rw [hr]
    refine congrArg (fun x => Result.ok (Value.string x) w) ?_
    apply ext_list
    rw [strOfNums_data, str_toList, List.map_map]
    conv => rhs; rw [← List.map_id l]
    apply List.map_congr_left
    intro b _
    simp

/-- string([]byte{x}), string([]byte{x, y, z}): the bytes lie in the block that has just been laid -/
theorem conv1 (w : World) (x : Int) : (convert 48 9 (.slice (some ⟨w.heap.size, 0, none⟩) 1 1)).run Tryz.prog (w.alloc (.cells #[.int .u8 x] 5)) = .ok (.string (strOfNums [x])) (w.alloc (.cells #[.int .u8 x] 5)) :=
  run_convert_bytes_arg (P := Tryz.prog) _ 48 5 Tryz.underlying48 Tryz.underlying5 w.heap.size 0 1 1 [x] rfl (fun i hi => by
    obtain rfl : i = 0 := by omega
    rw [World.cell?_alloc_at _ _ _ _ (by simp)]; rfl) 9 Tryz.underlying9
theorem conv2d (w : World) (x y : Int) : (convert 48 9 (.slice (some ⟨w.heap.size, 0, none⟩) 2 2)).run Tryz.prog (w.alloc (.cells #[.int .u8 x, .int .u8 y] 5)).drew = .ok (.string (strOfNums [x, y])) (w.alloc (.cells #[.int .u8 x, .int .u8 y] 5)).drew :=
  run_convert_bytes_arg (P := Tryz.prog) _ 48 5 Tryz.underlying48 Tryz.underlying5 w.heap.size 0 2 2 [x, y] rfl (fun i hi => by
    show (w.alloc (.cells #[.int .u8 x, .int .u8 y] 5)).cell? _ = _
    rw [World.cell?_alloc_at _ _ _ _ (by simp)]
    obtain rfl | rfl : i = 0 ∨ i = 1 := by omega
    all_goals rfl) 9 Tryz.underlying9
theorem conv3 (w : World) (x y z : Int) : (convert 48 9 (.slice (some ⟨w.heap.size, 0, none⟩) 3 3)).run Tryz.prog (w.alloc (.cells #[.int .u8 x, .int .u8 y, .int .u8 z] 5)) = .ok (.string (strOfNums [x, y, z])) (w.alloc (.cells #[.int .u8 x, .int .u8 y, .int .u8 z] 5)) :=
  run_convert_bytes_arg (P := Tryz.prog) _ 48 5 Tryz.underlying48 Tryz.underlying5 w.heap.size 0 3 3 [x, y, z] rfl (fun i hi => by
    rw [World.cell?_alloc_at _ _ _ _ (by simp)]
    obtain rfl | rfl | rfl : i = 0 ∨ i = 1 ∨ i = 2 := by omega
    all_goals rfl) 9 Tryz.underlying9
theorem conv3d (w : World) (x y z : Int) : (convert 48 9 (.slice (some ⟨w.heap.size, 0, none⟩) 3 3)).run Tryz.prog (w.alloc (.cells #[.int .u8 x, .int .u8 y, .int .u8 z] 5)).drew = .ok (.string (strOfNums [x, y, z])) (w.alloc (.cells #[.int .u8 x, .int .u8 y, .int .u8 z] 5)).drew :=
  run_convert_bytes_arg (P := Tryz.prog) _ 48 5 Tryz.underlying48 Tryz.underlying5 w.heap.size 0 3 3 [x, y, z] rfl (fun i hi => by
    show (w.alloc (.cells #[.int .u8 x, .int .u8 y, .int .u8 z] 5)).cell? _ = _
    rw [World.cell?_alloc_at _ _ _ _ (by simp)]
    obtain rfl | rfl | rfl : i = 0 ∨ i = 1 ∨ i = 2 := by omega
    all_goals rfl) 9 Tryz.underlying9
theorem nums_list (xs : List Int) : (strOfNums xs).data.toList = xs.map fun n => UInt8.ofNat n.toNat := rfl
theorem nums_str {xs : List Int} {l : List UInt8} (h : (xs.map fun n => UInt8.ofNat n.toNat) = l) : strOfNums xs = str l := ext_list (by rw [nums_list, h, str_toList])

/-- make([]byte, 0, n) -/
theorem wpList_buf_make {ops : Array Oper} {rest : List Oper} {o : Oper} {a : Act} {Q : Exit → Act → World → Prop} {w : World} (hgd : o.guard = none) (x y : Operand)
    (ho : o.op = .makeSlice 48 x y) (B : Nat) (W0 : World) (hb : Below B W0 w) (hB : B ≤ w.heap.size) (c : Nat) (C : Int) (hx : a.eval x = .int .i64 0) (hy : a.eval y = .int .i64 C) (hC : C = c) (hc : c ≤ 281474976710656)
    (h : ∀ v' w', Buf B v' [] W0 w' → wpList Tryz.prog ops Q rest (a.put o.dst v') w') : wpList Tryz.prog ops Q (o :: rest) a w := by
  obtain ⟨i0, hi, hz0, hz1, hz2⟩ := info_parts info_u8
  refine wpList_make_own w hgd x y 48 ho B 5 i0 (.int .u8 0) 1 Tryz.underlying48 hi hz0 hz1 .i64 .i64 C c hx hy hC (by rw [hz2]; omega) (by unfold maxLen; omega) hB ?_
  intro w' ho' hg
  exact h _ _ ⟨ho', hb.grown hg hB (by simp), Nat.le_trans hB hg.size⟩
/-! ### blocks of one cell -/
/-- block b is one cell of type t that holds v, not frozen -/
def Box (w : World) (b : Nat) (t : TypeId) (v : Value) : Prop := w.heap[b]? = some (.cells #[v] t (0, 0))
section
variable {w w' : World} {b : Nat} {t : TypeId} {v : Value}
theorem Box.cell (h : Box w b t v) : w.cell? ⟨b, 0, none⟩ = some v := cell_of_one h
theorem Box.free (h : Box w b t v) : w.frozen? ⟨b, 0, none⟩ = false := free_of_one h
theorem Box.lt (h : Box w b t v) : b < w.heap.size := lt_of_block h
theorem Box.new (w : World) (t : TypeId) (v : Value) : Box (w.alloc (.cells #[v] t)) w.heap.size t v := heap_alloc_new w _
theorem Box.alloc (h : Box w b t v) (o : Obj) : Box (w.alloc o) b t v := (Below.heap_alloc w o b h.lt).trans h
theorem Box.drew (h : Box w b t v) : Box w.drew b t v := h
theorem Box.drewN (h : Box w b t v) (n : Nat) : Box (w.drewN n) b t v := h
theorem Box.set (h : Box w b t v) (u : Value) : Box (w.setCell ⟨b, 0, none⟩ u) b t u := one_setCell h
theorem Box.far (h : Box w b t v) {a : Addr} (ha : b ≠ a.block) (u : Value) : Box (w.setCell a u) b t v := (Below.heap_setCell w a u b ha).trans h
theorem Box.below {B : Nat} (h : Box w b t v) (hb : Below B w w') (hB : b < B) : Box w' b t v := (hb.block b hB).trans h
theorem Box.ne {b' : Nat} {t' : TypeId} {v' : Value} (h : Box w b t v) (h' : Box w b' t' v') (ht : t ≠ t') : b ≠ b' := by
  rintro rfl
  unfold Box at h h'
  rw [h] at h'
  injection h' with h'
  injection h' with _ e
  exact ht e
end
theorem Buf.ne_box {B b : Nat} {t : TypeId} {u v : Value} {l : List UInt8} {W0 w : World} (h : Buf B v l W0 w) (hb : Box w b t u) (ht : t ≠ 5) : v.ownBlock ≠ some b := by
  rcases h.1.2 with ⟨rfl, _⟩ | ⟨g, cap, cur, rfl, _, hh, _⟩
  · simp [Value.ownBlock]
  · intro he
    have e : g = b := by simpa [Value.ownBlock] using he
    subst e
    unfold Box at hb
    rw [hh] at hb
    injection hb with hb
    injection hb with _ e
    exact ht e.symm
/-- a store into a box of another type leaves the row -/
theorem Buf.setBox {B b : Nat} {t : TypeId} {u v : Value} {l : List UInt8} {W0 w : World} (h : Buf B v l W0 w) (hb : Box w b t u) (ht : t ≠ 5) (hB : B ≤ b) (x : Value) : Buf B v l W0 (w.setCell ⟨b, 0, none⟩ x) :=
  ⟨ownsRow_setCell_other h.1 (h.ne_box hb ht) x, h.2.1.setCell hB x, by simpa [World.setCell] using h.2.2⟩
/-- all boxes of other types than uint8, but one, are as they were -/
def KeptBut (bo : Nat) (w w' : World) : Prop := ∀ b t v, t ≠ 5 → b ≠ bo → Box w b t v → Box w' b t v
theorem KeptBut.refl (bo : Nat) (w : World) : KeptBut bo w w := fun _ _ _ _ _ h => h
theorem KeptBut.trans {bo : Nat} {w w1 w2 : World} (h : KeptBut bo w w1) (k : KeptBut bo w1 w2) : KeptBut bo w w2 := fun b t v ht hb hx => k b t v ht hb (h b t v ht hb hx)
theorem KeptBut.set {bo : Nat} {w w1 : World} (h : KeptBut bo w w1) (x : Value) : KeptBut bo w (w1.setCell ⟨bo, 0, none⟩ x) := fun b t v ht hb hx => (h b t v ht hb hx).far hb x
/-- the same of all boxes -/
def Kept (w w' : World) : Prop := ∀ b t v, t ≠ 5 → Box w b t v → Box w' b t v
theorem Kept.but {w w' : World} (h : Kept w w') (bo : Nat) : KeptBut bo w w' := fun b t v ht _ hx => h b t v ht hx
theorem Kept.alloc {w w' : World} (o : Obj) (h : Kept (w.alloc o) w') : Kept w w' := fun b t v ht hx => h b t v ht (hx.alloc o)
theorem Kept.drew {w w' : World} (h : Kept w.drew w') : Kept w w' := h
theorem kept_own {B : Nat} {v : Value} {l : List UInt8} {W0 w w' : World} (h : Buf B v l W0 w) (hg : w.grownBy w' v.ownBlock) : Kept w w' :=
  fun b t u ht hx => (hg.block b hx.lt (fun e => h.ne_box hx ht e.symm)).trans hx

/-- append(buf, c) at a step of a region that draws, with the boxes kept -/
theorem step_buf_byte_kept {ops : Array Oper} {o : Oper} {a : Act} {w : World} {K : Act → World → Prop} {Q : Exit → Act → World → Prop} {E : Prop} (hgd : o.guard = none) (s x : Operand)
    (ho : o.op = .call { callee := .builtin .append, args := #[s, x], argTypes := #[48, 48] })
    (B : Nat) (v : Value) (l : List UInt8) (hs : a.eval s = v) (W0 : World) (hb : Buf B v l W0 w) (ad : Addr) (hx : a.eval x = .slice (some ad) 1 1)
    (c : UInt8) (hc : w.cell? ad = some (.int .u8 c.toNat)) (hlen : l.length + 1 ≤ 140737488355328)
    (h : ∀ v' w', Buf B v' (l ++ [c]) W0 w' → Kept w w' → K (a.put o.dst v') w') :
    if Region.wanted o (yielded ops a.tmps) = true then Oper.wp Tryz.prog o a w K Q else E := by
  have hw : Region.wanted o (yielded ops a.tmps) = true := by simp [Region.wanted, hgd]
  rw [if_pos hw]
  obtain ⟨i0, hi, hz0, hz1, hz2⟩ := info_parts info_u8
  refine wp_append_own _ s x 48 ho B 5 i0 (.int .u8 0) 1 1 Tryz.underlying48 hi hz0 hz1 hz2 rfl (by decide) v l.length (cellsOf l) hs hb.1 ad 1 1 [.int .u8 c.toNat] hx rfl ?_ ?_ (by unfold maxLen; omega) (by omega) hb.2.2 ?_
  · intro j u hj
    match j, hj with
    | 0, hj => simp at hj; subst hj; simpa [Addr.add] using hc
    | (j + 1), hj => simp at hj
  · intro u hu; simp at hu; subst hu; rfl
  · intro v' w' ho' hg _
    exact h v' w' (hb.grown (l' := l ++ [c]) (by simpa [cellsOf] using ho') hg) (kept_own hb hg)
theorem wpList_buf_byte_kept {ops : Array Oper} {rest : List Oper} {o : Oper} {a : Act} {Q : Exit → Act → World → Prop} (hgd : o.guard = none) (s x : Operand)
    (ho : o.op = .call { callee := .builtin .append, args := #[s, x], argTypes := #[48, 48] })
    (B : Nat) (v : Value) (l : List UInt8) (hs : a.eval s = v) (W0 w0 : World) (c : UInt8) (hb : Buf B v l W0 w0)
    (hx : a.eval x = .slice (some ⟨w0.heap.size, 0, none⟩) 1 1) (hlen : l.length + 1 ≤ 140737488355328)
    (h : ∀ v' w', Buf B v' (l ++ [c]) W0 w' → Kept w0 w' → wpList Tryz.prog ops Q rest (a.put o.dst v') w') : wpList Tryz.prog ops Q (o :: rest) a (w0.alloc (.cells #[.int .u8 c.toNat] 5)) := by
  obtain ⟨i0, hi, hz0, hz1, hz2⟩ := info_parts info_u8
  have hb' := hb.alloc (.cells #[.int .u8 c.toNat] 5)
  refine wpList_append_own _ hgd s x 48 ho B 5 i0 (.int .u8 0) 1 1 Tryz.underlying48 hi hz0 hz1 hz2 rfl (by decide) v l.length (cellsOf l) hs hb'.1 ⟨w0.heap.size, 0, none⟩ 1 1 [.int .u8 c.toNat] hx rfl ?_ ?_ (by unfold maxLen; omega) (by omega) hb'.2.2 ?_
  · intro j u hj
    match j, hj with
    | 0, hj => simp at hj; subst hj; simp [Addr.add]
    | (j + 1), hj => simp at hj
  · intro u hu; simp at hu; subst hu; rfl
  · intro v' w' ho' hg _
    exact h v' w' (hb'.grown (l' := l ++ [c]) (by simpa [cellsOf] using ho') hg) ((kept_own hb' hg).alloc _)
/-- append(buf, a constant byte) -/
theorem wpList_buf_const {ops : Array Oper} {rest : List Oper} {o : Oper} {a : Act} {Q : Exit → Act → World → Prop} (hgd : o.guard = none) (s x : Operand)
    (ho : o.op = .call { callee := .builtin .append, args := #[s, x], argTypes := #[48, 48] })
    (B : Nat) (v : Value) (l : List UInt8) (hs : a.eval s = v) (W0 w0 : World) (c : UInt8) (n : Int) (hn : n = c.toNat) (hb : Buf B v l W0 w0)
    (hx : a.eval x = .slice (some ⟨w0.heap.size, 0, none⟩) 1 1) (hlen : l.length + 1 ≤ 140737488355328)
    (h : ∀ v' w', Buf B v' (l ++ [c]) W0 w' → Kept w0 w' → wpList Tryz.prog ops Q rest (a.put o.dst v') w') : wpList Tryz.prog ops Q (o :: rest) a (w0.alloc (.cells #[.int .u8 n] 5)) := by
  subst hn
  exact wpList_buf_byte_kept hgd s x ho B v l hs W0 w0 c hb hx hlen h
end Go.Proofs.YtjaeheicndfdnaaGreatDoor

/- A row of strings that the call owns: append of one, its cells, kept by calls. No statement is proved here. -/
namespace Go.Proofs.YtjaeheicndfdnaaGreatDoor
open Go.RowKit
set_option linter.unusedVariables false
set_option linter.unusedSimpArgs false

def strVals (l : List ByteArray) : List Value := l.map fun s => Value.string s
theorem strVals_length (l : List ByteArray) : (strVals l).length = l.length := by simp [strVals]
/-- in w the []string value v owns the strings l, in a block from B on; below B all is as in W0 -/
def SBuf (B : Nat) (v : Value) (l : List ByteArray) (W0 w : World) : Prop :=
  w.ownsRow B 9 1 v l.length (strVals l) ∧ Below B W0 w ∧ B ≤ w.heap.size
theorem info_str : (Tryz.prog.info? 9).map (fun i => (i.zero, i.size, i.bytes)) = some (some (.string ByteArray.empty), 1, 16) := by kernel_rfl
theorem SBuf.nil {B : Nat} {W0 w : World} (hb : Below B W0 w) (hB : B ≤ w.heap.size) : SBuf B (.slice none 0 0) [] W0 w := ⟨World.ownsRow_nil w B _ 1, hb, hB⟩
theorem SBuf.below {B : Nat} {v : Value} {l : List ByteArray} {W0 w : World} (h : SBuf B v l W0 w) : Below B W0 w := h.2.1
theorem SBuf.grown {B : Nat} {v v' : Value} {l l' : List ByteArray} {W0 w w' : World} (h : SBuf B v l W0 w) (ho : w'.ownsRow B 9 1 v' l'.length (strVals l')) (hg : w.grownBy w' v.ownBlock) : SBuf B v' l' W0 w' :=
  ⟨ho, h.2.1.grown hg h.2.2 (fun k hk => (h.1.lt k hk).1), Nat.le_trans h.2.2 hg.size⟩
theorem SBuf.alloc {B : Nat} {v : Value} {l : List ByteArray} {W0 w : World} (h : SBuf B v l W0 w) (o : Obj) : SBuf B v l W0 (w.alloc o) :=
  ⟨h.1.alloc o, h.2.1.alloc h.2.2 o, Nat.le_trans h.2.2 ((Below.refl 0 w).alloc (Nat.zero_le _) o).size⟩
theorem SBuf.drew {B : Nat} {v : Value} {l : List ByteArray} {W0 w : World} (h : SBuf B v l W0 w) : SBuf B v l W0 w.drew := ⟨h.1, h.2.1.drew, h.2.2⟩
theorem SBuf.kept {B : Nat} {v : Value} {l : List ByteArray} {W0 w w' : World} (h : SBuf B v l W0 w) (hb : Below w.heap.size w w') : SBuf B v l W0 w' :=
  ⟨h.1.kept (row := none) ⟨hb.os, hb.tape, hb.output, hb.size, fun k hk _ => hb.block k hk⟩ (by cases hv : v.ownBlock <;> simp), h.2.1.trans (hb.mono h.2.2), Nat.le_trans h.2.2 hb.size⟩
theorem SBuf.slice_len {B : Nat} {v : Value} {l : List ByteArray} {W0 w : World} (h : SBuf B v l W0 w) : ∃ A c, v = .slice A l.length c := by
  rcases h.1.2 with ⟨rfl, h0⟩ | ⟨g, cap, cur, rfl, _⟩
  · rw [h0]; exact ⟨_, _, rfl⟩
  · exact ⟨_, _, rfl⟩
theorem SBuf.form {B : Nat} {v : Value} {l : List ByteArray} {W0 w : World} (h : SBuf B v l W0 w) : (v = .slice none 0 0 ∧ l = []) ∨ ∃ g cap, v = .slice (some ⟨g, 0, none⟩) l.length cap ∧ l.length ≤ cap ∧ cap ≤ maxLen ∧ B ≤ g ∧ g < w.heap.size ∧ ∀ (j : Nat) x, l[j]? = some x → w.cell? ⟨g, 0 + j, none⟩ = some (.string x) := by
  have h1 := h.1
  rcases h.1.2 with ⟨rfl, h0⟩ | ⟨g, cap, cur, rfl, hg, hh, hc, hm, _⟩
  · exact .inl ⟨rfl, List.eq_nil_of_length_eq_zero h0⟩
  · refine .inr ⟨g, cap, rfl, hc, hm, hg, ?_, fun j x hj => ?_⟩
    · rcases Nat.lt_or_ge g w.heap.size with h2 | h2
      · exact h2
      · rw [Array.getElem?_eq_none h2] at hh; cases hh
    · have hlt := (List.getElem?_eq_some_iff.1 hj).1
      rw [Nat.zero_add, h1.cellAt j (by omega)]
      simp [strVals, hj]
/-- append(l, s): the one string lies in the block that has just been laid -/
theorem wpList_strs {ops : Array Oper} {rest : List Oper} {o : Oper} {a : Act} {Q : Exit → Act → World → Prop} (hgd : o.guard = none) (s x : Operand)
    (ho : o.op = .call { callee := .builtin .append, args := #[s, x], argTypes := #[137, 137] })
    (B : Nat) (v : Value) (l : List ByteArray) (hs : a.eval s = v) (W0 w0 : World) (c : ByteArray) (hb : SBuf B v l W0 w0)
    (hx : a.eval x = .slice (some ⟨w0.heap.size, 0, none⟩) 1 1) (hlen : l.length + 1 ≤ 8796093022208)
    (h : ∀ v' w', SBuf B v' (l ++ [c]) W0 w' → wpList Tryz.prog ops Q rest (a.put o.dst v') w') : wpList Tryz.prog ops Q (o :: rest) a (w0.alloc (.cells #[.string c] 9)) := by
  obtain ⟨i0, hi, hz0, hz1, hz2⟩ := info_parts info_str
  have hb' := hb.alloc (.cells #[.string c] 9)
  refine wpList_append_own _ hgd s x 137 ho B 9 i0 (.string ByteArray.empty) 1 16 Tryz.underlying137 hi hz0 hz1 hz2 rfl (by decide) v l.length (strVals l) hs hb'.1 ⟨w0.heap.size, 0, none⟩ 1 1 [.string c] hx rfl ?_ ?_ (by unfold maxLen; omega) (by omega) hb'.2.2 ?_
  · intro j u hj
    match j, hj with
    | 0, hj => simp at hj; subst hj; simp [Addr.add]
    | (j + 1), hj => simp at hj
  · intro u hu; simp at hu; subst hu; rfl
  · intro v' w' ho' hg _
    exact h v' w' (hb'.grown (l' := l ++ [c]) (by simpa [strVals] using ho') hg)
end Go.Proofs.YtjaeheicndfdnaaGreatDoor

/- Plain functions on bytes: hexadecimal digits. No program is named here. No statement is proved here. -/
namespace Go.Proofs.YtjaeheicndfdnaaGreatDoor
set_option linter.unusedVariables false
set_option linter.unusedSimpArgs false

def hexDigits : List UInt8 := [48, 49, 50, 51, 52, 53, 54, 55, 56, 57, 65, 66, 67, 68, 69, 70]
/-- a digit's capital -/
def upHex (c : UInt8) : UInt8 := if 97 ≤ c ∧ c ≤ 102 then c - 32 else c
/-- a hexadecimal digit's number; 16: it is none -/
def hexN (c : UInt8) : Nat := hexDigits.idxOf (upHex c)
theorem hexN_le (c : UInt8) : hexN c ≤ 16 := by unfold hexN; exact List.idxOf_le_length
/-- the byte of two hexadecimal digits that are ahead -/
def hex2 : List UInt8 → Option UInt8
  | a :: b :: _ => if hexN a < 16 ∧ hexN b < 16 then some (UInt8.ofNat (16 * hexN a + hexN b)) else none
  | _ => none
theorem hex2_len {r : List UInt8} {b : UInt8} (h : hex2 r = some b) : 2 ≤ r.length := by
  match r, h with
  | _ :: _ :: _, _ => simp
/-- the two digits of a byte -/
def hexHi (c : UInt8) : UInt8 := hexDigits.getD (c.toNat / 16) 0
def hexLo (c : UInt8) : UInt8 := hexDigits.getD (c.toNat % 16) 0
theorem hex_facts (c : UInt8) : hexN (hexHi c) < 16 ∧ hexN (hexLo c) < 16 ∧ UInt8.ofNat (16 * hexN (hexHi c) + hexN (hexLo c)) = c ∧ hexLo c ≠ 32 ∧ hexLo c ≠ 10 ∧ hexHi c ≠ 10 ∧ 32 ≤ (hexLo c).toNat ∧ (hexLo c).toNat ≤ 126 ∧ 32 ≤ (hexHi c).toNat ∧ (hexHi c).toNat ≤ 126 :=
  u8_all (p := fun c => hexN (hexHi c) < 16 ∧ hexN (hexLo c) < 16 ∧ UInt8.ofNat (16 * hexN (hexHi c) + hexN (hexLo c)) = c ∧ hexLo c ≠ 32 ∧ hexLo c ≠ 10 ∧ hexHi c ≠ 10 ∧ 32 ≤ (hexLo c).toNat ∧ (hexLo c).toNat ≤ 126 ∧ 32 ≤ (hexHi c).toNat ∧ (hexHi c).toNat ≤ 126) (by decide +kernel) c
theorem upHex_case (c : UInt8) : (97 ≤ c.toNat ∧ c.toNat ≤ 102 ∧ upHex c = c - 32 ∧ (c - 32).toNat = c.toNat - 32) ∨ (¬ (97 ≤ c.toNat ∧ c.toNat ≤ 102) ∧ upHex c = c) :=
  u8_all (p := fun c => (97 ≤ c.toNat ∧ c.toNat ≤ 102 ∧ upHex c = c - 32 ∧ (c - 32).toNat = c.toNat - 32) ∨ (¬ (97 ≤ c.toNat ∧ c.toNat ≤ 102) ∧ upHex c = c)) (by decide +kernel) c
theorem hexN_val (c : UInt8) : hexN c = if 48 ≤ c.toNat ∧ c.toNat ≤ 57 then c.toNat - 48 else if 65 ≤ c.toNat ∧ c.toNat ≤ 70 then c.toNat - 55 else if 97 ≤ c.toNat ∧ c.toNat ≤ 102 then c.toNat - 87 else 16 :=
  u8_all (p := fun c => hexN c = if 48 ≤ c.toNat ∧ c.toNat ≤ 57 then c.toNat - 48 else if 65 ≤ c.toNat ∧ c.toNat ≤ 70 then c.toNat - 55 else if 97 ≤ c.toNat ∧ c.toNat ≤ 102 then c.toNat - 87 else 16) (by decide +kernel) c
/-- what 'digit' answers -/
def digV (n : Nat) : Value := .tuple #[.int .u8 (if n < 16 then n else 0), .bool (decide (n < 16))]
theorem hexV (n : Nat) : (n < 16 ∧ digV n = .tuple #[.int .u8 n, .bool true]) ∨ ¬ n < 16 ∧ digV n = .tuple #[.int .u8 0, .bool false] := by
  by_cases h : n < 16
  · exact .inl ⟨h, by simp [digV, h]⟩
  · exact .inr ⟨h, by simp [digV, h]⟩
/-- what 'FromHex' answers -/
def fromHexV (r : List UInt8) : Value := .tuple #[.int .u8 ((hex2 r).elim 0 fun b => b.toNat), .bool (hex2 r).isSome]
theorem idx_eq {x : UInt8} {l r : List UInt8} (h : l = x :: r) : l.idxOf x = 0 := by
  subst h; simp
theorem idx_ne {d x : UInt8} {l r : List UInt8} (h : l = x :: r) (e : x ≠ d) : l.idxOf d = r.idxOf d + 1 := by
  subst h
  rw [List.idxOf_cons]
  have : (x == d) = false := by simp [e]
  rw [this]; rfl
theorem or_nibbles (h l : Nat) (hh : h < 16) (hl : l < 16) : bits .or .u8 ((h : Int) * 16) (l : Int) = ((16 * h + l : Nat) : Int) := by
  have : ∀ h, h < 16 → ∀ l, l < 16 → bits .or .u8 (((h : Nat) : Int) * 16) ((l : Nat) : Int) = ((16 * h + l : Nat) : Int) := by decide +kernel
  exact this h hh l hl
theorem and15 (c : Nat) (h : c < 256) : bits .and .u8 (c : Int) 15 = (c : Int) % 16 := by
  have : ∀ c, c < 256 → bits .and .u8 ((c : Nat) : Int) 15 = ((c : Nat) : Int) % 16 := by decide +kernel
  exact this c h
theorem digit_at (i : Nat) (h : i < (⟨#[48, 49, 50, 51, 52, 53, 54, 55, 56, 57, 65, 66, 67, 68, 69, 70]⟩ : ByteArray).size) :
    UInt8.ofNat ((((⟨#[48, 49, 50, 51, 52, 53, 54, 55, 56, 57, 65, 66, 67, 68, 69, 70]⟩ : ByteArray)[i].toNat : Nat) : Int)).toNat = hexDigits.getD i 0 := by
  rw [Int.toNat_natCast, UInt8.ofNat_toNat]
  have h' : i < hexDigits.length := h
  have e : hexDigits.getD i 0 = hexDigits[i] := by rw [List.getD_eq_getElem?_getD, List.getElem?_eq_getElem h']; rfl
  rw [e]; rfl
theorem extract1 (i : Nat) (h : i < 16) : (⟨#[48, 49, 50, 51, 52, 53, 54, 55, 56, 57, 65, 66, 67, 68, 69, 70]⟩ : ByteArray).extract i (i + 1) = str [hexDigits.getD i 0] := by
  have : ∀ i, i < 16 → ((⟨#[48, 49, 50, 51, 52, 53, 54, 55, 56, 57, 65, 66, 67, 68, 69, 70]⟩ : ByteArray).extract i (i + 1)).data.toList = [hexDigits.getD i 0] := by decide +kernel
  exact ext_list (this i h)
/-- what the reference's Hex answers -/
def hexI (c : UInt8) : Int := if hexN c < 16 then hexN c else -1
theorem hexI_pos {c : UInt8} (h : hexN c < 16) : hexI c = (hexN c : Nat) := by simp [hexI, h]
theorem hexI_neg {c : UInt8} (h : ¬ hexN c < 16) : hexI c = -1 := by simp [hexI, h]
end Go.Proofs.YtjaeheicndfdnaaGreatDoor

/- A row of bytes that []byte(s) has made, read and written place by place; small letters. No statement is proved here. -/
namespace Go.Proofs.YtjaeheicndfdnaaGreatDoor
open Go.RowKit
set_option linter.unusedVariables false
set_option linter.unusedSimpArgs false

/-- the bytes l lie at the head of block g, which is the call's own and may be written -/
def Arr (B g : Nat) (l : List UInt8) (W0 w : World) : Prop :=
  (∀ j (h : j < l.length), w.cell? ⟨g, j, none⟩ = some (.int .u8 (l[j]'h).toNat) ∧ w.frozen? ⟨g, j, none⟩ = false) ∧ Below B W0 w ∧ B ≤ g ∧ g < w.heap.size

theorem Arr.below {B g : Nat} {l : List UInt8} {W0 w : World} (h : Arr B g l W0 w) : Below B W0 w := h.2.1
theorem Arr.cell {B g : Nat} {l : List UInt8} {W0 w : World} (h : Arr B g l W0 w) (j : Nat) (hj : j < l.length) : w.cell? ⟨g, j, none⟩ = some (.int .u8 (l[j]'hj).toNat) := (h.1 j hj).1
theorem Arr.free {B g : Nat} {l : List UInt8} {W0 w : World} (h : Arr B g l W0 w) (j : Nat) (hj : j < l.length) : w.frozen? ⟨g, j, none⟩ = false := (h.1 j hj).2
theorem Arr.drew {B g : Nat} {l : List UInt8} {W0 w : World} (h : Arr B g l W0 w) : Arr B g l W0 w.drew := ⟨h.1, h.2.1.drew, h.2.2⟩

theorem Arr.kept {B g : Nat} {l : List UInt8} {W0 w w' : World} (h : Arr B g l W0 w) (hb : Below w.heap.size w w') : Arr B g l W0 w' :=
  ⟨fun j hj => ⟨(hb.cell (by exact h.2.2.2)).trans (h.cell j hj), (hb.frozen (by exact h.2.2.2)).trans (h.free j hj)⟩, h.2.1.trans (hb.mono (Nat.le_trans h.2.2.1 (Nat.le_of_lt h.2.2.2))), h.2.2.1, Nat.lt_of_lt_of_le h.2.2.2 hb.size⟩
theorem Arr.new (w : World) (s : ByteArray) (cap : Nat) :
    Arr w.heap.size w.heap.size s.data.toList w (w.drew.alloc (.cells (bytesRow s cap) 5 ((bytesRow s cap).size, (bytesRow s cap).size + 1))) := by
  have hh : (w.drew.alloc (.cells (bytesRow s cap) 5 ((bytesRow s cap).size, (bytesRow s cap).size + 1))).heap[w.heap.size]? = some (.cells (bytesRow s cap) 5 ((bytesRow s cap).size, (bytesRow s cap).size + 1)) := heap_alloc_new w.drew _
  have hz : s.data.toList.length ≤ (bytesRow s cap).size := by simp [bytesRow]
  refine ⟨fun j hj => ⟨?_, ?_⟩, ((Below.refl _ w).drew).alloc (Nat.le_refl _) _, Nat.le_refl _, ?_⟩
  · rw [cell_of_row _ _ j _ _ _ hh]
    have hj' : j < s.data.size := by simpa using hj
    simp only [bytesRow]
    rw [Array.getElem?_append_left (by simpa using hj')]
    simp only [Array.getElem?_map]
    rw [Array.getElem?_eq_getElem hj']
    simp
  · unfold World.frozen?
    rw [hh]
    have : ¬ (bytesRow s cap).size ≤ j := by omega
    simp [this]
  · exact ((Array.getElem?_eq_some_iff.1 hh).1)

theorem Arr.set {B g : Nat} {l : List UInt8} {W0 w : World} (h : Arr B g l W0 w) (j : Nat) (hj : j < l.length) (c : UInt8) (n : Int) (hn : n = c.toNat) : Arr B g (l.set j c) W0 (w.setCell ⟨g, j, none⟩ (.int .u8 n)) := by
  subst hn
  refine ⟨fun i hi => ?_, h.2.1.setCell h.2.2.1 _, h.2.2.1, by simpa [World.setCell] using h.2.2.2⟩
  have hi' : i < l.length := by simpa using hi
  rw [World.frozen?_setCell]
  refine ⟨?_, h.free i hi'⟩
  by_cases e : i = j
  · subst e
    rw [World.cell?_setCell_same _ _ _ (h.cell i hi')]
    simp
  · rw [World.cell?_setCell_other _ _ _ _ (by intro e'; injection e' with _ e2; exact e e2.symm), h.cell i hi']
    rw [List.getElem_set_ne (Ne.symm e)]

theorem Arr.convert {B g : Nat} {l : List UInt8} {W0 w : World} (h : Arr B g l W0 w) (cap : Nat) : (convert 48 9 (.slice (some ⟨g, 0, none⟩) l.length cap)).run Tryz.prog w = .ok (.string (str l)) w := by
  have hr := run_convert_bytes_arg (P := Tryz.prog) w 48 5 Tryz.underlying48 Tryz.underlying5 g 0 l.length cap (l.map fun b => (b.toNat : Int)) (by simp) (fun i hi => by
    have h1 := h.cell i hi
    show w.cell? ⟨g, 0 + i, none⟩ = _
    rw [Nat.zero_add, h1]
    simp [List.getD, hi]) 9 Tryz.underlying9
  rw [hr]
  refine congrArg (fun x => Result.ok (Value.string x) w) ?_
  apply ext_list
  rw [strOfNums_data, str_toList, List.map_map]
  conv => rhs; rw [← List.map_id l]
  apply List.map_congr_left
  intro b _
  simp

theorem conv_bytes (w : World) (s : ByteArray) : (convert 9 48 (.string s)).run Tryz.prog w = .ok (.slice (some ⟨w.heap.size, 0, none⟩) s.size (grownCap w s.size 0 5))
      (w.drew.alloc (.cells (bytesRow s (grownCap w s.size 0 5)) 5 ((bytesRow s (grownCap w s.size 0 5)).size, (bytesRow s (grownCap w s.size 0 5)).size + 1))) :=
  run_bytes_of_string w 9 48 5 s Tryz.underlying9 Tryz.underlying48 Tryz.underlying5

/-- []byte(s), as a step of the walk: what has been made has no name but g -/
theorem wpList_bytes {ops : Array Oper} {rest : List Oper} {o : Oper} {a : Act} {Q : Exit → Act → World → Prop} {w : World} (hgd : o.guard = none) (x : Operand) (ho : o.op = .convert 9 48 x) (s : ByteArray) (hx : a.eval x = .string s)
    (h : ∀ (cap : Nat) (w' : World), Arr w.heap.size w.heap.size s.data.toList w w' → wpList Tryz.prog ops Q rest (a.put o.dst (.slice (some ⟨w.heap.size, 0, none⟩) s.size cap)) w') : wpList Tryz.prog ops Q (o :: rest) a w := by
  refine wpList_plain hgd fun K hK' => ?_
  unfold Oper.wp
  simp [execOp, ho, hx, conv_bytes, Result.andThen]
  exact hK' _ _ (h _ _ (Arr.new w s _))
end Go.Proofs.YtjaeheicndfdnaaGreatDoor

/- WALKS of ascii.Lower and of the reference's Small. No statement is proved here. -/
namespace Go.Proofs.YtjaeheicndfdnaaGreatDoor
open Go.RowKit
set_option linter.unusedVariables false
set_option linter.unusedSimpArgs false

/-- a to z in the place of A to Z -/
def lowC (c : UInt8) : UInt8 := if 65 ≤ c ∧ c ≤ 90 then c + 32 else c
def lowL (l : List UInt8) : List UInt8 := l.map lowC
theorem lowC_case (c : UInt8) : (65 ≤ c.toNat ∧ c.toNat ≤ 90 ∧ (lowC c).toNat = c.toNat + 32) ∨ ((c.toNat < 65 ∨ (65 ≤ c.toNat ∧ 90 < c.toNat)) ∧ lowC c = c) :=
  u8_all (p := fun c => (65 ≤ c.toNat ∧ c.toNat ≤ 90 ∧ (lowC c).toNat = c.toNat + 32) ∨ ((c.toNat < 65 ∨ (65 ≤ c.toNat ∧ 90 < c.toNat)) ∧ lowC c = c)) (by decide +kernel) c
theorem lowL_length (l : List UInt8) : (lowL l).length = l.length := by simp [lowL]

/-- the first k of l small, the others as they are -/
def lowAt (l : List UInt8) (k : Nat) : List UInt8 := lowL (l.take k) ++ l.drop k
theorem lowAt_length (l : List UInt8) (k : Nat) : (lowAt l k).length = l.length := by simp [lowAt, lowL]; omega
theorem lowAt_zero (l : List UInt8) : lowAt l 0 = l := by simp [lowAt, lowL]
theorem lowAt_end (l : List UInt8) (k : Nat) (h : l.length ≤ k) : lowAt l k = lowL l := by
  rw [lowAt, List.take_of_length_le h, List.drop_eq_nil_of_le h, List.append_nil]
theorem lowAt_get (l : List UInt8) (k : Nat) (h : k < l.length) (h' : k < (lowAt l k).length) : (lowAt l k)[k] = l[k] := by
  simp [lowAt, lowL, Nat.min_eq_left (Nat.le_of_lt h)]
theorem lowAt_set (l : List UInt8) (k : Nat) (h : k < l.length) : (lowAt l k).set k (lowC l[k]) = lowAt l (k + 1) := by
  have e : (lowL (l.take k)).length = k := by simp [lowL]; omega
  rw [lowAt, List.set_append_right _ _ (by omega), e, Nat.sub_self, List.drop_eq_getElem_cons h, List.set_cons_zero, lowAt]
  rw [List.take_succ_eq_append_getElem h, lowL, lowL, List.map_append, List.append_assoc]
  rfl
theorem lowAt_same (l : List UInt8) (k : Nat) (h : k < l.length) (e : lowC l[k] = l[k]) : lowAt l k = lowAt l (k + 1) := by
  rw [← lowAt_set l k h, e]
  have := lowAt_get l k h (by rw [lowAt_length]; exact h)
  conv => rhs; rw [← this]
  exact (List.set_getElem_self _).symm

set_option maxHeartbeats 1000000 in
theorem lower_any (s : ByteArray) (w : World) (hs : s.size ≤ 70368744177664) :
    Calls Tryz.prog 145 #[.string s] w fun e w' => e = .returned (.string (str (lowL s.data.toList))) ∧ Below w.heap.size w w' := by
  go_enter Tryz.func145, Tryz.ntmps145
  go_wp2_with (refine wpList_bytes rfl _ rfl s rfl ?_; intro cap w0 ha0; have HA0 := hide ha0; clear ha0)
  go_loopw [10] (fun i wr => ∃ k : Nat, k ≤ s.size ∧ i = .int .i64 k ∧ Arr w.heap.size w.heap.size (lowAt s.data.toList k) w wr) (fun i _ => s.size - (intOf i).toNat)
  case atStart => exact ⟨0, Nat.zero_le _, rfl, by rw [lowAt_zero]; exact HA0.out⟩
  case round =>
    obtain ⟨k, hk, rfl, ha⟩ := hrel
    by_cases hlt : k < s.size
    · have hl : k < s.data.toList.length := by rw [toList_length]; exact hlt
      have hl' : k < (lowAt s.data.toList k).length := by rw [lowAt_length]; exact hl
      have hcell := ha.cell k hl'
      have hfree := ha.free k hl'
      rw [lowAt_get _ _ hl hl'] at hcell
      have hset := lowAt_set s.data.toList k hl
      have hcase := lowC_case s.data.toList[k]
      have hsame := lowAt_same s.data.toList k hl
      have HST := fun (c : UInt8) (n : Int) (hn : n = c.toNat) => hide (ha.set k hl' c n hn)
      generalize s.data.toList[k] = c at hcell hset hcase hsame
      have HA := hide ha
      have HSET := hide hset
      clear ha hset
      rcases hcase with ⟨c1, c2, c3⟩ | ⟨c1, c2⟩
      · clear hsame
        go_wp2
        go_roundw
        case rel => exact ⟨k + 1, by omega, by go_num, by rw [← HSET.out]; exact (HST (lowC c) _ (by omega)).out⟩
        case measure => simp [intOf]; omega
      · have HS := hide (hsame c2)
        clear hsame c2
        rcases c1 with c1 | ⟨c0, c1⟩
        all_goals
          go_wp2
          go_roundw
          case rel => exact ⟨k + 1, by omega, by go_num, by rw [← HS.out]; exact HA.out⟩
          case measure => simp [intOf]; omega
    · have hc := ha.convert cap
      rw [lowAt_length, toList_length] at hc
      go_wp2
      go_ret
      exact ⟨ret_str (by rw [lowAt_end _ _ (by rw [toList_length]; omega)]), ha.below⟩

set_option maxHeartbeats 1000000 in
theorem small_any (s : ByteArray) (w : World) (hs : s.size ≤ 70368744177664) :
    Calls Tryz.prog 105 #[.string s] w fun e w' => e = .returned (.string (str (lowL s.data.toList))) ∧ Below w.heap.size w w' := by
  go_enter Tryz.func105, Tryz.ntmps105
  go_wp2_with (refine wpList_bytes rfl _ rfl s rfl ?_; intro cap w0 ha0; have HA0 := hide ha0; clear ha0)
  go_loopw [4] (fun i wr => ∃ k : Nat, k ≤ s.size ∧ i = .int .i64 k ∧ Arr w.heap.size w.heap.size (lowAt s.data.toList k) w wr) (fun i _ => s.size - (intOf i).toNat)
  case atStart => exact ⟨0, Nat.zero_le _, rfl, by rw [lowAt_zero]; exact HA0.out⟩
  case round =>
    obtain ⟨k, hk, rfl, ha⟩ := hrel
    by_cases hlt : k < s.size
    · have hl : k < s.data.toList.length := by rw [toList_length]; exact hlt
      have hl' : k < (lowAt s.data.toList k).length := by rw [lowAt_length]; exact hl
      have hcell := ha.cell k hl'
      have hfree := ha.free k hl'
      rw [lowAt_get _ _ hl hl'] at hcell
      have hset := lowAt_set s.data.toList k hl
      have hcase := lowC_case s.data.toList[k]
      have hsame := lowAt_same s.data.toList k hl
      have HST := fun (c : UInt8) (n : Int) (hn : n = c.toNat) => hide (ha.set k hl' c n hn)
      generalize s.data.toList[k] = c at hcell hset hcase hsame
      have HA := hide ha
      have HSET := hide hset
      clear ha hset
      rcases hcase with ⟨c1, c2, c3⟩ | ⟨c1, c2⟩
      · clear hsame
        go_wp2
        go_roundw
        case rel => exact ⟨k + 1, by omega, by go_num, by rw [← HSET.out]; exact (HST (lowC c) _ (by omega)).out⟩
        case measure => simp [intOf]; omega
      · have HS := hide (hsame c2)
        clear hsame c2
        rcases c1 with c1 | ⟨c0, c1⟩
        all_goals
          go_wp2
          go_roundw
          case rel => exact ⟨k + 1, by omega, by go_num, by rw [← HS.out]; exact HA.out⟩
          case measure => simp [intOf]; omega
    · have hc := ha.convert cap
      rw [lowAt_length, toList_length] at hc
      go_wp2
      go_ret
      exact ⟨ret_str (by rw [lowAt_end _ _ (by rw [toList_length]; omega)]), ha.below⟩
end Go.Proofs.YtjaeheicndfdnaaGreatDoor

/- What package pct computes, as functions on lists of bytes, and facts on them. No statement is proved here. -/
namespace Go.Proofs.YtjaeheicndfdnaaGreatDoor
set_option linter.unusedVariables false
set_option linter.unusedSimpArgs false
set_option maxRecDepth 100000

/-- a byte that stays -/
def stayB (c : UInt8) : Bool := (97 ≤ c && c ≤ 122) || (65 ≤ c && c ≤ 90) || (48 ≤ c && c ≤ 57) || c == 45 || c == 46 || c == 95 || c == 126
def pSign (c : UInt8) : List UInt8 := if stayB c then [c] else [37, hexHi c, hexLo c]
def penc (l : List UInt8) : List UInt8 := l.flatMap pSign
/-- the byte that c, with r behind it, tells; how many bytes tell it -/
def pStep (c : UInt8) (r : List UInt8) : UInt8 × Nat := if c = 37 then (hex2 r).elim (c, 1) (fun b => (b, 3)) else (c, 1)
def pdec (l : List UInt8) : List UInt8 :=
  match l with
  | [] => []
  | c :: r => (pStep c r).1 :: pdec (r.drop ((pStep c r).2 - 1))
termination_by l.length
decreasing_by simp; omega

theorem pdec_nil : pdec [] = [] := by rw [pdec]
theorem pdec_cons (c : UInt8) (r : List UInt8) : pdec (c :: r) = (pStep c r).1 :: pdec (r.drop ((pStep c r).2 - 1)) := by rw [pdec]
theorem pStep_cases (c : UInt8) (r : List UInt8) : (c = 37 ∧ ∃ b, hex2 r = some b ∧ pStep c r = (b, 3) ∧ 2 ≤ r.length) ∨ ((c ≠ 37 ∨ hex2 r = none) ∧ pStep c r = (c, 1)) := by
  unfold pStep
  by_cases h : c = 37
  · rw [if_pos h]
    cases hx : hex2 r with
    | none => exact .inr ⟨.inr rfl, rfl⟩
    | some b => exact .inl ⟨h, b, rfl, rfl, hex2_len hx⟩
  · rw [if_neg h]; exact .inr ⟨.inl h, rfl⟩
theorem pStep_le (c : UInt8) (r : List UInt8) : 1 ≤ (pStep c r).2 ∧ (pStep c r).2 ≤ 3 ∧ (pStep c r).2 ≤ r.length + 1 := by
  rcases pStep_cases c r with ⟨_, b, _, h, hl⟩ | ⟨_, h⟩
  · rw [h]; simp; omega
  · rw [h]; simp
theorem pdec_length (l : List UInt8) : (pdec l).length ≤ l.length ∧ l.length ≤ 3 * (pdec l).length := by
  suffices H : ∀ n, ∀ l : List UInt8, l.length ≤ n → (pdec l).length ≤ l.length ∧ l.length ≤ 3 * (pdec l).length from H _ l (Nat.le_refl _)
  intro n
  induction n with
  | zero => intro l hl; have : l = [] := List.eq_nil_of_length_eq_zero (by omega); subst this; simp [pdec_nil]
  | succ n ih =>
    intro l hl
    match l, hl with
    | [], _ => simp [pdec_nil]
    | c :: r, hl =>
      have h := pStep_le c r
      rw [List.length_cons] at hl
      have := ih (r.drop ((pStep c r).2 - 1)) (by rw [List.length_drop]; omega)
      rw [List.length_drop] at this
      rw [pdec_cons, List.length_cons, List.length_cons]
      omega

theorem pSign_length (c : UInt8) : 1 ≤ (pSign c).length ∧ (pSign c).length ≤ 3 := by unfold pSign; split <;> simp
theorem penc_nil : penc [] = [] := rfl
theorem penc_cons (c : UInt8) (l : List UInt8) : penc (c :: l) = pSign c ++ penc l := rfl
theorem penc_append (a b : List UInt8) : penc (a ++ b) = penc a ++ penc b := by simp [penc]
theorem penc_length (l : List UInt8) : l.length ≤ (penc l).length ∧ (penc l).length ≤ 3 * l.length := by
  induction l with
  | nil => simp [penc_nil]
  | cons c l ih =>
    have := pSign_length c
    rw [penc_cons, List.length_append, List.length_cons]; omega
theorem stay_ne (c : UInt8) (h : stayB c = true) : c ≠ 37 :=
  u8_all (p := fun c => stayB c = true → c ≠ 37) (by decide +kernel) c h
theorem pdec_sign (c : UInt8) (t : List UInt8) : pdec (pSign c ++ t) = c :: pdec t := by
  unfold pSign
  by_cases h : stayB c = true
  · rw [if_pos h]
    show pdec (c :: t) = _
    rw [pdec_cons, pStep, if_neg (stay_ne c h)]; rfl
  · rw [if_neg h]
    show pdec (37 :: hexHi c :: hexLo c :: t) = _
    have hf := hex_facts c
    rw [pdec_cons, pStep, if_pos rfl, hex2, if_pos ⟨hf.1, hf.2.1⟩, hf.2.2.1]; rfl
theorem pdec_penc (l : List UInt8) : pdec (penc l) = l := by
  induction l with
  | nil => exact pdec_nil
  | cons c l ih => rw [penc_cons, pdec_sign, ih]

theorem hex2_app {r b : List UInt8} (h : 2 ≤ r.length) : hex2 (r ++ b) = hex2 r := by
  match r, h with
  | _ :: _ :: _, _ => rfl
theorem pdec_append (a b : List UInt8) (h : ∀ x ∈ a.drop (a.length - 2), x ≠ 37) : pdec (a ++ b) = pdec a ++ pdec b := by
  suffices H : ∀ n, ∀ a : List UInt8, a.length ≤ n → (∀ x ∈ a.drop (a.length - 2), x ≠ 37) → pdec (a ++ b) = pdec a ++ pdec b from H _ a (Nat.le_refl _) h
  intro n
  induction n with
  | zero => intro l hl _; have : l = [] := List.eq_nil_of_length_eq_zero (by omega); subst this; simp [pdec_nil]
  | succ n ih =>
    intro l hl hx
    match l, hl, hx with
    | [], _, _ => simp [pdec_nil]
    | c :: r, hl, hx =>
      rw [List.length_cons] at hl
      have hr : ∀ k, k ≤ r.length → ∀ x ∈ (r.drop k).drop ((r.drop k).length - 2), x ≠ 37 := by
        intro k hk x hm
        refine hx x ?_
        rw [List.drop_drop, List.length_drop] at hm
        have hsub : ∀ m n : Nat, n ≤ m → ∀ y ∈ (c :: r).drop m, y ∈ (c :: r).drop n := fun m n hmn y hy => by
          have : (c :: r).drop m = ((c :: r).drop n).drop (m - n) := by rw [List.drop_drop]; congr 1; omega
          rw [this] at hy
          exact List.mem_of_mem_drop hy
        refine hsub (k + (r.length - k - 2) + 1) _ ?_ x hm
        rw [List.length_cons]; omega
      rw [List.cons_append, pdec_cons, pdec_cons]
      have hst : pStep c (r ++ b) = pStep c r := by
        unfold pStep
        by_cases h37 : c = 37
        · rw [if_pos h37, if_pos h37]
          have : 2 ≤ r.length := by
            rcases Nat.lt_or_ge r.length 2 with h2 | h2
            · exfalso
              refine hx c ?_ h37
              rw [List.length_cons, show r.length + 1 - 2 = 0 from by omega]
              simp
            · exact h2
          rw [hex2_app this]
        · rw [if_neg h37, if_neg h37]
      rw [hst]
      have hle := pStep_le c r
      rw [List.drop_append_of_le_length (by omega)]
      rw [ih (r.drop ((pStep c r).2 - 1)) (by rw [List.length_drop]; omega) (hr _ (by omega))]
      rfl

/-- a round of a reader -/
theorem pdec_round {T acc : List UInt8} {c : UInt8} {r L : List UInt8} (h : acc ++ pdec L = T) (hc : L = c :: r) : (acc ++ [(pStep c r).1]) ++ pdec (L.drop (pStep c r).2) = T := by
  subst hc
  rw [← h, pdec_cons, List.append_assoc]
  have hle := pStep_le c r
  obtain ⟨n, hn⟩ : ∃ n, (pStep c r).2 = n + 1 := ⟨(pStep c r).2 - 1, by omega⟩
  rw [hn, List.drop_succ_cons, Nat.add_sub_cancel]; rfl

/-! ### what stands ahead of a byte, and behind it -/
def beforeC (c : UInt8) (l : List UInt8) : List UInt8 := l.takeWhile fun x => x != c
def hasC (c : UInt8) (l : List UInt8) : Bool := decide (c ∈ l)
theorem hasC_true {c : UInt8} {l : List UInt8} (h : c ∈ l) : hasC c l = true := decide_eq_true h
theorem hasC_false {c : UInt8} {l : List UInt8} (h : c ∉ l) : hasC c l = false := decide_eq_false h
def afterC (c : UInt8) (l : List UInt8) : List UInt8 := (l.dropWhile fun x => x != c).drop 1
theorem cut_none (c : UInt8) (l : List UInt8) (h : c ∉ l) : beforeC c l = l ∧ afterC c l = [] := by
  induction l with
  | nil => exact ⟨rfl, rfl⟩
  | cons a l ih =>
    have h1 : (a != c) = true := by
      rw [bne_iff_ne]; rintro rfl; exact h (List.mem_cons_self ..)
    have h2 := ih (fun hm => h (List.mem_cons_of_mem _ hm))
    unfold beforeC afterC at h2 ⊢
    rw [List.takeWhile_cons, List.dropWhile_cons, h1]
    simp [h2]
theorem cut_at (c : UInt8) (l : List UInt8) (o : Nat) (ho : o < l.length) (h : l[o] = c) (hb : ∀ j (hj : j < o), l[j]'(Nat.lt_trans hj ho) ≠ c) : c ∈ l ∧ beforeC c l = l.take o ∧ afterC c l = l.drop (o + 1) := by
  refine ⟨h ▸ List.getElem_mem ho, ?_⟩
  induction o generalizing l with
  | zero =>
    match l, ho, h with
    | a :: l, _, h =>
      have : (a != c) = false := by rw [bne_eq_false_iff_eq]; exact h
      unfold beforeC afterC
      rw [List.takeWhile_cons, List.dropWhile_cons, this]
      simp
  | succ o ih =>
    match l, ho, h, hb with
    | a :: l, ho, h, hb =>
      have h1 : (a != c) = true := by rw [bne_iff_ne]; exact hb 0 (by omega)
      have := ih l (by simpa using ho) (by simpa using h) (fun j hj => by simpa using hb (j + 1) (by omega))
      unfold beforeC afterC at this ⊢
      rw [List.takeWhile_cons, List.dropWhile_cons, h1]
      simp [this]

/-- the alphabet and the bytes of a value -/
def pExt (l : List UInt8) : Option (List UInt8 × List UInt8) :=
  if hasC 39 (afterC 39 l) then some (lowL (beforeC 39 l), pdec (afterC 39 (afterC 39 l))) else none
/-- what Extended answers -/
def extV : Option (List UInt8 × List UInt8) → Value
  | some (a, b) => .tuple #[.string (str a), .string (str b), .bool true]
  | none => .tuple #[.string ⟨#[]⟩, .string ⟨#[]⟩, .bool false]
end Go.Proofs.YtjaeheicndfdnaaGreatDoor

/- WALKS of the reference's Letter and Digit. No statement is proved here. -/
namespace Go.Proofs.YtjaeheicndfdnaaGreatDoor
open Go.RowKit
set_option linter.unusedVariables false
set_option linter.unusedSimpArgs false

def letterB (c : UInt8) : Bool := (97 ≤ c && c ≤ 122) || (65 ≤ c && c ≤ 90)
def digitB (c : UInt8) : Bool := 48 ≤ c && c ≤ 57
theorem letter_case (c : UInt8) : (97 ≤ c.toNat ∧ c.toNat ≤ 122 ∧ letterB c = true) ∨ (c.toNat < 97 ∧ 65 ≤ c.toNat ∧ c.toNat ≤ 90 ∧ letterB c = true) ∨ (97 ≤ c.toNat ∧ 122 < c.toNat ∧ letterB c = false) ∨ (c.toNat < 97 ∧ 65 ≤ c.toNat ∧ 90 < c.toNat ∧ letterB c = false) ∨ (c.toNat < 97 ∧ c.toNat < 65 ∧ letterB c = false) :=
  u8_all (p := fun c => (97 ≤ c.toNat ∧ c.toNat ≤ 122 ∧ letterB c = true) ∨ (c.toNat < 97 ∧ 65 ≤ c.toNat ∧ c.toNat ≤ 90 ∧ letterB c = true) ∨ (97 ≤ c.toNat ∧ 122 < c.toNat ∧ letterB c = false) ∨ (c.toNat < 97 ∧ 65 ≤ c.toNat ∧ 90 < c.toNat ∧ letterB c = false) ∨ (c.toNat < 97 ∧ c.toNat < 65 ∧ letterB c = false)) (by decide +kernel) c
theorem digit_case (c : UInt8) : (48 ≤ c.toNat ∧ c.toNat ≤ 57 ∧ digitB c = true) ∨ (c.toNat < 48 ∧ digitB c = false) ∨ (48 ≤ c.toNat ∧ 57 < c.toNat ∧ digitB c = false) :=
  u8_all (p := fun c => (48 ≤ c.toNat ∧ c.toNat ≤ 57 ∧ digitB c = true) ∨ (c.toNat < 48 ∧ digitB c = false) ∨ (48 ≤ c.toNat ∧ 57 < c.toNat ∧ digitB c = false)) (by decide +kernel) c

theorem letter_any (c : UInt8) (w : World) :
    Calls Tryz.prog 124 #[.int .u8 c.toNat] w fun e w' => e = .returned (.bool (letterB c)) ∧ w = w' := by
  have hc := byte_lt c
  rcases letter_case c with ⟨c1, c2, e⟩ | ⟨c1, c2, c3, e⟩ | ⟨c1, c2, e⟩ | ⟨c1, c2, c3, e⟩ | ⟨c1, c2, e⟩
  all_goals
    rw [e]; clear e
    go_enter Tryz.func124, Tryz.ntmps124
    go_wp2
    go_ret
    exact ⟨ret_bool (by first | rfl | (simp; omega)), rfl⟩
theorem digit03_any (c : UInt8) (w : World) :
    Calls Tryz.prog 129 #[.int .u8 c.toNat] w fun e w' => e = .returned (.bool (digitB c)) ∧ w = w' := by
  have hc := byte_lt c
  rcases digit_case c with ⟨c1, c2, e⟩ | ⟨c1, e⟩ | ⟨c1, c2, e⟩
  all_goals
    rw [e]; clear e
    go_enter Tryz.func129, Tryz.ntmps129
    go_wp2
    go_ret
    exact ⟨ret_bool (by first | rfl | (simp; omega)), rfl⟩

end Go.Proofs.YtjaeheicndfdnaaGreatDoor

/- White, as chapters 4 and 17 have it. No statement is proved here. -/
namespace Go.Proofs.YtjaeheicndfdnaaGreatDoor
def whiteSet : List UInt8 := [32, 9, 10, 12, 13]
end Go.Proofs.YtjaeheicndfdnaaGreatDoor

/- What package chars computes, as functions on lists of bytes, and facts on them. No statement is proved here. -/
namespace Go.Proofs.YtjaeheicndfdnaaGreatDoor
set_option linter.unusedVariables false
set_option linter.unusedSimpArgs false

/-- a number's sign, as UTF-8 -/
def runeL (r : Int) : List UInt8 := Lib.encodeRune r
def bad : List UInt8 := [239, 191, 189]
theorem runeL_cases (r : Int) : ∃ n : Nat, ((n < 128 ∧ runeL r = [UInt8.ofNat n]) ∨ (128 ≤ n ∧ n ≤ 2047 ∧ runeL r = [UInt8.ofNat (192 + n / 64), UInt8.ofNat (128 + n % 64)]) ∨
    (2048 ≤ n ∧ n ≤ 65535 ∧ ¬ (55296 ≤ n ∧ n ≤ 57343) ∧ runeL r = [UInt8.ofNat (224 + n / 4096), UInt8.ofNat (128 + n / 64 % 64), UInt8.ofNat (128 + n % 64)]) ∨
    (65536 ≤ n ∧ n ≤ 1114111 ∧ runeL r = [UInt8.ofNat (240 + n / 262144), UInt8.ofNat (128 + n / 4096 % 64), UInt8.ofNat (128 + n / 64 % 64), UInt8.ofNat (128 + n % 64)])) ∧ (r = n ∨ (n = 65533 ∧ (r < 0 ∨ (55296 ≤ r ∧ r ≤ 57343) ∨ 1114111 < r))) := by
  by_cases h : r < 0 ∨ (55296 ≤ r ∧ r ≤ 57343) ∨ 1114111 < r
  · refine ⟨65533, .inr (.inr (.inl ⟨by omega, by omega, by omega, ?_⟩)), .inr ⟨rfl, h⟩⟩
    unfold runeL Lib.encodeRune
    rw [Lib.encodeRuneZ_bad h]; rfl
  · obtain ⟨n, rfl⟩ : ∃ n : Nat, r = n := ⟨r.toNat, by omega⟩
    refine ⟨n, ?_, .inl rfl⟩
    have hn : ∀ m : Nat, (m : Int).toNat.toUInt8 = UInt8.ofNat m := fun m => by rw [Int.toNat_natCast]
    unfold runeL Lib.encodeRune
    by_cases h1 : n < 128
    · rw [Lib.encodeRuneZ_one (by omega) (by omega)]
      exact .inl ⟨h1, by simp only [List.map_cons, List.map_nil, hn]⟩
    · by_cases h2 : n ≤ 2047
      · rw [Lib.encodeRuneZ_two (by omega) (by omega)]
        refine .inr (.inl ⟨by omega, h2, ?_⟩)
        simp only [List.map_cons, List.map_nil]
        rw [show (192 + (n : Int) / 64) = ((192 + n / 64 : Nat) : Int) from by omega, show (128 + (n : Int) % 64) = ((128 + n % 64 : Nat) : Int) from by omega, hn, hn]
      · by_cases h3 : n ≤ 65535
        · rw [Lib.encodeRuneZ_three (by omega)]
          refine .inr (.inr (.inl ⟨by omega, h3, by omega, ?_⟩))
          simp only [List.map_cons, List.map_nil]
          rw [show (224 + (n : Int) / 4096) = ((224 + n / 4096 : Nat) : Int) from by omega, show (128 + (n : Int) / 64 % 64) = ((128 + n / 64 % 64 : Nat) : Int) from by omega, show (128 + (n : Int) % 64) = ((128 + n % 64 : Nat) : Int) from by omega, hn, hn, hn]
        · rw [Lib.encodeRuneZ_four (by omega) (by omega)]
          refine .inr (.inr (.inr ⟨by omega, by omega, ?_⟩))
          simp only [List.map_cons, List.map_nil]
          rw [show (240 + (n : Int) / 262144) = ((240 + n / 262144 : Nat) : Int) from by omega, show (128 + (n : Int) / 4096 % 64) = ((128 + n / 4096 % 64 : Nat) : Int) from by omega, show (128 + (n : Int) / 64 % 64) = ((128 + n / 64 % 64 : Nat) : Int) from by omega, show (128 + (n : Int) % 64) = ((128 + n % 64 : Nat) : Int) from by omega, hn, hn, hn, hn]
theorem runeL_bad {r : Int} (h : r < 0 ∨ (55296 ≤ r ∧ r ≤ 57343) ∨ 1114111 < r) : runeL r = bad := by
  unfold runeL Lib.encodeRune; rw [Lib.encodeRuneZ_bad h]; rfl
theorem runeL_bad' : runeL 65533 = bad := by decide +kernel
theorem runeL_length (r : Int) : 1 ≤ (runeL r).length ∧ (runeL r).length ≤ 4 ∧ (r ≤ 65535 → (runeL r).length ≤ 3) := by
  obtain ⟨n, h, hr⟩ := runeL_cases r
  rcases h with ⟨_, e⟩ | ⟨_, _, e⟩ | ⟨_, _, _, e⟩ | ⟨h1, _, e⟩
  all_goals rw [e]; simp
  omega

def contB (c : UInt8) : Bool := decide (128 ≤ c.toNat) && decide (c.toNat ≤ 191)
def wh2 (a : Nat) : List UInt8 → Nat
  | b :: _ => if contB b = true ∧ 128 ≤ 64 * (a - 192) + (b.toNat - 128) then 2 else 0
  | _ => 0
def wh3 (a : Nat) : List UInt8 → Nat
  | b :: c :: _ => if contB b = true ∧ contB c = true ∧ 2048 ≤ 64 * (64 * (a - 224) + (b.toNat - 128)) + (c.toNat - 128) ∧ ¬ (55296 ≤ 64 * (64 * (a - 224) + (b.toNat - 128)) + (c.toNat - 128) ∧ 64 * (64 * (a - 224) + (b.toNat - 128)) + (c.toNat - 128) ≤ 57343) then 3 else 0
  | _ => 0
def wh4 (a : Nat) : List UInt8 → Nat
  | b :: c :: d :: _ => if contB b = true ∧ contB c = true ∧ contB d = true ∧ 65536 ≤ 64 * (64 * (64 * (a - 240) + (b.toNat - 128)) + (c.toNat - 128)) + (d.toNat - 128) ∧ 64 * (64 * (64 * (a - 240) + (b.toNat - 128)) + (c.toNat - 128)) + (d.toNat - 128) ≤ 1114111 then 4 else 0
  | _ => 0
/-- how many bytes the whole sequence has that is ahead; 0: none is -/
def wholeN : List UInt8 → Nat
  | [] => 0
  | a :: r => if a.toNat < 128 then 1 else if a.toNat < 192 then 0 else if a.toNat < 224 then wh2 a.toNat r else if a.toNat < 240 then wh3 a.toNat r else if a.toNat < 248 then wh4 a.toNat r else 0

theorem w1 {a : UInt8} {r : List UInt8} (h : a.toNat < 128) : wholeN (a :: r) = 1 := by rw [wholeN, if_pos h]
theorem w0 {a : UInt8} {r : List UInt8} (h : 128 ≤ a.toNat) (h' : a.toNat < 192 ∨ 248 ≤ a.toNat) : wholeN (a :: r) = 0 := by
  rw [wholeN, if_neg (by omega)]
  by_cases h2 : a.toNat < 192
  · rw [if_pos h2]
  · rw [if_neg h2, if_neg (by omega), if_neg (by omega), if_neg (by omega)]
theorem wN2 {a : UInt8} {r : List UInt8} (h : 192 ≤ a.toNat) (h' : a.toNat < 224) : wholeN (a :: r) = wh2 a.toNat r := by
  rw [wholeN, if_neg (by omega), if_neg (by omega), if_pos h']
theorem wN3 {a : UInt8} {r : List UInt8} (h : 224 ≤ a.toNat) (h' : a.toNat < 240) : wholeN (a :: r) = wh3 a.toNat r := by
  rw [wholeN, if_neg (by omega), if_neg (by omega), if_neg (by omega), if_pos h']
theorem wN4 {a : UInt8} {r : List UInt8} (h : 240 ≤ a.toNat) (h' : a.toNat < 248) : wholeN (a :: r) = wh4 a.toNat r := by
  rw [wholeN, if_neg (by omega), if_neg (by omega), if_neg (by omega), if_neg (by omega), if_pos h']
theorem w2 {a b : UInt8} {r : List UInt8} (h : 192 ≤ a.toNat) (h' : a.toNat < 224) : wholeN (a :: b :: r) = if contB b = true ∧ 128 ≤ 64 * (a.toNat - 192) + (b.toNat - 128) then 2 else 0 := wN2 h h'
theorem w2' {a : UInt8} (h : 192 ≤ a.toNat) (h' : a.toNat < 224) : wholeN [a] = 0 := wN2 h h'
theorem w3 {a b c : UInt8} {r : List UInt8} (h : 224 ≤ a.toNat) (h' : a.toNat < 240) : wholeN (a :: b :: c :: r) = if contB b = true ∧ contB c = true ∧ 2048 ≤ 64 * (64 * (a.toNat - 224) + (b.toNat - 128)) + (c.toNat - 128) ∧ ¬ (55296 ≤ 64 * (64 * (a.toNat - 224) + (b.toNat - 128)) + (c.toNat - 128) ∧ 64 * (64 * (a.toNat - 224) + (b.toNat - 128)) + (c.toNat - 128) ≤ 57343) then 3 else 0 := wN3 h h'
theorem w3' {a : UInt8} {r : List UInt8} (h : 224 ≤ a.toNat) (h' : a.toNat < 240) (hr : r.length < 2) : wholeN (a :: r) = 0 := by
  match r, hr with
  | [], _ => exact wN3 h h'
  | [_], _ => exact wN3 h h'
theorem w4 {a b c d : UInt8} {r : List UInt8} (h : 240 ≤ a.toNat) (h' : a.toNat < 248) : wholeN (a :: b :: c :: d :: r) = if contB b = true ∧ contB c = true ∧ contB d = true ∧ 65536 ≤ 64 * (64 * (64 * (a.toNat - 240) + (b.toNat - 128)) + (c.toNat - 128)) + (d.toNat - 128) ∧ 64 * (64 * (64 * (a.toNat - 240) + (b.toNat - 128)) + (c.toNat - 128)) + (d.toNat - 128) ≤ 1114111 then 4 else 0 := wN4 h h'
theorem w4' {a : UInt8} {r : List UInt8} (h : 240 ≤ a.toNat) (h' : a.toNat < 248) (hr : r.length < 3) : wholeN (a :: r) = 0 := by
  match r, hr with
  | [], _ => exact wN4 h h'
  | [_], _ => exact wN4 h h'
  | [_, _], _ => exact wN4 h h'
theorem contB_iff (c : UInt8) : contB c = true ↔ 128 ≤ c.toNat ∧ c.toNat ≤ 191 := by simp [contB]

/-- the ways in which a sequence may be whole -/
theorem whole_cases (l : List UInt8) : wholeN l = 0 ∨ (∃ a r, l = a :: r ∧ a.toNat < 128 ∧ wholeN l = 1) ∨
    (∃ a b r, l = a :: b :: r ∧ 192 ≤ a.toNat ∧ a.toNat < 224 ∧ contB b = true ∧ 128 ≤ 64 * (a.toNat - 192) + (b.toNat - 128) ∧ wholeN l = 2) ∨
    (∃ a b c r, l = a :: b :: c :: r ∧ 224 ≤ a.toNat ∧ a.toNat < 240 ∧ contB b = true ∧ contB c = true ∧ 2048 ≤ 64 * (64 * (a.toNat - 224) + (b.toNat - 128)) + (c.toNat - 128) ∧ ¬ (55296 ≤ 64 * (64 * (a.toNat - 224) + (b.toNat - 128)) + (c.toNat - 128) ∧ 64 * (64 * (a.toNat - 224) + (b.toNat - 128)) + (c.toNat - 128) ≤ 57343) ∧ wholeN l = 3) ∨
    (∃ a b c d r, l = a :: b :: c :: d :: r ∧ 240 ≤ a.toNat ∧ a.toNat < 248 ∧ contB b = true ∧ contB c = true ∧ contB d = true ∧ 65536 ≤ 64 * (64 * (64 * (a.toNat - 240) + (b.toNat - 128)) + (c.toNat - 128)) + (d.toNat - 128) ∧ 64 * (64 * (64 * (a.toNat - 240) + (b.toNat - 128)) + (c.toNat - 128)) + (d.toNat - 128) ≤ 1114111 ∧ wholeN l = 4) := by
  match l with
  | [] => exact .inl rfl
  | a :: r =>
    by_cases h1 : a.toNat < 128
    · exact .inr (.inl ⟨a, r, rfl, h1, w1 h1⟩)
    by_cases h2 : a.toNat < 192
    · exact .inl (w0 (by omega) (.inl h2))
    by_cases h3 : a.toNat < 224
    · match r with
      | [] => exact .inl (w2' (by omega) h3)
      | b :: r =>
        have e := w2 (b := b) (r := r) (by omega) h3
        by_cases hc : contB b = true ∧ 128 ≤ 64 * (a.toNat - 192) + (b.toNat - 128)
        · rw [if_pos hc] at e
          exact .inr (.inr (.inl ⟨a, b, r, rfl, by omega, h3, hc.1, hc.2, e⟩))
        · rw [if_neg hc] at e; exact .inl e
    by_cases h4 : a.toNat < 240
    · match r with
      | [] => exact .inl (w3' (by omega) h4 (by simp))
      | [_] => exact .inl (w3' (by omega) h4 (by simp))
      | b :: c :: r =>
        have e := w3 (b := b) (c := c) (r := r) (by omega) h4
        split at e
        · rename_i hc
          exact .inr (.inr (.inr (.inl ⟨a, b, c, r, rfl, by omega, h4, hc.1, hc.2.1, hc.2.2.1, hc.2.2.2, e⟩)))
        · exact .inl e
    by_cases h5 : a.toNat < 248
    · match r with
      | [] => exact .inl (w4' (by omega) h5 (by simp))
      | [_] => exact .inl (w4' (by omega) h5 (by simp))
      | [_, _] => exact .inl (w4' (by omega) h5 (by simp))
      | b :: c :: d :: r =>
        have e := w4 (b := b) (c := c) (d := d) (r := r) (by omega) h5
        split at e
        · rename_i hc
          exact .inr (.inr (.inr (.inr ⟨a, b, c, d, r, rfl, by omega, h5, hc.1, hc.2.1, hc.2.2.1, hc.2.2.2.1, hc.2.2.2.2, e⟩)))
        · exact .inl e
    · exact .inl (w0 (by omega) (.inr (by omega)))
theorem wholeN_le (l : List UInt8) : wholeN l ≤ l.length ∧ wholeN l ≤ 4 := by
  rcases whole_cases l with e | ⟨a, r, rfl, _, e⟩ | ⟨a, b, r, rfl, _, _, _, _, e⟩ | ⟨a, b, c, r, rfl, _, _, _, _, _, _, e⟩ | ⟨a, b, c, d, r, rfl, _, _, _, _, _, _, _, e⟩
  all_goals rw [e]; simp
/-- whether a sequence is whole hangs on its own bytes -/
theorem whole_local (l t : List UInt8) (h : 0 < wholeN l) : wholeN (l.take (wholeN l) ++ t) = wholeN l := by
  rcases whole_cases l with e | ⟨a, r, rfl, h1, e⟩ | ⟨a, b, r, rfl, h1, h2, h3, h4, e⟩ | ⟨a, b, c, r, rfl, h1, h2, h3, h4, h5, h6, e⟩ | ⟨a, b, c, d, r, rfl, h1, h2, h3, h4, h5, h6, h7, e⟩
  · omega
  · rw [e]; exact w1 h1
  · rw [e]
    show wholeN (a :: b :: t) = 2
    rw [w2 h1 h2, if_pos ⟨h3, h4⟩]
  · rw [e]
    show wholeN (a :: b :: c :: t) = 3
    rw [w3 h1 h2, if_pos ⟨h3, h4, h5, h6⟩]
  · rw [e]
    show wholeN (a :: b :: c :: d :: t) = 4
    rw [w4 h1 h2, if_pos ⟨h3, h4, h5, h6, h7⟩]
theorem u8n {n : Nat} (h : n < 256) : (UInt8.ofNat n).toNat = n := by rw [UInt8.toNat_ofNat', Nat.mod_eq_of_lt h]
theorem u8b {n : Nat} {c : UInt8} (h : n = c.toNat) : UInt8.ofNat n = c := by subst h; exact UInt8.ofNat_toNat
/-- a sign is whole -/
theorem whole_rune (r : Int) (t : List UInt8) : wholeN (runeL r ++ t) = (runeL r).length := by
  obtain ⟨n, h, _⟩ := runeL_cases r
  rcases h with ⟨h1, e⟩ | ⟨h1, h2, e⟩ | ⟨h1, h2, h3, e⟩ | ⟨h1, h2, e⟩
  · rw [e]
    exact w1 (by rw [u8n (by omega)]; exact h1)
  · rw [e]
    show wholeN (_ :: _ :: t) = 2
    have e1 := u8n (n := 192 + n / 64) (by omega)
    have e2 := u8n (n := 128 + n % 64) (by omega)
    rw [w2 (by rw [e1]; omega) (by rw [e1]; omega), if_pos ⟨(contB_iff _).2 (by rw [e2]; omega), by rw [e1, e2]; omega⟩]
  · rw [e]
    show wholeN (_ :: _ :: _ :: t) = 3
    have e1 := u8n (n := 224 + n / 4096) (by omega)
    have e2 := u8n (n := 128 + n / 64 % 64) (by omega)
    have e3 := u8n (n := 128 + n % 64) (by omega)
    rw [w3 (by rw [e1]; omega) (by rw [e1]; omega), if_pos ⟨(contB_iff _).2 (by rw [e2]; omega), (contB_iff _).2 (by rw [e3]; omega), by rw [e1, e2, e3]; omega, by rw [e1, e2, e3]; omega⟩]
  · rw [e]
    show wholeN (_ :: _ :: _ :: _ :: t) = 4
    have e1 := u8n (n := 240 + n / 262144) (by omega)
    have e2 := u8n (n := 128 + n / 4096 % 64) (by omega)
    have e3 := u8n (n := 128 + n / 64 % 64) (by omega)
    have e4 := u8n (n := 128 + n % 64) (by omega)
    rw [w4 (by rw [e1]; omega) (by rw [e1]; omega), if_pos ⟨(contB_iff _).2 (by rw [e2]; omega), (contB_iff _).2 (by rw [e3]; omega), (contB_iff _).2 (by rw [e4]; omega), by rw [e1, e2, e3, e4]; omega, by rw [e1, e2, e3, e4]; omega⟩]

/-! ### Go's own reading of a text, rune by rune -/
def dec4 (b0 : Nat) (c1 : Bool) (x1 : Nat) (c2 : Bool) (x2 : Nat) (c3 : Bool) (x3 : Nat) : Nat × Nat :=
  if b0 < 0x80 then (b0, 1)
  else if b0 / 32 == 6 && c1 then
    if (b0 % 32) * 64 + x1 % 64 ≥ 0x80 then ((b0 % 32) * 64 + x1 % 64, 2) else (Utf8.runeError, 1)
  else if b0 / 16 == 14 && c1 && c2 then
    if (b0 % 16) * 4096 + (x1 % 64) * 64 + x2 % 64 ≥ 0x800 && Utf8.valid ((b0 % 16) * 4096 + (x1 % 64) * 64 + x2 % 64 : Nat) then ((b0 % 16) * 4096 + (x1 % 64) * 64 + x2 % 64, 3) else (Utf8.runeError, 1)
  else if b0 / 8 == 30 && c1 && c2 && c3 then
    if (b0 % 8) * 262144 + (x1 % 64) * 4096 + (x2 % 64) * 64 + x3 % 64 ≥ 0x10000 && Utf8.valid ((b0 % 8) * 262144 + (x1 % 64) * 4096 + (x2 % 64) * 64 + x3 % 64 : Nat) then ((b0 % 8) * 262144 + (x1 % 64) * 4096 + (x2 % 64) * 64 + x3 % 64, 4) else (Utf8.runeError, 1)
  else (Utf8.runeError, 1)
theorem decode_dec4 (s : ByteArray) (i : Nat) : Utf8.decode s i = dec4 (s.get! (i + 0)).toNat (i + 1 < s.size && (s.get! (i + 1)).toNat / 64 == 2) (s.get! (i + 1)).toNat (i + 2 < s.size && (s.get! (i + 2)).toNat / 64 == 2) (s.get! (i + 2)).toNat (i + 3 < s.size && (s.get! (i + 3)).toNat / 64 == 2) (s.get! (i + 3)).toNat := rfl
theorem valid_iff (n : Nat) : Utf8.valid (n : Int) = true ↔ n < 55296 ∨ (57344 ≤ n ∧ n ≤ 1114111) := by
  unfold Utf8.valid
  simp only [Bool.or_eq_true, Bool.and_eq_true, decide_eq_true_eq]
  omega

/-- what is ahead: whole, or a byte that belongs to nothing -/
def vStep (l : List UInt8) : List UInt8 × Nat := if wholeN l = 0 then (bad, 1) else (l.take (wholeN l), wholeN l)
theorem get_drop (s : ByteArray) (i k : Nat) (h : i + k < s.size) : s.get! (i + k) = (s.data.toList.drop i)[k]'(by rw [List.length_drop, toList_length]; omega) := by
  rw [List.getElem_drop]
  simp [ByteArray.get!, getElem!_pos, h]
theorem runeL_one {n : Nat} (h : n < 128) : runeL n = [UInt8.ofNat n] := by
  obtain ⟨m, hm, e⟩ := runeL_cases n
  have : m = n := by rcases e with e | ⟨_, e⟩ <;> omega
  subst this
  rcases hm with ⟨_, e⟩ | ⟨_, _, e⟩ | ⟨_, _, _, e⟩ | ⟨_, _, e⟩
  · exact e
  all_goals omega
theorem runeL_two {n : Nat} (h : 128 ≤ n) (h' : n ≤ 2047) : runeL n = [UInt8.ofNat (192 + n / 64), UInt8.ofNat (128 + n % 64)] := by
  obtain ⟨m, hm, e⟩ := runeL_cases n
  have : m = n := by rcases e with e | ⟨_, e⟩ <;> omega
  subst this
  rcases hm with ⟨_, e⟩ | ⟨_, _, e⟩ | ⟨_, _, _, e⟩ | ⟨_, _, e⟩
  · omega
  · exact e
  all_goals omega
theorem runeL_three {n : Nat} (h : 2048 ≤ n) (h' : n ≤ 65535) (h2 : ¬ (55296 ≤ n ∧ n ≤ 57343)) : runeL n = [UInt8.ofNat (224 + n / 4096), UInt8.ofNat (128 + n / 64 % 64), UInt8.ofNat (128 + n % 64)] := by
  obtain ⟨m, hm, e⟩ := runeL_cases n
  have : m = n := by rcases e with e | ⟨_, e⟩ <;> omega
  subst this
  rcases hm with ⟨_, e⟩ | ⟨_, _, e⟩ | ⟨_, _, _, e⟩ | ⟨_, _, e⟩
  · omega
  · omega
  · exact e
  · omega
theorem runeL_four {n : Nat} (h : 65536 ≤ n) (h' : n ≤ 1114111) : runeL n = [UInt8.ofNat (240 + n / 262144), UInt8.ofNat (128 + n / 4096 % 64), UInt8.ofNat (128 + n / 64 % 64), UInt8.ofNat (128 + n % 64)] := by
  obtain ⟨m, hm, e⟩ := runeL_cases n
  have : m = n := by rcases e with e | ⟨_, e⟩ <;> omega
  subst this
  rcases hm with ⟨_, e⟩ | ⟨_, _, e⟩ | ⟨_, _, _, e⟩ | ⟨_, _, e⟩
  · omega
  · omega
  · omega
  · exact e
theorem cont_div (c : UInt8) : (c.toNat / 64 == 2) = contB c := by
  unfold contB
  rw [Bool.eq_iff_iff]
  simp only [beq_iff_eq, Bool.and_eq_true, decide_eq_true_eq]
  omega
/-- dec4 on what is ahead -/
def decL : List UInt8 → Nat × Nat
  | [] => (65533, 1)
  | a :: r => dec4 a.toNat ((r[0]?).elim false contB) ((r[0]?).elim 0 (·.toNat)) ((r[1]?).elim false contB) ((r[1]?).elim 0 (·.toNat)) ((r[2]?).elim false contB) ((r[2]?).elim 0 (·.toNat))
theorem decode_decL (s : ByteArray) (i : Nat) (h : i < s.size) : Utf8.decode s i = decL (s.data.toList.drop i) := by
  have hl : (s.data.toList.drop i).length = s.size - i := by rw [List.length_drop, toList_length]
  have key : ∀ k, ((decide (i + (k + 1) < s.size) && (s.get! (i + (k + 1))).toNat / 64 == 2) = ((s.data.toList.drop (i + 1))[k]?).elim false contB) ∧ ((s.get! (i + (k + 1))).toNat = ((s.data.toList.drop (i + 1))[k]?).elim 0 (·.toNat)) := by
    intro k
    rw [List.getElem?_drop]
    by_cases hk : i + (k + 1) < s.size
    · have e : s.data.toList[i + 1 + k]? = some (s.get! (i + (k + 1))) := by
        rw [List.getElem?_eq_getElem (by rw [toList_length]; omega)]
        congr 1
        have e := get_at s (i + (k + 1)) hk
        rw [Nat.add_zero] at e
        rw [e]
        have e2 : i + 1 + k = i + (k + 1) := by omega
        simp only [e2, Array.getElem_toList]
        rfl
      rw [e]
      rw [decide_eq_true hk, Bool.true_and, cont_div]
      exact ⟨rfl, rfl⟩
    · have e : s.data.toList[i + 1 + k]? = none := List.getElem?_eq_none (by rw [toList_length]; omega)
      rw [e]
      rw [decide_eq_false hk, Bool.false_and]
      refine ⟨rfl, ?_⟩
      have : s.get! (i + (k + 1)) = default := by
        simp [ByteArray.get!]
        rw [getElem!_neg]
        exact hk
      rw [this]; rfl
  rw [decode_dec4, drop_cons s i h]
  have k0 := key 0
  have k1 := key 1
  have k2 := key 2
  have e0 : s.get! (i + 0) = s[i] := get_at s i h
  simp only [Nat.zero_add] at k0
  unfold decL
  simp only
  rw [e0, k0.1, k1.1, k2.1, k0.2, k1.2, k2.2]
theorem d1 {b0 : Nat} {c1 c2 c3 : Bool} {x1 x2 x3 : Nat} (h : b0 < 128) : dec4 b0 c1 x1 c2 x2 c3 x3 = (b0, 1) := if_pos h
theorem d0 {b0 : Nat} {c1 c2 c3 : Bool} {x1 x2 x3 : Nat} (h : 128 ≤ b0) (h' : b0 < 192 ∨ 248 ≤ b0) (h2 : b0 < 256) : dec4 b0 c1 x1 c2 x2 c3 x3 = (65533, 1) := by
  have e0 : ¬ b0 < 128 := by omega
  have e1 : b0 / 32 ≠ 6 := by omega
  have e2 : b0 / 16 ≠ 14 := by omega
  have e3 : b0 / 8 ≠ 30 := by omega
  simp [dec4, e0, e1, e2, e3, Utf8.runeError]
theorem d2 {b0 : Nat} {c1 c2 c3 : Bool} {x1 x2 x3 : Nat} (h : 192 ≤ b0) (h' : b0 < 224) : dec4 b0 c1 x1 c2 x2 c3 x3 = if c1 = true ∧ 128 ≤ (b0 % 32) * 64 + x1 % 64 then ((b0 % 32) * 64 + x1 % 64, 2) else (65533, 1) := by
  have e0 : ¬ b0 < 128 := by omega
  have e1 : b0 / 32 = 6 := by omega
  have e2 : b0 / 16 ≠ 14 := by omega
  have e3 : b0 / 8 ≠ 30 := by omega
  cases c1 <;> simp [dec4, e0, e1, e2, e3, Utf8.runeError]
theorem d3 {b0 : Nat} {c1 c2 c3 : Bool} {x1 x2 x3 : Nat} (h : 224 ≤ b0) (h' : b0 < 240) : dec4 b0 c1 x1 c2 x2 c3 x3 = if c1 = true ∧ c2 = true ∧ 2048 ≤ (b0 % 16) * 4096 + (x1 % 64) * 64 + x2 % 64 ∧ Utf8.valid ((b0 % 16) * 4096 + (x1 % 64) * 64 + x2 % 64 : Nat) = true then ((b0 % 16) * 4096 + (x1 % 64) * 64 + x2 % 64, 3) else (65533, 1) := by
  have e0 : ¬ b0 < 128 := by omega
  have e1 : b0 / 32 ≠ 6 := by omega
  have e2 : b0 / 16 = 14 := by omega
  have e3 : b0 / 8 ≠ 30 := by omega
  cases c1 <;> cases c2 <;> simp [dec4, e0, e1, e2, e3, Utf8.runeError]
theorem d4 {b0 : Nat} {c1 c2 c3 : Bool} {x1 x2 x3 : Nat} (h : 240 ≤ b0) (h' : b0 < 248) : dec4 b0 c1 x1 c2 x2 c3 x3 = if c1 = true ∧ c2 = true ∧ c3 = true ∧ 65536 ≤ (b0 % 8) * 262144 + (x1 % 64) * 4096 + (x2 % 64) * 64 + x3 % 64 ∧ Utf8.valid ((b0 % 8) * 262144 + (x1 % 64) * 4096 + (x2 % 64) * 64 + x3 % 64 : Nat) = true then ((b0 % 8) * 262144 + (x1 % 64) * 4096 + (x2 % 64) * 64 + x3 % 64, 4) else (65533, 1) := by
  have e0 : ¬ b0 < 128 := by omega
  have e1 : b0 / 32 ≠ 6 := by omega
  have e2 : b0 / 16 ≠ 14 := by omega
  have e3 : b0 / 8 = 30 := by omega
  cases c1 <;> cases c2 <;> cases c3 <;> simp [dec4, e0, e1, e2, e3, Utf8.runeError]

theorem vStep_zero {l : List UInt8} (h : wholeN l = 0) : vStep l = (bad, 1) := if_pos h
theorem vStep_pos {l : List UInt8} {n : Nat} (h : wholeN l = n) (hn : n ≠ 0) : vStep l = (l.take n, n) := by
  unfold vStep; rw [if_neg (by omega), h]
theorem decL_spec (l : List UInt8) (hl : l ≠ []) : runeL (decL l).1 = (vStep l).1 ∧ (decL l).2 = (vStep l).2 ∧ (decL l).1 ≤ 1114111 := by
  have hbad : ∀ {l : List UInt8}, decL l = (65533, 1) → wholeN l = 0 → runeL (decL l).1 = (vStep l).1 ∧ (decL l).2 = (vStep l).2 ∧ (decL l).1 ≤ 1114111 := by
    intro l h1 h2
    rw [h1, vStep_zero h2]
    exact ⟨runeL_bad', rfl, by decide⟩
  match l, hl with
  | a :: r, _ =>
    have ha := byte_lt a
    by_cases h1 : a.toNat < 128
    · have e : decL (a :: r) = (a.toNat, 1) := d1 h1
      rw [e, vStep_pos (w1 h1) (by decide)]
      refine ⟨?_, rfl, by show a.toNat ≤ _; omega⟩
      show runeL a.toNat = [a]
      rw [runeL_one h1, u8b rfl]
    by_cases h2 : a.toNat < 192
    · exact hbad (d0 (by omega) (.inl h2) ha) (w0 (by omega) (.inl h2))
    by_cases h3 : a.toNat < 224
    · match r with
      | [] => exact hbad (by unfold decL; simp only []; rw [d2 (by omega) h3]; exact if_neg (fun h => by cases h.1)) (w2' (by omega) h3)
      | b :: r =>
        have e : decL (a :: b :: r) = if contB b = true ∧ 128 ≤ (a.toNat % 32) * 64 + b.toNat % 64 then ((a.toNat % 32) * 64 + b.toNat % 64, 2) else (65533, 1) := d2 (by omega) h3
        have ew := w2 (b := b) (r := r) (by omega) h3
        have hb := contB_iff b
        by_cases hc : contB b = true ∧ 128 ≤ 64 * (a.toNat - 192) + (b.toNat - 128)
        · have hb' := hb.1 hc.1
          have hv : (a.toNat % 32) * 64 + b.toNat % 64 = 64 * (a.toNat - 192) + (b.toNat - 128) := by omega
          rw [if_pos hc] at ew
          rw [if_pos ⟨hc.1, by omega⟩] at e
          rw [e, vStep_pos ew (by decide), hv]
          refine ⟨?_, rfl, by show 64 * (a.toNat - 192) + (b.toNat - 128) ≤ _; omega⟩
          show runeL ((64 * (a.toNat - 192) + (b.toNat - 128) : Nat) : Int) = [a, b]
          rw [runeL_two hc.2 (by omega), u8b (c := a) (by omega), u8b (c := b) (by omega)]
        · rw [if_neg hc] at ew
          refine hbad (e.trans (if_neg (fun h => hc ⟨h.1, ?_⟩))) ew
          have hb' := hb.1 h.1
          omega
    by_cases h4 : a.toNat < 240
    · match r with
      | [] => exact hbad (by unfold decL; simp only []; rw [d3 (by omega) h4]; exact if_neg (fun h => by cases h.1)) (w3' (by omega) h4 (by simp))
      | [_] => exact hbad (by unfold decL; simp only []; rw [d3 (by omega) h4]; exact if_neg (fun h => by cases h.2.1)) (w3' (by omega) h4 (by simp))
      | b :: c :: r =>
        have e : decL (a :: b :: c :: r) = if contB b = true ∧ contB c = true ∧ 2048 ≤ (a.toNat % 16) * 4096 + (b.toNat % 64) * 64 + c.toNat % 64 ∧ Utf8.valid ((a.toNat % 16) * 4096 + (b.toNat % 64) * 64 + c.toNat % 64 : Nat) = true then ((a.toNat % 16) * 4096 + (b.toNat % 64) * 64 + c.toNat % 64, 3) else (65533, 1) := d3 (by omega) h4
        have ew := w3 (b := b) (c := c) (r := r) (by omega) h4
        have hb := contB_iff b
        have hcc := contB_iff c
        split at ew
        · rename_i hc
          have hb' := hb.1 hc.1
          have hc' := hcc.1 hc.2.1
          have hv : (a.toNat % 16) * 4096 + (b.toNat % 64) * 64 + c.toNat % 64 = 64 * (64 * (a.toNat - 224) + (b.toNat - 128)) + (c.toNat - 128) := by omega
          have h5 := hc.2.2
          rw [← hv] at h5
          rw [if_pos ⟨hc.1, hc.2.1, h5.1, (valid_iff _).2 (by omega)⟩] at e
          rw [e, vStep_pos ew (by decide)]
          refine ⟨?_, rfl, by show (a.toNat % 16) * 4096 + (b.toNat % 64) * 64 + c.toNat % 64 ≤ _; omega⟩
          show runeL (((a.toNat % 16) * 4096 + (b.toNat % 64) * 64 + c.toNat % 64 : Nat) : Int) = [a, b, c]
          rw [runeL_three h5.1 (by omega) h5.2, u8b (c := a) (by omega), u8b (c := b) (by omega), u8b (c := c) (by omega)]
        · rename_i hc
          refine hbad (e.trans (if_neg (fun h => hc ⟨h.1, h.2.1, ?_⟩))) ew
          have hb' := hb.1 h.1
          have hc' := hcc.1 h.2.1
          have hvv := (valid_iff _).1 h.2.2.2
          omega
    by_cases h5 : a.toNat < 248
    · match r with
      | [] => exact hbad (by unfold decL; simp only []; rw [d4 (by omega) h5]; exact if_neg (fun h => by cases h.1)) (w4' (by omega) h5 (by simp))
      | [_] => exact hbad (by unfold decL; simp only []; rw [d4 (by omega) h5]; exact if_neg (fun h => by cases h.2.1)) (w4' (by omega) h5 (by simp))
      | [_, _] => exact hbad (by unfold decL; simp only []; rw [d4 (by omega) h5]; exact if_neg (fun h => by cases h.2.2.1)) (w4' (by omega) h5 (by simp))
      | b :: c :: d :: r =>
        have e : decL (a :: b :: c :: d :: r) = if contB b = true ∧ contB c = true ∧ contB d = true ∧ 65536 ≤ (a.toNat % 8) * 262144 + (b.toNat % 64) * 4096 + (c.toNat % 64) * 64 + d.toNat % 64 ∧ Utf8.valid ((a.toNat % 8) * 262144 + (b.toNat % 64) * 4096 + (c.toNat % 64) * 64 + d.toNat % 64 : Nat) = true then ((a.toNat % 8) * 262144 + (b.toNat % 64) * 4096 + (c.toNat % 64) * 64 + d.toNat % 64, 4) else (65533, 1) := d4 (by omega) h5
        have ew := w4 (b := b) (c := c) (d := d) (r := r) (by omega) h5
        have hb := contB_iff b
        have hcc := contB_iff c
        have hdd := contB_iff d
        split at ew
        · rename_i hc
          have hb' := hb.1 hc.1
          have hc' := hcc.1 hc.2.1
          have hd' := hdd.1 hc.2.2.1
          have hv : (a.toNat % 8) * 262144 + (b.toNat % 64) * 4096 + (c.toNat % 64) * 64 + d.toNat % 64 = 64 * (64 * (64 * (a.toNat - 240) + (b.toNat - 128)) + (c.toNat - 128)) + (d.toNat - 128) := by omega
          have h5 := hc.2.2.2
          rw [← hv] at h5
          rw [if_pos ⟨hc.1, hc.2.1, hc.2.2.1, h5.1, (valid_iff _).2 (by omega)⟩] at e
          rw [e, vStep_pos ew (by decide)]
          refine ⟨?_, rfl, h5.2⟩
          show runeL (((a.toNat % 8) * 262144 + (b.toNat % 64) * 4096 + (c.toNat % 64) * 64 + d.toNat % 64 : Nat) : Int) = [a, b, c, d]
          rw [runeL_four h5.1 h5.2, u8b (c := a) (by omega), u8b (c := b) (by omega), u8b (c := c) (by omega), u8b (c := d) (by omega)]
        · rename_i hc
          refine hbad (e.trans (if_neg (fun h => hc ⟨h.1, h.2.1, h.2.2.1, ?_⟩))) ew
          have hb' := hb.1 h.1
          have hc' := hcc.1 h.2.1
          have hd' := hdd.1 h.2.2.1
          have hvv := (valid_iff _).1 h.2.2.2.2
          omega
    · exact hbad (d0 (by omega) (.inr (by omega)) ha) (w0 (by omega) (.inr (by omega)))
end Go.Proofs.YtjaeheicndfdnaaGreatDoor

/- Texts made valid, and the alphabets' texts, as functions on lists of bytes. No statement is proved here. -/
namespace Go.Proofs.YtjaeheicndfdnaaGreatDoor
set_option linter.unusedVariables false
set_option linter.unusedSimpArgs false

theorem vStep_pos' (l : List UInt8) (h : l ≠ []) : 1 ≤ (vStep l).2 ∧ (vStep l).2 ≤ l.length ∧ 1 ≤ (vStep l).1.length ∧ (vStep l).1.length ≤ 3 * (vStep l).2 := by
  have hw := wholeN_le l
  have hl := List.length_pos_iff.2 h
  by_cases hz : wholeN l = 0
  · rw [vStep_zero hz]; simp [bad]; omega
  · rw [vStep_pos rfl hz]; simp; omega
def validL (l : List UInt8) : List UInt8 := if h : l = [] then [] else (vStep l).1 ++ validL (l.drop (vStep l).2)
termination_by l.length
decreasing_by
  have h1 := vStep_pos' l h
  have h2 := List.length_pos_iff.2 h
  rw [List.length_drop]; omega
theorem validL_nil : validL [] = [] := by rw [validL]; simp
theorem validL_cons {l : List UInt8} (h : l ≠ []) : validL l = (vStep l).1 ++ validL (l.drop (vStep l).2) := by rw [validL, dif_neg h]
def allWhole (l : List UInt8) : Bool := if h : wholeN l = 0 then l.isEmpty else allWhole (l.drop (wholeN l))
termination_by l.length
decreasing_by
  have h1 := wholeN_le l
  rw [List.length_drop]; omega
theorem allWhole_nil : allWhole [] = true := by rw [allWhole, dif_pos (show wholeN [] = 0 from rfl)]; rfl
theorem allWhole_pos {l : List UInt8} (h : wholeN l ≠ 0) : allWhole l = allWhole (l.drop (wholeN l)) := by rw [allWhole, dif_neg h]
theorem allWhole_zero {l : List UInt8} (h : wholeN l = 0) (hl : l ≠ []) : allWhole l = false := by
  rw [allWhole, dif_pos h]; cases l with
  | nil => exact absurd rfl hl
  | cons => rfl
theorem allWhole_app {p t : List UInt8} (h : wholeN (p ++ t) = p.length) (hp : p ≠ []) : allWhole (p ++ t) = allWhole t := by
  have := List.length_pos_iff.2 hp
  rw [allWhole_pos (by omega), h, List.drop_left]
theorem allWhole_rune (r : Int) (t : List UInt8) : allWhole (runeL r ++ t) = allWhole t :=
  allWhole_app (whole_rune r t) (fun e => by have := (runeL_length r).1; rw [e] at this; simp at this)
theorem allWhole_bad (t : List UInt8) : allWhole (bad ++ t) = allWhole t := by
  rw [← runeL_bad']; exact allWhole_rune _ _
theorem list_ind {p : List UInt8 → Prop} (h : ∀ l, (∀ k : List UInt8, k.length < l.length → p k) → p l) (l : List UInt8) : p l := by
  suffices H : ∀ n, ∀ l : List UInt8, l.length < n → p l from H (l.length + 1) l (by omega)
  intro n
  induction n with
  | zero => intro l hl; omega
  | succ n ih => intro l hl; exact h l (fun k hk => ih k (by omega))
theorem allWhole_valid (l : List UInt8) : allWhole (validL l) = true := by
  refine list_ind (p := fun l => allWhole (validL l) = true) ?_ l
  intro l ih
  by_cases hl : l = []
  · subst hl; rw [validL_nil]; exact allWhole_nil
  · have hs := vStep_pos' l hl
    rw [validL_cons hl]
    have hi := ih (l.drop (vStep l).2) (by rw [List.length_drop]; omega)
    by_cases hz : wholeN l = 0
    · rw [vStep_zero hz] at hi ⊢
      rw [allWhole_bad]; exact hi
    · rw [vStep_pos rfl hz] at hi ⊢
      have hw := wholeN_le l
      rw [allWhole_app (by rw [whole_local l _ (by omega), List.length_take]; omega) (by intro e; have := congrArg List.length e; rw [List.length_take] at this; have h0 : ([] : List UInt8).length = 0 := rfl; omega)]
      exact hi
theorem valid_whole (l : List UInt8) (h : allWhole l = true) : validL l = l := by
  revert h
  refine list_ind (p := fun l => allWhole l = true → validL l = l) ?_ l
  intro l ih h
  by_cases hl : l = []
  · subst hl; exact validL_nil
  · by_cases hz : wholeN l = 0
    · rw [allWhole_zero hz hl] at h; cases h
    · rw [allWhole_pos hz] at h
      have hw := wholeN_le l
      rw [validL_cons hl, vStep_pos rfl hz]
      show l.take (wholeN l) ++ validL (l.drop (wholeN l)) = l
      rw [ih _ (by rw [List.length_drop]; omega) h, List.take_append_drop]
theorem validL_length (l : List UInt8) : (validL l).length ≤ 3 * l.length := by
  refine list_ind (p := fun l => (validL l).length ≤ 3 * l.length) ?_ l
  intro l ih
  by_cases hl : l = []
  · subst hl; rw [validL_nil]; simp
  · have hs := vStep_pos' l hl
    have hi := ih (l.drop (vStep l).2) (by rw [List.length_drop]; omega)
    rw [List.length_drop] at hi
    rw [validL_cons hl, List.length_append]; omega
theorem valid_plain (l : List UInt8) (h : ∀ c ∈ l, c.toNat < 128) : validL l = l := by
  apply valid_whole
  induction l with
  | nil => exact allWhole_nil
  | cons c l ih =>
    have h1 := w1 (r := l) (h c (List.mem_cons_self ..))
    rw [show c :: l = [c] ++ l from rfl] at h1 ⊢
    rw [allWhole_app (by rw [h1]; rfl) (by simp)]
    exact ih (fun x hx => h x (List.mem_cons_of_mem _ hx))
/-- a round of a reader -/
theorem valid_round {L acc T : List UInt8} (h : acc ++ validL L = T) (hi : L ≠ []) : (acc ++ (vStep L).1) ++ validL (L.drop (vStep L).2) = T := by
  rw [← h, validL_cons hi, List.append_assoc]

/-! ### windows-1252 -/
def winTab : List Int := [8364, 129, 8218, 402, 8222, 8230, 8224, 8225, 710, 8240, 352, 8249, 338, 141, 381, 143, 144, 8216, 8217, 8220, 8221, 8226, 8211, 8212, 732, 8482, 353, 8250, 339, 157, 382, 376]
def winR (c : UInt8) : Int := if 128 ≤ c.toNat ∧ c.toNat < 160 then winTab.getD (c.toNat - 128) 0 else c.toNat
def winL (l : List UInt8) : List UInt8 := l.flatMap fun c => runeL (winR c)
theorem winL_cons (c : UInt8) (l : List UInt8) : winL (c :: l) = runeL (winR c) ++ winL l := rfl
theorem winL_whole (l : List UInt8) : allWhole (winL l) = true := by
  induction l with
  | nil => exact allWhole_nil
  | cons c l ih => rw [winL_cons, allWhole_rune]; exact ih
theorem winR_length (c : UInt8) : (runeL (winR c)).length ≤ 3 :=
  u8_all (p := fun c => (runeL (winR c)).length ≤ 3) (by decide +kernel) c
theorem winL_length (l : List UInt8) : (winL l).length ≤ 3 * l.length := by
  induction l with
  | nil => simp [winL]
  | cons c l ih => have := winR_length c; rw [winL_cons, List.length_append, List.length_cons]; omega
theorem winR_plain (c : UInt8) (h : c.toNat < 128) : runeL (winR c) = [c] :=
  u8_all (p := fun c => c.toNat < 128 → runeL (winR c) = [c]) (by decide +kernel) c h
theorem winL_plain (l : List UInt8) (h : ∀ c ∈ l, c.toNat < 128) : winL l = l := by
  induction l with
  | nil => rfl
  | cons c l ih => rw [winL_cons, winR_plain c (h c (List.mem_cons_self ..)), ih (fun x hx => h x (List.mem_cons_of_mem _ hx))]; rfl
theorem winR_case (c : UInt8) : (c.toNat < 128 ∧ winR c = c.toNat) ∨ (128 ≤ c.toNat ∧ c.toNat < 160 ∧ winR c = winTab.getD (c.toNat - 128) 0) ∨ (160 ≤ c.toNat ∧ winR c = c.toNat) := by
  unfold winR
  by_cases h : 128 ≤ c.toNat ∧ c.toNat < 160
  · rw [if_pos h]; exact .inr (.inl ⟨h.1, h.2, rfl⟩)
  · rw [if_neg h]
    by_cases h' : c.toNat < 128
    · exact .inl ⟨h', rfl⟩
    · exact .inr (.inr ⟨by omega, rfl⟩)
theorem winR_range (c : UInt8) : 0 ≤ winR c ∧ winR c ≤ 65535 :=
  u8_all (p := fun c => 0 ≤ winR c ∧ winR c ≤ 65535) (by decide +kernel) c

/-! ### UTF-16 -/
/-- the number of two bytes; big: the higher one is first -/
def num (big : Bool) (a b : UInt8) : Nat := if big then 256 * a.toNat + b.toNat else 256 * b.toNat + a.toNat
theorem num_lt (big : Bool) (a b : UInt8) : num big a b < 65536 := by
  have := byte_lt a; have := byte_lt b
  unfold num; split <;> omega
def unitsL (big : Bool) : List UInt8 → List Nat
  | a :: b :: r => num big a b :: unitsL big r
  | _ => []
theorem units_cons (big : Bool) (a b : UInt8) (r : List UInt8) : unitsL big (a :: b :: r) = num big a b :: unitsL big r := rfl
def pairV (a b : Nat) : Int := 65536 + 1024 * ((a : Int) - 55296) + ((b : Int) - 56320)
def u16 : List Nat → List UInt8
  | a :: b :: r => if 55296 ≤ a ∧ a ≤ 56319 ∧ 56320 ≤ b ∧ b ≤ 57343 then runeL (pairV a b) ++ u16 r else runeL a ++ u16 (b :: r)
  | [a] => runeL a
  | [] => []
def tailL (l : List UInt8) : List UInt8 := if l.length % 2 = 1 then bad else []
def pairsL (big : Bool) (l : List UInt8) : List UInt8 := u16 (unitsL big l) ++ tailL l
theorem u16_whole (u : List Nat) (t : List UInt8) : allWhole (u16 u ++ t) = allWhole t := by
  suffices H : ∀ n, ∀ u : List Nat, u.length < n → allWhole (u16 u ++ t) = allWhole t from H (u.length + 1) u (by omega)
  intro n
  induction n with
  | zero => intro u hu; omega
  | succ n ih =>
    intro u hu
    match u, hu with
    | [], _ => rfl
    | [a], _ => exact allWhole_rune _ _
    | a :: b :: r, hu =>
      simp only [List.length_cons] at hu
      rw [u16]
      split
      · rw [List.append_assoc, allWhole_rune]; exact ih r (by omega)
      · rw [List.append_assoc, allWhole_rune]; exact ih (b :: r) (by simp; omega)
theorem pairsL_whole (big : Bool) (l : List UInt8) : allWhole (pairsL big l) = true := by
  unfold pairsL tailL
  rw [u16_whole]
  split
  · rw [← List.append_nil bad, allWhole_bad]; exact allWhole_nil
  · exact allWhole_nil
def fsT (big : Bool) (x : Nat) : List UInt8 → Int × Nat
  | c :: d :: _ => if 56320 ≤ num big c d ∧ num big c d < 57344 then (pairV x (num big c d), 4) else (65533, 2)
  | _ => (65533, 2)
/-- the sign that is ahead, and how many bytes it has -/
def fsS (big : Bool) : List UInt8 → Int × Nat
  | a :: b :: r => if num big a b < 55296 ∨ 57344 ≤ num big a b then (num big a b, 2) else if num big a b < 56320 then fsT big (num big a b) r else (65533, 2)
  | _ => (65533, 1)
theorem tailL_drop (l : List UInt8) (k : Nat) (h : 2 * k ≤ l.length) : tailL (l.drop (2 * k)) = tailL l := by
  unfold tailL; rw [List.length_drop, show (l.length - 2 * k) % 2 = l.length % 2 from by omega]
theorem pairs_step (big : Bool) (l : List UInt8) (h : 2 ≤ l.length) : pairsL big l = runeL (fsS big l).1 ++ pairsL big (l.drop (fsS big l).2) ∧ ((fsS big l).2 = 2 ∨ (fsS big l).2 = 4) ∧ (fsS big l).2 ≤ l.length ∧ 0 ≤ (fsS big l).1 ∧ (fsS big l).1 ≤ 1114111 := by
  match l, h with
  | a :: b :: r, h =>
    have hn := num_lt big a b
    have ht2 : tailL ((a :: b :: r).drop 2) = tailL (a :: b :: r) := tailL_drop _ 1 h
    by_cases h1 : num big a b < 55296 ∨ 57344 ≤ num big a b
    · have e : fsS big (a :: b :: r) = (((num big a b : Nat) : Int), 2) := by rw [fsS, if_pos h1]
      rw [e]
      refine ⟨?_, .inl rfl, h, by show (0 : Int) ≤ _; omega, by show ((num big a b : Nat) : Int) ≤ _; omega⟩
      unfold pairsL
      rw [ht2, ← List.append_assoc]
      congr 1
      show u16 (num big a b :: unitsL big r) = runeL _ ++ u16 (unitsL big r)
      cases unitsL big r with
      | nil => simp [u16]
      | cons y t => rw [u16, if_neg (by omega)]
    · by_cases h2 : num big a b < 56320
      · match r with
        | c :: d :: r =>
          have hm := num_lt big c d
          by_cases h3 : 56320 ≤ num big c d ∧ num big c d < 57344
          · have e : fsS big (a :: b :: c :: d :: r) = (pairV (num big a b) (num big c d), 4) := by rw [fsS, if_neg h1, if_pos h2, fsT, if_pos h3]
            rw [e]
            refine ⟨?_, .inr rfl, by simp, by show 0 ≤ pairV _ _; unfold pairV; omega, by show pairV _ _ ≤ _; unfold pairV; omega⟩
            have ht4 : tailL ((a :: b :: c :: d :: r).drop 4) = tailL (a :: b :: c :: d :: r) := tailL_drop _ 2 (by simp)
            unfold pairsL
            rw [ht4, ← List.append_assoc]
            congr 1
            show u16 (num big a b :: num big c d :: unitsL big r) = runeL _ ++ u16 (unitsL big r)
            rw [u16, if_pos (by omega)]
          · have e : fsS big (a :: b :: c :: d :: r) = (65533, 2) := by rw [fsS, if_neg h1, if_pos h2, fsT, if_neg h3]
            rw [e]
            refine ⟨?_, .inl rfl, h, by decide, by decide⟩
            unfold pairsL
            rw [ht2, ← List.append_assoc]
            congr 1
            show u16 (num big a b :: num big c d :: unitsL big r) = runeL _ ++ u16 (num big c d :: unitsL big r)
            rw [u16, if_neg (by omega), runeL_bad', runeL_bad (by omega)]
        | [] =>
          have e : fsS big [a, b] = (65533, 2) := by rw [fsS, if_neg h1, if_pos h2]; rfl
          rw [e]
          refine ⟨?_, .inl rfl, h, by decide, by decide⟩
          unfold pairsL
          rw [ht2, ← List.append_assoc]
          congr 1
          show u16 [num big a b] = runeL _ ++ u16 []
          rw [u16, u16, List.append_nil, runeL_bad', runeL_bad (by omega)]
        | [c] =>
          have e : fsS big [a, b, c] = (65533, 2) := by rw [fsS, if_neg h1, if_pos h2]; rfl
          rw [e]
          refine ⟨?_, .inl rfl, h, by decide, by decide⟩
          unfold pairsL
          rw [ht2, ← List.append_assoc]
          congr 1
          show u16 [num big a b] = runeL _ ++ u16 []
          rw [u16, u16, List.append_nil, runeL_bad', runeL_bad (by omega)]
      · have e : fsS big (a :: b :: r) = (65533, 2) := by rw [fsS, if_neg h1, if_neg h2]
        rw [e]
        refine ⟨?_, .inl rfl, h, by decide, by decide⟩
        unfold pairsL
        rw [ht2, ← List.append_assoc]
        congr 1
        show u16 (num big a b :: unitsL big r) = runeL _ ++ u16 (unitsL big r)
        rw [runeL_bad']
        cases unitsL big r with
        | nil => rw [u16, u16, List.append_nil, runeL_bad (by omega)]
        | cons y t => rw [u16, if_neg (by omega), runeL_bad (by omega)]
theorem pairs_short (big : Bool) (l : List UInt8) (h : l.length < 2) : pairsL big l = if l.length = 1 then bad else [] := by
  match l, h with
  | [], _ => rfl
  | [a], _ => rfl
theorem pairsL_length (big : Bool) (l : List UInt8) : (pairsL big l).length ≤ 3 * l.length := by
  refine list_ind (p := fun l => (pairsL big l).length ≤ 3 * l.length) ?_ l
  intro l ih
  by_cases h : 2 ≤ l.length
  · obtain ⟨h1, h2, h3, h4, h5⟩ := pairs_step big l h
    have hr := runeL_length (fsS big l).1
    have hi := ih (l.drop (fsS big l).2) (by rw [List.length_drop]; omega)
    rw [List.length_drop] at hi
    rw [h1, List.length_append]; omega
  · rw [pairs_short big l (by omega)]
    split
    · simp [bad]; omega
    · simp
/-- two by two, turned -/
def swapL : List UInt8 → List UInt8
  | a :: b :: r => b :: a :: swapL r
  | l => l
theorem swap_length (l : List UInt8) : (swapL l).length = l.length := by
  refine list_ind (p := fun l => (swapL l).length = l.length) ?_ l
  intro l ih
  match l, ih with
  | [], _ => rfl
  | [_], _ => rfl
  | a :: b :: r, ih => simp [swapL, ih r (by simp; omega)]
theorem swap_units (l : List UInt8) : unitsL true (swapL l) = unitsL false l := by
  refine list_ind (p := fun l => unitsL true (swapL l) = unitsL false l) ?_ l
  intro l ih
  match l, ih with
  | [], _ => rfl
  | [_], _ => rfl
  | a :: b :: r, ih =>
    rw [swapL, units_cons, units_cons, ih r (by simp; omega)]
    congr 1
theorem swap_pairs (l : List UInt8) : pairsL true (swapL l) = pairsL false l := by
  unfold pairsL tailL
  rw [swap_units, swap_length]

/-! ### the alphabets' names -/
def cleanL (l : List UInt8) : List UInt8 := lowL (Lib.trimS l whiteSet)
def labels : List (List UInt8) :=
  [[117, 116, 102, 45, 56], [117, 116, 102, 56], [117, 110, 105, 99, 111, 100, 101, 45, 49, 45, 49, 45, 117, 116, 102, 45, 56],
   [119, 105, 110, 100, 111, 119, 115, 45, 49, 50, 53, 50], [99, 112, 49, 50, 53, 50], [117, 115, 45, 97, 115, 99, 105, 105], [97, 115, 99, 105, 105], [105, 115, 111, 45, 56, 56, 53, 57, 45, 49], [105, 115, 111, 56, 56, 53, 57, 45, 49], [108, 97, 116, 105, 110, 49], [108, 49],
   [117, 116, 102, 45, 49, 54, 108, 101], [117, 116, 102, 45, 49, 54], [117, 110, 105, 99, 111, 100, 101], [117, 99, 115, 45, 50],
   [117, 116, 102, 45, 49, 54, 98, 101], [117, 110, 105, 99, 111, 100, 101, 102, 102, 102, 101]]
/-- which row of the table a cleaned label stands in; 0: none -/
def kindOf (x : List UInt8) : Nat := if labels.idxOf x < 3 then 1 else if labels.idxOf x < 11 then 2 else if labels.idxOf x < 15 then 3 else if labels.idxOf x < 17 then 4 else 0
def kindL (l : List UInt8) : Nat := kindOf (cleanL l)
def nameL : Nat → List UInt8
  | 1 => [117, 116, 102, 45, 56]
  | 2 => [119, 105, 110, 100, 111, 119, 115, 45, 49, 50, 53, 50]
  | 3 => [117, 116, 102, 45, 49, 54, 108, 101]
  | 4 => [117, 116, 102, 45, 49, 54, 98, 101]
  | _ => []
theorem kind_lt (l : List UInt8) : kindL l < 5 := by
  unfold kindL kindOf; repeat' split
  all_goals omega
/-- what Known answers -/
def knownV (k : Nat) : Value := .tuple #[.string (str (nameL k)), .bool (decide (0 < k))]
def decodeL (k : Nat) (l : List UInt8) : List UInt8 := if k = 2 then winL l else if k = 3 then pairsL false l else if k = 4 then pairsL true l else validL l
theorem decodeL_whole (k : Nat) (l : List UInt8) : allWhole (decodeL k l) = true := by
  unfold decodeL
  split
  · exact winL_whole l
  · split
    · exact pairsL_whole _ l
    · split
      · exact pairsL_whole _ l
      · exact allWhole_valid l
theorem decodeL_length (k : Nat) (l : List UInt8) : (decodeL k l).length ≤ 3 * l.length := by
  unfold decodeL
  split
  · exact winL_length l
  · split
    · exact pairsL_length _ l
    · split
      · exact pairsL_length _ l
      · exact validL_length l
theorem decodeL_plain (k : Nat) (l : List UInt8) (h : ∀ c ∈ l, c.toNat < 128) (h3 : k ≠ 3) (h4 : k ≠ 4) : decodeL k l = l := by
  unfold decodeL
  rw [if_neg h3, if_neg h4]
  split
  · exact winL_plain l h
  · exact valid_plain l h
end Go.Proofs.YtjaeheicndfdnaaGreatDoor

/- Facts on the alphabets' labels. No statement is proved here. -/
namespace Go.Proofs.YtjaeheicndfdnaaGreatDoor
open Go.RowKit
set_option linter.unusedVariables false
set_option linter.unusedSimpArgs false

theorem dropWhile_le (p : UInt8 → Bool) (l : List UInt8) : (l.dropWhile p).length ≤ l.length := (List.dropWhile_sublist (l := l) p).length_le
theorem trimS_length (l cs : List UInt8) : (Lib.trimS l cs).length ≤ l.length := by
  unfold Lib.trimS Lib.trimLeftS Lib.trimRightS
  have h1 := dropWhile_le (fun x => cs.contains x) ((l.reverse.dropWhile fun x => cs.contains x).reverse)
  have h2 := dropWhile_le (fun x => cs.contains x) l.reverse
  rw [List.length_reverse] at h1 h2
  omega
theorem kind_none {x : List UInt8} (h : ∀ y ∈ labels, x ≠ y) : kindOf x = 0 := by
  have e : labels.idxOf x = 17 := by
    have : x ∉ labels := fun hm => h x hm rfl
    rw [List.idxOf_eq_length this]; rfl
  unfold kindOf; rw [e]; rfl
theorem listT {X : ByteArray} {x y : List UInt8} (hX : X = str x) (h : x = y) : (X.toList == y) = true := by
  rw [hX, str_list, h]; simp
theorem listF {X : ByteArray} {x y : List UInt8} (hX : X = str x) (h : x ≠ y) : (X.toList == y) = false := by
  rw [hX, str_list]; simp [h]
end Go.Proofs.YtjaeheicndfdnaaGreatDoor

/- Plain functions on lists of bytes for the package b64: what its functions and the reference's compute, and facts on them. No statement is proved here. -/
namespace Go.Proofs.YtjaeheicndfdnaaGreatDoor
set_option linter.unusedVariables false
set_option linter.unusedSimpArgs false

def letters64 : List UInt8 := [65, 66, 67, 68, 69, 70, 71, 72, 73, 74, 75, 76, 77, 78, 79, 80, 81, 82, 83, 84, 85, 86, 87, 88, 89, 90, 97, 98, 99, 100, 101, 102, 103, 104, 105, 106, 107, 108, 109, 110, 111, 112, 113, 114, 115, 116, 117, 118, 119, 120, 121, 122, 48, 49, 50, 51, 52, 53, 54, 55, 56, 57, 43, 47]
/-- the n-th letter -/
def letter (n : Nat) : UInt8 := letters64.getD n 0
/-- a letter's number; 64: it is none -/
def val (c : UInt8) : Nat := letters64.idxOf c
theorem val_le (c : UInt8) : val c ≤ 64 := List.idxOf_le_length
theorem val_ranges (c : UInt8) : val c = if 65 ≤ c.toNat ∧ c.toNat ≤ 90 then c.toNat - 65 else if 97 ≤ c.toNat ∧ c.toNat ≤ 122 then c.toNat - 97 + 26 else if 48 ≤ c.toNat ∧ c.toNat ≤ 57 then c.toNat - 48 + 52 else if c.toNat = 43 then 62 else if c.toNat = 47 then 63 else 64 :=
  u8_all (p := fun c => val c = if 65 ≤ c.toNat ∧ c.toNat ≤ 90 then c.toNat - 65 else if 97 ≤ c.toNat ∧ c.toNat ≤ 122 then c.toNat - 97 + 26 else if 48 ≤ c.toNat ∧ c.toNat ≤ 57 then c.toNat - 48 + 52 else if c.toNat = 43 then 62 else if c.toNat = 47 then 63 else 64) (by decide +kernel) c
theorem letter_facts (n : Nat) (h : n < 64) : val (letter n) = n ∧ letter n ≠ 61 := by
  have : ∀ n, n < 64 → val (letter n) = n ∧ letter n ≠ 61 := by decide +kernel
  exact this n h

/-- the letters of the bytes to come, where h bits of the number w are waiting -/
def encFrom : Nat → Nat → List UInt8 → List UInt8
  | h, w, [] => if h = 0 then [] else if h = 2 then [letter (w * 16), 61, 61] else [letter (w * 4), 61]
  | h, w, c :: r => if h = 0 then letter (c.toNat / 4) :: encFrom 2 (c.toNat % 4) r
      else if h = 2 then letter (w * 16 + c.toNat / 16) :: encFrom 4 (c.toNat % 16) r
      else letter (w * 4 + c.toNat / 64) :: letter (c.toNat % 64) :: encFrom 0 0 r
def encB (l : List UInt8) : List UInt8 := encFrom 0 0 l

/-- the bytes of the letters to come, where h bits of the number w are waiting -/
def decFrom : Nat → Nat → List UInt8 → List UInt8
  | _, _, [] => []
  | h, w, c :: r => if val c = 64 then decFrom h w r
      else if h + 6 < 8 then decFrom (h + 6) (w * 64 + val c) r
      else UInt8.ofNat ((w * 64 + val c) / 2 ^ (h - 2)) :: decFrom (h - 2) ((w * 64 + val c) % 2 ^ (h - 2)) r
/-- what stands ahead of the sign of the end -/
def ahead (l : List UInt8) : List UInt8 := l.takeWhile fun c => c != 61
def decB (l : List UInt8) : List UInt8 := decFrom 0 0 (ahead l)

/-- line ends between each two stretches of n bytes -/
def wrapL (n : Nat) (l : List UInt8) : List UInt8 := if h : 0 < n ∧ n < l.length then l.take n ++ [13, 10] ++ wrapL n (l.drop n) else l
termination_by l.length
decreasing_by rw [List.length_drop]; omega
theorem wrapL_go {n : Nat} {l : List UInt8} (h0 : 0 < n) (h : n < l.length) : wrapL n l = l.take n ++ [13, 10] ++ wrapL n (l.drop n) := by rw [wrapL, dif_pos ⟨h0, h⟩]
theorem wrapL_end {n : Nat} {l : List UInt8} (h : ¬ n < l.length) : wrapL n l = l := by rw [wrapL, dif_neg (fun x => h x.2)]
theorem encFrom_length (l : List UInt8) : ∀ h w, (encFrom h w l).length ≤ 2 * l.length + 3 := by
  induction l with
  | nil => intro h w; simp only [encFrom]; repeat' split
           all_goals simp
  | cons c r ih =>
    intro h w
    simp only [encFrom]
    have h1 := ih 2 (c.toNat % 4)
    have h2 := ih 4 (c.toNat % 16)
    have h3 := ih 0 0
    repeat' split
    all_goals (simp only [List.length_cons]; omega)
theorem encB_length (l : List UInt8) : (encB l).length ≤ 2 * l.length + 3 := encFrom_length l 0 0
end Go.Proofs.YtjaeheicndfdnaaGreatDoor

/- Base64 on lists of bytes: what is encoded is decoded, whatever else stands between; lengths; texts one behind the other. No statement is proved here. -/
namespace Go.Proofs.YtjaeheicndfdnaaGreatDoor
set_option linter.unusedVariables false
set_option linter.unusedSimpArgs false

/-- the letters ahead of the sign of the end -/
def lettersOf : List UInt8 → List UInt8
  | [] => []
  | c :: r => if c = 61 then [] else if val c < 64 then c :: lettersOf r else lettersOf r
theorem decFrom_letters (l : List UInt8) : ∀ h w, decFrom h w (ahead l) = decFrom h w (lettersOf l) := by
  induction l with
  | nil => intro h w; rfl
  | cons c r ih =>
    intro h w
    rw [lettersOf]
    by_cases h61 : c = 61
    · rw [if_pos h61]; subst h61; rfl
    · have ea : ahead (c :: r) = c :: ahead r := by simp [ahead, h61]
      rw [if_neg h61, ea, decFrom]
      by_cases hv : val c < 64
      · rw [if_pos hv, decFrom, ih, ih, ih]
      · have := val_le c
        rw [if_neg hv, if_pos (by omega), ih]
theorem decB_letters (l : List UInt8) : decB l = decFrom 0 0 (lettersOf l) := decFrom_letters l 0 0

theorem lettersOf_congr (a : List UInt8) {x y : List UInt8} (h : lettersOf x = lettersOf y) : lettersOf (a ++ x) = lettersOf (a ++ y) := by
  induction a with
  | nil => exact h
  | cons c r ih => rw [List.cons_append, List.cons_append, lettersOf, lettersOf, ih]
theorem lettersOf_end (a b : List UInt8) : lettersOf (a ++ 61 :: b) = lettersOf a := by
  induction a with
  | nil => rfl
  | cons c r ih => rw [List.cons_append, lettersOf, lettersOf, ih]
theorem lettersOf_junk {c : UInt8} (r : List UInt8) (h : c ≠ 61) (hv : ¬ val c < 64) : lettersOf (c :: r) = lettersOf r := by
  rw [lettersOf, if_neg h, if_neg hv]
theorem lettersOf_letter {n : Nat} (r : List UInt8) (h : n < 64) : lettersOf (letter n :: r) = letter n :: lettersOf r := by
  have := letter_facts n h
  rw [lettersOf, if_neg this.2, if_pos (by omega)]
theorem lettersOf_wrap (n : Nat) (hn : 0 < n) (l : List UInt8) : lettersOf (wrapL n l) = lettersOf l := by
  suffices H : ∀ m, ∀ l : List UInt8, l.length ≤ m → lettersOf (wrapL n l) = lettersOf l from H _ l (Nat.le_refl _)
  intro m
  induction m with
  | zero =>
    intro l hl
    have : l = [] := List.eq_nil_of_length_eq_zero (by omega)
    subst this
    rw [wrapL_end (by simp)]
  | succ m ih =>
    intro l hl
    by_cases h : n < l.length
    · rw [wrapL_go hn h, List.append_assoc]
      have h1 := ih (l.drop n) (by rw [List.length_drop]; omega)
      have h2 : lettersOf ([13, 10] ++ wrapL n (l.drop n)) = lettersOf (l.drop n) := by
        rw [show [13, 10] ++ wrapL n (l.drop n) = 13 :: 10 :: wrapL n (l.drop n) from rfl, lettersOf_junk _ (by decide) (by decide), lettersOf_junk _ (by decide) (by decide), h1]
      rw [lettersOf_congr (l.take n) h2, List.take_append_drop]
    · rw [wrapL_end h]

theorem dec_letter (h w n : Nat) (r : List UInt8) (hn : n < 64) : decFrom h w (letter n :: r) = if h + 6 < 8 then decFrom (h + 6) (w * 64 + n) r else UInt8.ofNat ((w * 64 + n) / 2 ^ (h - 2)) :: decFrom (h - 2) ((w * 64 + n) % 2 ^ (h - 2)) r := by
  have := (letter_facts n hn).1
  rw [decFrom, this, if_neg (by omega)]

theorem back_all (l : List UInt8) : decFrom 0 0 (lettersOf (encFrom 0 0 l)) = l ∧ (∀ a : UInt8, decFrom 6 (a.toNat / 4) (lettersOf (encFrom 2 (a.toNat % 4) l)) = a :: l) ∧ (∀ b : UInt8, decFrom 4 (b.toNat / 16) (lettersOf (encFrom 4 (b.toNat % 16) l)) = b :: l) := by
  induction l with
  | nil =>
    refine ⟨rfl, fun a => ?_, fun b => ?_⟩
    · have ha := byte_lt a
      rw [show encFrom 2 (a.toNat % 4) [] = [letter (a.toNat % 4 * 16), 61, 61] from rfl, lettersOf_letter _ (by omega), dec_letter _ _ _ _ (by omega), if_neg (by omega)]
      have e : (a.toNat / 4 * 64 + a.toNat % 4 * 16) / 2 ^ (6 - 2) = a.toNat := by omega
      rw [e, UInt8.ofNat_toNat]; rfl
    · have hb := byte_lt b
      rw [show encFrom 4 (b.toNat % 16) [] = [letter (b.toNat % 16 * 4), 61] from rfl, lettersOf_letter _ (by omega), dec_letter _ _ _ _ (by omega), if_neg (by omega)]
      have e : (b.toNat / 16 * 64 + b.toNat % 16 * 4) / 2 ^ (4 - 2) = b.toNat := by omega
      rw [e, UInt8.ofNat_toNat]; rfl
  | cons c r ih =>
    have hc := byte_lt c
    obtain ⟨i0, i2, i4⟩ := ih
    refine ⟨?_, fun a => ?_, fun b => ?_⟩
    · rw [show encFrom 0 0 (c :: r) = letter (c.toNat / 4) :: encFrom 2 (c.toNat % 4) r from rfl, lettersOf_letter _ (by omega), dec_letter _ _ _ _ (by omega), if_pos (by omega)]
      rw [show 0 + 6 = 6 from rfl, show 0 * 64 + c.toNat / 4 = c.toNat / 4 by omega]
      exact i2 c
    · have ha := byte_lt a
      rw [show encFrom 2 (a.toNat % 4) (c :: r) = letter (a.toNat % 4 * 16 + c.toNat / 16) :: encFrom 4 (c.toNat % 16) r from rfl, lettersOf_letter _ (by omega), dec_letter _ _ _ _ (by omega), if_neg (by omega)]
      have e : (a.toNat / 4 * 64 + (a.toNat % 4 * 16 + c.toNat / 16)) / 2 ^ (6 - 2) = a.toNat := by omega
      have e2 : (a.toNat / 4 * 64 + (a.toNat % 4 * 16 + c.toNat / 16)) % 2 ^ (6 - 2) = c.toNat / 16 := by omega
      rw [e, e2, UInt8.ofNat_toNat, show 6 - 2 = 4 from rfl, i4 c]
    · have hb := byte_lt b
      rw [show encFrom 4 (b.toNat % 16) (c :: r) = letter (b.toNat % 16 * 4 + c.toNat / 64) :: letter (c.toNat % 64) :: encFrom 0 0 r from rfl, lettersOf_letter _ (by omega), lettersOf_letter _ (by omega), dec_letter _ _ _ _ (by omega), if_neg (by omega), dec_letter _ _ _ _ (by omega), if_neg (by omega)]
      have e : (b.toNat / 16 * 64 + (b.toNat % 16 * 4 + c.toNat / 64)) / 2 ^ (4 - 2) = b.toNat := by omega
      have e2 : (b.toNat / 16 * 64 + (b.toNat % 16 * 4 + c.toNat / 64)) % 2 ^ (4 - 2) = c.toNat / 64 := by omega
      rw [e, e2]
      have e3 : (c.toNat / 64 * 64 + c.toNat % 64) / 2 ^ (4 - 2 - 2) = c.toNat := by simp; omega
      have e4 : (c.toNat / 64 * 64 + c.toNat % 64) % 2 ^ (4 - 2 - 2) = 0 := by simp; omega
      rw [e3, e4, UInt8.ofNat_toNat, UInt8.ofNat_toNat, show 4 - 2 - 2 = 0 from rfl, i0]
theorem back_letters (l : List UInt8) : decFrom 0 0 (lettersOf (encB l)) = l := (back_all l).1
theorem decB_encB (l : List UInt8) : decB (encB l) = l := by rw [decB_letters, back_letters]
theorem decB_wrap (n : Nat) (hn : 0 < n) (l : List UInt8) : decB (wrapL n (encB l)) = l := by rw [decB_letters, lettersOf_wrap n hn, back_letters]
theorem decB_around (l b : List UInt8) : decB ([32, 10] ++ encB l ++ [61] ++ b) = l := by
  rw [decB_letters, show [32, 10] ++ encB l ++ [61] ++ b = 32 :: 10 :: (encB l ++ 61 :: b) by simp, lettersOf_junk _ (by decide) (by decide), lettersOf_junk _ (by decide) (by decide), lettersOf_end, back_letters]
theorem decB_junk (l : List UInt8) (k : Nat) (c : UInt8) (h : c ≠ 61) (hv : ¬ val c < 64) : decB ((encB l).take k ++ [c] ++ (encB l).drop k) = l := by
  have e : lettersOf ((encB l).take k ++ ([c] ++ (encB l).drop k)) = lettersOf ((encB l).take k ++ (encB l).drop k) := lettersOf_congr _ (lettersOf_junk _ h hv)
  rw [decB_letters, List.append_assoc, e, List.take_append_drop, back_letters]

/-! ### lengths -/
theorem wrapL_length (n : Nat) (hn : 0 < n) (l : List UInt8) : (wrapL n l).length ≤ 3 * l.length := by
  suffices H : ∀ m, ∀ l : List UInt8, l.length ≤ m → (wrapL n l).length ≤ 3 * l.length from H _ l (Nat.le_refl _)
  intro m
  induction m with
  | zero =>
    intro l hl
    rw [wrapL_end (by omega)]; omega
  | succ m ih =>
    intro l hl
    by_cases h : n < l.length
    · rw [wrapL_go hn h]
      have h1 := ih (l.drop n) (by rw [List.length_drop]; omega)
      rw [List.length_drop] at h1
      simp only [List.length_append, List.length_take, List.length_cons, List.length_nil]
      omega
    · rw [wrapL_end h]; omega
theorem wrapL_small (n : Nat) (hn : 0 < n) (l : List UInt8) (h : l.length ≤ 20000) : (wrapL n l).length ≤ 1048576 := by
  have := wrapL_length n hn l; omega
theorem enc_len (l : List UInt8) : (∀ w, (encFrom 0 w l).length = (l.length + 2) / 3 * 4) ∧ (∀ w, (encFrom 2 w l).length + 1 = (l.length + 3) / 3 * 4) ∧ (∀ w, (encFrom 4 w l).length + 2 = (l.length + 4) / 3 * 4) := by
  induction l with
  | nil => exact ⟨fun _ => rfl, fun _ => rfl, fun _ => rfl⟩
  | cons c r ih =>
    obtain ⟨i0, i2, i4⟩ := ih
    refine ⟨fun w => ?_, fun w => ?_, fun w => ?_⟩
    · have := i2 (c.toNat % 4)
      show (encFrom 2 (c.toNat % 4) r).length + 1 = (r.length + 1 + 2) / 3 * 4
      exact this
    · have := i4 (c.toNat % 16)
      show (encFrom 4 (c.toNat % 16) r).length + 1 + 1 = (r.length + 1 + 3) / 3 * 4
      exact this
    · have := i0 0
      show (encFrom 0 0 r).length + 1 + 1 + 2 = (r.length + 1 + 4) / 3 * 4
      omega
theorem encB_len (l : List UInt8) : (encB l).length = (l.length + 2) / 3 * 4 := (enc_len l).1 0
theorem dec_len (l : List UInt8) : ∀ h w, h < 8 → 8 * (decFrom h w l).length ≤ h + 6 * l.length := by
  induction l with
  | nil => intro h w _; simp [decFrom]
  | cons c r ih =>
    intro h w hh
    rw [decFrom, List.length_cons]
    split
    · have := ih h w hh; omega
    · split
      · have := ih (h + 6) (w * 64 + val c) (by omega); omega
      · have := ih (h - 2) ((w * 64 + val c) % 2 ^ (h - 2)) (by omega)
        rw [List.length_cons]; omega
theorem decB_len (l : List UInt8) : (decB l).length ≤ l.length * 3 / 4 := by
  have h1 := dec_len (ahead l) 0 0 (by omega)
  have h2 : (ahead l).length ≤ l.length := (List.takeWhile_sublist _).length_le
  unfold decB
  omega
theorem encB_append (s t : List UInt8) (h : s.length % 3 = 0) : encB (s ++ t) = encB s ++ encB t := by
  suffices H : ∀ m, ∀ s : List UInt8, s.length ≤ m → s.length % 3 = 0 → encFrom 0 0 (s ++ t) = encFrom 0 0 s ++ encFrom 0 0 t from H _ s (Nat.le_refl _) h
  intro m
  induction m with
  | zero =>
    intro s hs _
    have : s = [] := List.eq_nil_of_length_eq_zero (by omega)
    subst this
    rfl
  | succ m ih =>
    intro s hs h3
    match s, hs, h3 with
    | [], _, _ => rfl
    | [a], _, h3 => simp at h3
    | [a, b], _, h3 => simp at h3
    | a :: b :: c :: r, hs, h3 =>
      have hr := ih r (by simp at hs; omega) (by simp at h3; omega)
      show letter (a.toNat / 4) :: letter (a.toNat % 4 * 16 + b.toNat / 16) :: letter (b.toNat % 16 * 4 + c.toNat / 64) :: letter (c.toNat % 64) :: encFrom 0 0 (r ++ t) = letter (a.toNat / 4) :: letter (a.toNat % 4 * 16 + b.toNat / 16) :: letter (b.toNat % 16 * 4 + c.toNat / 64) :: letter (c.toNat % 64) :: (encFrom 0 0 r ++ encFrom 0 0 t)
      rw [hr]
end Go.Proofs.YtjaeheicndfdnaaGreatDoor

