/- Facts on the alphabets' labels. No statement is proved here. -/
import Derived.Test.YtgkpennhpggaaaaDoorCharsQ
namespace Go.Proofs.YtgkpennhpggaaaaDoor
open Go.RowKit
set_option linter.unusedVariables false
set_option linter.unusedSimpArgs false

theorem dropWhile_le (p : UInt8 → Bool) (l : List UInt8) : (l.dropWhile p).length ≤ l.length := (List.dropWhile_sublist (l := l) p).length_le
theorem trimS_length (l cs : List UInt8) : (Lib.trimS l cs).length ≤ l.length := by
  unfold Lib.trimS Lib.trimLeftS Lib.trimRightS
  have h1 := dropWhile_le (fun x => cs.contains x) ((l.reverse.dropWhile fun x => cs.contains x).reverse)
  have h2 := dropWhile_le (fun x => cs.contains x) l.reverse
  rw [List.length_reverse] at h1 h2
  omega
theorem kind_none {x : List UInt8} (h : ∀ y ∈ labels, x ≠ y) : kindOf x = 0 := by
  have e : labels.idxOf x = 17 := by
    have : x ∉ labels := fun hm => h x hm rfl
    rw [List.idxOf_eq_length this]; rfl
  unfold kindOf; rw [e]; rfl
theorem listT {X : ByteArray} {x y : List UInt8} (hX : X = str x) (h : x = y) : (X.toList == y) = true := by
  rw [hX, str_list, h]; simp
theorem listF {X : ByteArray} {x y : List UInt8} (hX : X = str x) (h : x ≠ y) : (X.toList == y) = false := by
  rw [hX, str_list]; simp [h]
end Go.Proofs.YtgkpennhpggaaaaDoor
