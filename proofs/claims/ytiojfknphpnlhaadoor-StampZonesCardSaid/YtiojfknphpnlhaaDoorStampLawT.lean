/- The length of what Write writes. No statement is proved here. -/
import Derived.Test.YtiojfknphpnlhaaDoorStampW
namespace Go.Proofs.YtiojfknphpnlhaaDoor
theorem textL_len (n y m d t : Int) (h : 1 ≤ m) (h' : m ≤ 12) : (textL n y m d t).length = 31 := by
  unfold textL
  simp only [List.length_append, dateL_len n y m d h h']
  rfl
end Go.Proofs.YtiojfknphpnlhaaDoor
