/- What Days answers, as a pair. No statement is proved here. -/
import Derived.Test.YtiojfknphpnlhaaDoorStampA
namespace Go.Proofs.YtiojfknphpnlhaaDoor
theorem daysV_yes {y m d : Int} (h : MayD y m d) : daysV y m d = .tuple #[.int .i64 (daysZ y m d), .int .i64 0] := by unfold daysV; rw [if_pos (mayB_iff.2 h)]
theorem daysV_no {y m d : Int} (h : ¬ MayD y m d) : daysV y m d = .tuple #[.int .i64 0, .int .i64 1] := by unfold daysV; rw [if_neg (fun e => h (mayB_iff.1 e))]
end Go.Proofs.YtiojfknphpnlhaaDoor
