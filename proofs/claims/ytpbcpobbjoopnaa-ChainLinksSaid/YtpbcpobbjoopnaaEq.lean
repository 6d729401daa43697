/-
  Two entries of a table, compared.
-/
import Derived.Test.YtpbcpobbjoopnaaNewR
import Derived.Laws.StructEq
namespace Go.Proofs.Ytpbcpobbjoopnaa
open Go.RowKit

theorem run_neq_frame (x0 x1 x2 y0 y1 y2 : Int) (w : World) :
    (binOp .neq 64 (.agg #[.int .i64 x0, .int .i64 x1, .int .i64 x2]) (.agg #[.int .i64 y0, .int .i64 y1, .int .i64 y2])).run Try.prog w = .ok (.bool (!(frB ⟨x0, x1, x2⟩ ⟨y0, y1, y2⟩))) w := by
  go_simp
  by_cases h0 : x0 = y0
  · by_cases h1 : x1 = y1
    · by_cases h2 : x2 = y2
      · simp [frB, h0, h1, h2]
      · simp [frB, h0, h1, h2]
    · simp [frB, h0, h1]
  · simp [frB, h0]
end Go.Proofs.Ytpbcpobbjoopnaa
