/- Walk of CodeReads. -/
import Derived.Test.YtmhkgpcnefcjaaaDoorCc
namespace Go.Proofs.YtmhkgpcnefcjaaaDoor
open Go.RowKit

theorem readV_form (s : ByteArray) (u v7 : Int) (R : Option Int) : ∃ (p q r : ByteArray) (t v e0 : Int), readV s u v7 R = .tuple #[.agg #[.string p, .string q, .string r, .int .i64 t, .int .i64 v], .int .i64 e0] := by
  cases R with
  | none => exact ⟨_, _, _, _, _, _, rfl⟩
  | some z => exact ⟨_, _, _, _, _, _, rfl⟩
end Go.Proofs.YtmhkgpcnefcjaaaDoor
