/- Walk of the reference's ValidRecord: contract. -/
import Derived.Test.YtpkcnojcklmhmaaVx
namespace Go.Proofs.Ytpkcnojcklmhmaa
open Go.RowKit

theorem in_lo_hi {s L Hh : Int} (h1 : L ≤ s) (h2 : s ≤ Hh) : inB s L Hh = true := inB_iff.2 ⟨h1, h2⟩
theorem in_no {s L Hh : Int} (h : ¬ (L ≤ s ∧ s ≤ Hh)) : inB s L Hh = false := inB_not.2 h
end Go.Proofs.Ytpkcnojcklmhmaa
