/- Walks of ValidStamp of both: contracts. -/
import Derived.Test.YtmhkgpcnefcjaaaDoorDp
import Derived.Test.YtmhkgpcnefcjaaaDoorDn
namespace Go.Proofs.YtmhkgpcnefcjaaaDoor
open Go.RowKit

theorem Bx.five {w W : World} {b : Nat} {T : TypeId} {x y z u v : Value} (h : Bx w W b T #[x, y, z, u, v]) : W.cell? ⟨b, 0, none⟩ = some x ∧ W.cell? ⟨b, 1, none⟩ = some y ∧ W.cell? ⟨b, 2, none⟩ = some z ∧ W.cell? ⟨b, 3, none⟩ = some u ∧ W.cell? ⟨b, 4, none⟩ = some v := ⟨h.cell 0, h.cell 1, h.cell 2, h.cell 3, h.cell 4⟩
def stampB (pl pr ln : ByteArray) (dy pe : Int) : Bool := speltB pl 1 && speltB pr 2 && speltB ln 1 && inB dy 0 73048 && inB pe 0 30
theorem five5 (a b c d : Bool) : a = false ∨ (a = true ∧ b = false) ∨ (a = true ∧ b = true ∧ c = false) ∨ (a = true ∧ b = true ∧ c = true ∧ d = false) ∨ (a = true ∧ b = true ∧ c = true ∧ d = true) := by cases a <;> cases b <;> cases c <;> cases d <;> simp
set_option maxRecDepth 100000 in
set_option maxHeartbeats 4000000 in
theorem cstamp_any (pl pr ln : ByteArray) (dy pe : Int) (w : World) :
    Calls Tryd.prog 53 #[.agg #[.string pl, .string pr, .string ln, .int .i64 dy, .int .i64 pe]] w fun e w' => e = .returned (.bool (stampB pl pr ln dy pe)) ∧ Below w.heap.size w w' := by
  have HX := hid (bx_new w 48 #[.string pl, .string pr, .string ln, .int .i64 dy, .int .i64 pe])
  rcases five5 (speltB pl 1) (speltB pr 2) (speltB ln 1) (inB dy 0 73048) with h1 | ⟨h1, h2⟩ | ⟨h1, h2, h3⟩ | ⟨h1, h2, h3, h4⟩ | ⟨h1, h2, h3, h4⟩
  all_goals
    have HE := hid (show stampB pl pr ln dy pe = (speltB pl 1 && speltB pr 2 && speltB ln 1 && inB dy 0 73048 && inB pe 0 30) from rfl)
    simp only [h1, Bool.true_and, Bool.false_and] at HE
    try simp only [h2, Bool.true_and, Bool.false_and] at HE
    try simp only [h3, Bool.true_and, Bool.false_and] at HE
    try simp only [h4, Bool.true_and, Bool.false_and] at HE
    go_enter Tryd.func53, Tryd.ntmps53
    go_wp2_with (first
      | (go_at_call 62; refine (spelt_any _ _ _).mono ?_; rintro e wk ⟨rfl, hb⟩; have HX := hid (HX.out.keep hb); obtain ⟨b0, b1, b2, b3, b4⟩ := HX.out.five; clear hb)
      | (go_at_call 58; refine (isday_any _ _).mono ?_; rintro e wk ⟨rfl, rfl⟩)
      | (go_at_call 56; refine (cwithin_any _ _ _ _).mono ?_; rintro e wk ⟨rfl, rfl⟩))
    go_ret
    exact ⟨ret_bool HE.out.symm, HX.out.low⟩
end Go.Proofs.YtmhkgpcnefcjaaaDoor
