/- Walk of CodeSigns; what the listed variable gives. -/
import Derived.Test.YtmhkgpcnefcjaaaDoorDu
import Derived.LaidMore
import Derived.OpenShut
import Derived.Stop.Joined
namespace Go.Proofs.YtmhkgpcnefcjaaaDoor
open Go.ChangeShapes Go.WideShapes Go.ChangeAt Go.RowKit

theorem gWts : Tryd.prog.globalNamed "cannery/code.weights" = some 0 := by kernel_rfl
theorem tWts : (Tryd.prog.globals[0]?).map (·.type) = some 65 := by kernel_rfl
theorem laidOut : laidOutB Tryd.prog = true := by kernel_rfl
theorem u8_of {a : Int} (h : (Lit.int .u8 a).wf = true) : ∃ c : UInt8, a = (c.toNat : Int) := by
  have hb := bounds_u8 h
  exact ⟨UInt8.ofNat a.toNat, by simp; omega⟩
theorem own : ownKnob Tryd.prog.godebug = none := by kernel_rfl
def laid1 : List (String × DataW Unit) := [("cannery/code.weights", Rows.laid_cannery_code_weights)]
theorem door_met (os : Os) (args : Array Value) : laidMetH Tryd.prog laid1 ((World.doorLaid Tryd.prog 400 os).forCall (fun _ _ => 0) ⟨#[], args, []⟩).memory :=
  laidMetH_of_parts3 (fuel := 8) (laidMet_of_run' 8 (by kernel_rfl) (by kernel_rfl)) (by kernel_rfl) (by kernel_rfl)
theorem take_one {α : Type} {l : List α} {k : Nat} {v : α} (h : (l.drop k).take 1 = [v]) : l[k]? = some v := by
  have : ((l.drop k).take 1)[0]? = l[k]? := by simp
  rw [← this, h]; rfl
theorem of_laid {W : World} (h : laidMetH Tryd.prog laid1 W) : Wts W := by
  rw [MakeChecks.laidMetH_plain _ _ _ (by kernel_rfl)] at h
  obtain ⟨ps, ⟨g0, t0, cs0, f0, p0, q0, hg0, ht0, hv0, hd0, _, _⟩, _, _⟩ := h
  obtain rfl := Option.some.inj (gWts.symm.trans hg0)
  obtain rfl := Option.some.inj (tWts.symm.trans ht0)
  obtain ⟨xs, m1, rfl, hx1, hlen, hn, hel⟩ := DataW.trod_array Tryd.underlying65 hd0
  have c3 : Tryd.prog.cellsOf 3 = 1 := by kernel_rfl
  simp only [Prod.mk.injEq, Rows.laid_cannery_code_weights, DataW.agg.injEq] at hx1
  intro k hk
  have hk1 := hel k hk
  have hxk : ∃ x, xs[k]? = some x := ⟨xs[k]'(by omega), List.getElem?_eq_getElem _⟩
  obtain ⟨x, hx⟩ := hxk
  have hd : (xs.map (·.1))[k]? = some x.1 := by rw [List.getElem?_map, hx]; rfl
  rw [← hx1.1] at hd
  rw [hx, c3, Nat.mul_one] at hk1
  obtain ⟨z, e1, e2, _⟩ := DataW.trod_int Tryd.underlying3 hk1
  have hc := World.var?_cell hg0 hv0 k
  have e3 := take_one e1
  have hz : z = (k : Int) + 1 := by
    rw [e2] at hd
    have : k = 0 ∨ k = 1 ∨ k = 2 ∨ k = 3 ∨ k = 4 ∨ k = 5 ∨ k = 6 ∨ k = 7 ∨ k = 8 := by omega
    rcases this with rfl | rfl | rfl | rfl | rfl | rfl | rfl | rfl | rfl <;> simp at hd <;> omega
  rw [hz] at e3
  rw [hc, ← Array.getElem?_toList]
  exact e3
theorem weightT_form (s : ByteArray) : ∃ n e : Int, weightT s = .tuple #[.int .i64 n, .int .i64 e] := by
  unfold weightT
  split
  · exact ⟨_, _, rfl⟩
  · exact ⟨_, _, rfl⟩
end Go.Proofs.YtmhkgpcnefcjaaaDoor
