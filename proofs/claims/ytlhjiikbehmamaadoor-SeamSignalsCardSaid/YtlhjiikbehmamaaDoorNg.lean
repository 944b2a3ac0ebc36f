/- What the charts' rows share: the listed variable, charts and slices of ints opened. -/
import Derived.Test.YtlhjiikbehmamaaDoorNf
import Derived.LaidMore
import Derived.OpenShut
import Derived.Stop.Joined
import Derived.ProofKit
import Derived.ChangeOld
import Derived.Lib.SmallJoins
import Derived.Deep.Fields
namespace Go.Proofs.YtlhjiikbehmamaaDoor
open Go.ChangeShapes Go.WideShapes Go.ChangeAt Go.RowKit Go.Joins Go.Deep

theorem gRls : Tryd.prog.globalNamed "cannery/seam.rules" = some 0 := by kernel_rfl
theorem tRls : (Tryd.prog.globals[0]?).map (·.type) = some 42 := by kernel_rfl
theorem laidOut : laidOutB Tryd.prog = true := by kernel_rfl
theorem own : ownKnob Tryd.prog.godebug = none := by kernel_rfl
def laid1 : List (String × DataW Unit) := [("cannery/seam.rules", Rows.laid_cannery_seam_rules)]
theorem door_met (os : Os) (args : Array Value) : laidMetH Tryd.prog laid1 ((World.doorLaid Tryd.prog 400 os).forCall (fun _ _ => 0) ⟨#[], args, []⟩).memory :=
  laidMetH_of_parts3 (fuel := 8) (laidMet_of_run' 8 (by kernel_rfl) (by kernel_rfl)) (by kernel_rfl) (by kernel_rfl)
theorem take_one {α : Type} {l : List α} {k : Nat} {v : α} (h : (l.drop k).take 1 = [v]) : l[k]? = some v := by
  have : ((l.drop k).take 1)[0]? = l[k]? := by simp
  rw [← this, h]; rfl
theorem take_three {α : Type} {l : List α} {k : Nat} {j : Nat} {v : α} (hj : j < 3) (h : ((l.drop k).take 3)[j]? = some v) : l[k + j]? = some v := by
  rw [List.getElem?_take_of_lt hj, List.getElem?_drop] at h
  exact h
theorem of_laid {W : World} (h : laidMetH Tryd.prog laid1 W) : Rls W := by
  rw [MakeChecks.laidMetH_plain _ _ _ (by kernel_rfl)] at h
  obtain ⟨ps, ⟨g0, t0, cs0, f0, p0, q0, hg0, ht0, hv0, hd0, _, _⟩, _, _⟩ := h
  obtain rfl := Option.some.inj (gRls.symm.trans hg0)
  obtain rfl := Option.some.inj (tRls.symm.trans ht0)
  obtain ⟨xs, m1, rfl, hx1, hlen, hn, hel⟩ := DataW.trod_array Tryd.underlying42 hd0
  have c9 : Tryd.prog.cellsOf 41 = 3 := by kernel_rfl
  have c3 : Tryd.prog.cellsOf 3 = 1 := by kernel_rfl
  simp only [Prod.mk.injEq, Rows.laid_cannery_seam_rules, DataW.agg.injEq] at hx1
  have key : ∀ i j : Nat, i < 3 → j < 3 → ∃ z : Int, W.cell? ⟨0, i * 3 + j, none⟩ = some (.int .i64 z) ∧ ((xs.map (·.1))[i]?).bind (fun d => match d with | .agg l => l[j]? | _ => none) = some (.lit (.int .i64 z)) := by
    intro i j hi hj
    obtain ⟨x, hx⟩ : ∃ x, xs[i]? = some x := ⟨xs[i]'(by omega), List.getElem?_eq_getElem _⟩
    have h1 := hel i hi
    rw [hx, c9] at h1
    obtain ⟨ys, m2, rfl, hy1, hylen, hyn, hyel⟩ := DataW.trod_array Tryd.underlying41 h1
    obtain ⟨y, hy⟩ : ∃ y, ys[j]? = some y := ⟨ys[j]'(by omega), List.getElem?_eq_getElem _⟩
    have h2 := hyel j hj
    rw [hy, c3, Nat.mul_one] at h2
    obtain ⟨z, e1, e2, _⟩ := DataW.trod_int Tryd.underlying3 h2
    have e3 := take_three hj (take_one e1)
    refine ⟨z, ?_, ?_⟩
    · rw [World.var?_cell hg0 hv0, ← Array.getElem?_toList]
      exact e3
    · rw [List.getElem?_map, hx, hy1]
      simp only [Option.map_some, Option.bind_some]
      rw [List.getElem?_map, hy, e2]
      rfl
  have fin : ∀ (i j : Nat) (z : Int), i < 3 → j < 3 → (((xs.map (·.1))[i]?).bind (fun d => match d with | .agg l => l[j]? | _ => none) = some (.lit (.int .i64 z))) → W.cell? ⟨0, i * 3 + j, none⟩ = some (.int .i64 z) := by
    intro i j z hi hj hz
    obtain ⟨z', h1, h2⟩ := key i j hi hj
    rw [h2] at hz
    obtain rfl : z' = z := by simpa using hz
    exact h1
  rw [← hx1.1] at fin
  refine ⟨fin 0 0 1 (by omega) (by omega) rfl, fin 0 1 1 (by omega) (by omega) rfl, fin 0 2 3 (by omega) (by omega) rfl, fin 1 0 3 (by omega) (by omega) rfl, fin 1 1 2 (by omega) (by omega) rfl, fin 1 2 2 (by omega) (by omega) rfl, fin 2 0 7 (by omega) (by omega) rfl, fin 2 1 7 (by omega) (by omega) rfl, fin 2 2 0 (by omega) (by omega) rfl⟩
theorem cellsI : Tryd.prog.cellsOf 3 = 1 := by kernel_rfl
theorem cellsG : Tryd.prog.cellsOf 23 = 2 := by kernel_rfl
section
variable {H : Type} {enc : TypeId × Value → H} {w : World} {base : Nat} {spare : Nat → Bool} {held : Bool}
theorem open_chart {r : Reach} {b0 : Nat} {v : Value} {d : DataW H} {p : List MemPlace} (hv : Value.okWide Tryd.prog w r b0 23 v) (h : DataW.Trod enc Tryd.prog w base spare held 23 v d p) :
    ∃ x y : Int, v = .agg #[.int .i64 x, .int .i64 y] := by
  obtain ⟨v0, v1, y0, y1, n, rfl, _, _, h0, h1⟩ := open_agg2 Tryd.underlying23 (by kernel_rfl) cellsG hv h
  obtain ⟨n0, e0, _⟩ := DataW.trod_int Tryd.underlying3 h0
  obtain ⟨n1, e1, _⟩ := DataW.trod_int Tryd.underlying3 h1
  simp at e0 e1
  subst e0 e1
  exact ⟨n0, n1, rfl⟩
theorem open_rowQ {r : Reach} {b0 : Nat} {v : Value} {d : DataW H} {p : List MemPlace} (hv : Value.okWide Tryd.prog w r b0 24 v) (h : DataW.Trod enc Tryd.prog w base spare held 24 v d p) :
    ∃ l : List Int, RowQ w v l := by
  obtain ⟨a0, len, cap, rfl⟩ := okWide_slice Tryd.underlying24 hv
  obtain ⟨fuel, hf⟩ := h
  rcases open_ints Tryd.underlying24 Tryd.underlying3 cellsI hf with ⟨hcs, hx⟩ | ⟨a, len', cap', zs, hcs, _, hl, hm, hz, hx, hcell, hwz⟩
  · simp [Value.cells] at hcs
    obtain ⟨rfl, rfl, rfl⟩ := hcs
    exact ⟨[], rowQ_nil _⟩
  · simp [Value.cells] at hcs
    obtain ⟨rfl, rfl, rfl⟩ := hcs
    have hz' : len ≤ zs.length := by rw [hz]; split <;> omega
    clear hz
    by_cases hp : 0 < zs.length
    · obtain ⟨b, off, rfl, hc⟩ := ints_at hcell hp
      have ht : (zs.take len).length = len := by rw [List.length_take]; omega
      refine ⟨zs.take len, _, b, off, cap, by rw [ht], by rw [ht]; exact hl, hm, .inr rfl, fun k hk => ?_⟩
      rw [ht] at hk
      rw [hc k (by omega), List.getElem_take]
      simp [List.getD, show k < zs.length by omega]
    · obtain rfl : len = 0 := by omega
      exact ⟨[], _, 0, 0, cap, rfl, Nat.zero_le _, hm, .inl rfl, fun k h => absurd h (Nat.not_lt_zero k)⟩
end
end Go.Proofs.YtlhjiikbehmamaaDoor
