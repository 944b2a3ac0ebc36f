/- HeatHotter: for every can, two bodies and two lists of baths, the statement's function returns true: without a Break, a colder body in colder baths stays nowhere above a hotter one.
   Conditions: none but those of the row (each argument can be read). -/
import Derived.Test.YtaioholjckonlaaHt
namespace Go.Proofs.Ytaioholjckonlaa
open Go.ChangeShapes Go.WideShapes Go.ChangeAt Go.RowKit Go.Joins Go.Deep

theorem hotter_walk (r l a b k a2 b2 : Int) (u : Value) (x : List Int) (br : Bool) (u2 : Value) (y : List Int) (br2 : Bool) (v : Value) (p : List Int) (v2 : Value) (q : List Int) (w : World) (hx : RowI w u x) (hy : RowI w u2 y) (hp : RowI w v p) (hq : RowI w v2 q) :
    Calls Try.prog 10 #[TwoV r l a b k a2 b2 u br u2 br2 v v2] w fun e w' => e = .returned (.bool true) ∧ Below w.heap.size w w' := by
  unfold TwoV
  by_cases hn : (x.length ≤ 100 ∧ p.length ≤ 80) ∧ (y.length ≤ 100 ∧ q.length ≤ 80) ∧ k = 0 ∧ belowB x y = true ∧ p.length = q.length
  · obtain ⟨h1, h2, rfl, h4, h5⟩ := hn
    exact hotter_late r l a b a2 b2 u x br u2 y br2 v p v2 q w hx hy hp hq h1 h2 h4 h5
  · exact hotter_early r l a b k a2 b2 u x br u2 y br2 v p v2 q w hx hy hp hq hn
set_option maxRecDepth 100000 in
theorem heatHotter_lifted (os : Os) (started : os.Started) (H : Type) (enc : TypeId × Value → H) :
    ReturnsInHanded {} Try.checked os 10 .any (Rows.heatHotterSpec.pre6 enc Try.prog Try.f10 Rows.heatHotterRow.domain false) (Rows.heatHotterSpec.post enc Try.prog Try.f10 false true false false) := by
  refine returnsInHanded_of_change (C := Try.checked) own started (by kernel_rfl) Try.func10
    (ChangeSpec.witness6 (enc := enc) (C := Try.checked) false ⟨#[], #[.agg #[.int .i64 0, .int .i64 0, .int .i64 0, .int .i64 0, .int .i64 0, .int .i64 0, .int .i64 0, .slice none 0 0, .bool false, .slice none 0 0, .bool false, .slice none 0 0, .slice none 0 0]], []⟩ 8 (by kernel_rfl) (by kernel_rfl) (by kernel_rfl) (by kernel_rfl)) ?_
  intro W base args ds gs before hval0 hW hcnd _
  have hval : ∀ (j : Nat) t v, Try.f10.params[j]? = some t → args[j]? = some v → Value.okWide Try.prog W .any base t v := hval0
  have hW' := hW
  obtain ⟨p, q, hA0, hV, rfl, hfz, hnd⟩ := hW
  have hA : DataW.TrodAll enc Try.prog W 0 (fun _ => true) true Try.f10.params.toList args.toList ds p := hA0
  rw [Try.params10] at hA hval
  obtain ⟨v0, vs0, d0, ds0, p0, q0, hargs, rfl, rfl, h0, r0⟩ := trodAll_cons hA
  obtain ⟨rfl, rfl, rfl⟩ := trodAll_nil r0
  obtain rfl : args = #[v0] := by cases args; simp_all
  obtain ⟨rfl, rfl⟩ := trodVars_none hV
  have k0 := h0
  have lt0 : ∀ x ∈ p0, x.block < W.heap.size := by obtain ⟨m, hm⟩ := k0; exact DataW.trod_lt m _ _ _ hm
  obtain ⟨cr0, cl0, ca0, cb0, ck0, cx0, cy0, u0, x0, br0, t0, y0, bs0, va0, la0, vb0, lb0, rfl, wx0, wy0, wl0, wm0⟩ := open_two (hval 0 59 v0 rfl rfl) h0
  clear hA0 hval0
  refine (hotter_walk cr0 cl0 ca0 cb0 ck0 cx0 cy0 u0 x0 br0 t0 y0 bs0 va0 la0 vb0 lb0 W wx0 wy0 wl0 wm0).mono fun e W' ⟨he, bel⟩ => ?_
  subst he
  exact ⟨_, rfl, _, _, _, [], _, [], hW', trodAll_mk1 (shut_bool Try.underlying4 _), (trodAll_cons_mk (Below.trod laidOut (by kernel_rfl) (of_decide_eq_true (by kernel_rfl)) k0 bel lt0) trodAll_mk0), rfl, bel.frame _, fun h => by cases h⟩
theorem heatHotter_holds : Rows.HeatHotterSaid :=
  OpenClaim.holds_of_wide 10 Try.f10 rfl rfl rfl rfl rfl rfl rfl ⟨rfl, rfl, rfl, rfl, rfl⟩ rfl rfl rfl rfl rfl (by kernel_rfl) Try.func10 (by kernel_rfl)
    (of_decide_eq_true (by kernel_rfl)) (by unfold Func.isWrapper; first | (rw [if_pos (by decide +kernel)]; kernel_rfl) | (rw [if_neg (by decide +kernel)]; exact ⟨rfl, rfl⟩))
    (fun os started H enc _ => heatHotter_lifted os started H enc)
end Go.Proofs.Ytaioholjckonlaa
