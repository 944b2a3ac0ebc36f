/- HeatUntil: all its ways together; the struct Wait as it comes in. -/
import Derived.Test.YtpkcnojcklmhmaaRj
import Derived.Test.YtpkcnojcklmhmaaHn
namespace Go.Proofs.Ytpkcnojcklmhmaa
open Go.ChangeShapes Go.WideShapes Go.ChangeAt Go.RowKit Go.Joins Go.Deep

theorem cellsWt : Try.prog.cellsOf 44 = 11 := by kernel_rfl
section
variable {H : Type} {enc : TypeId × Value → H} {w : World} {base : Nat} {spare : Nat → Bool} {held : Bool}
set_option maxRecDepth 100000 in
theorem open_wait {r : Reach} {b0 : Nat} {v : Value} {d : DataW H} {p : List MemPlace} (hv : Value.okWide Try.prog w r b0 44 v) (h : DataW.Trod enc Try.prog w base spare held 44 v d p) :
    ∃ (r l a b k a2 b2 : Int) (u : Value) (x : List Int) (br : Bool) (bath t : Int), v = .agg #[.int .i64 r, .int .i64 l, .int .i64 a, .int .i64 b, .int .i64 k, .int .i64 a2, .int .i64 b2, u, .bool br, .int .i64 bath, .int .i64 t] ∧ RowI w u x := by
  obtain ⟨cs, rfl, hsz⟩ := okWide_struct Try.underlying44 hv
  obtain ⟨ls⟩ := cs
  match ls, hsz.trans cellsWt with
  | [c0, c1, c2, c3, c4, c5, c6, c7, c8, c9, c10], _ =>
    obtain ⟨fuel, hf⟩ := h
    obtain ⟨xs, n, _, hx, _, hlen, hg⟩ := DataW.trod_struct Try.underlying44 hf
    match xs, hlen with
    | [y0, y1, y2, y3], _ =>
      have g0 := hg 0 _ rfl; have g1 := hg 1 _ rfl; have g2 := hg 2 _ rfl; have g3 := hg 3 _ rfl
      simp [Value.cells, cellsC, cellsB, cellsI] at g0 g1 g2 g3
      obtain ⟨r, l, a, b, k, a2, b2, rfl, rfl, rfl, rfl, rfl, rfl, rfl⟩ := trod_can g0
      obtain ⟨x, br, rfl, hx1⟩ := trod_body g1
      obtain ⟨n2, e2, _⟩ := DataW.trod_int Try.underlying3 g2
      obtain ⟨n3, e3, _⟩ := DataW.trod_int Try.underlying3 g3
      simp at e2 e3
      subst e2 e3
      exact ⟨r, l, a, b, k, a2, b2, c7, x, br, n2, n3, rfl, hx1⟩
end
theorem until_walk (r l a b k a2 b2 : Int) (u : Value) (x : List Int) (br : Bool) (bath t : Int) (w : World) (hx : RowI w u x) :
    Calls Try.prog 5 #[.agg #[.int .i64 r, .int .i64 l, .int .i64 a, .int .i64 b, .int .i64 k, .int .i64 a2, .int .i64 b2, u, .bool br, .int .i64 bath, .int .i64 t]] w fun e w' => e = .returned (.bool true) ∧ Below w.heap.size w w' := by
  by_cases h : x.length ≤ 100 ∧ (untO r l a b k a2 b2 (x, br) bath t).2 = 0 ∧ (untO r l a b k a2 b2 (x, br) bath t).1 ≤ 200
  · obtain ⟨h1, h2, h3⟩ := h
    obtain ⟨c, n, hcv, ⟨rfl, rfl, rfl, rfl, rfl, rfl, rfl⟩, hbv, hob, hn, hO, hge, hlt⟩ := untO_zero h2
    rw [hO] at h3
    exact until_main c n u x br bath t w hx hcv hbv hob (by have h4 : (n : Int) ≤ 200 := h3; omega) h1 hO hge hlt
  · exact until_early r l a b k a2 b2 u x br bath t w hx h
end Go.Proofs.Ytpkcnojcklmhmaa
