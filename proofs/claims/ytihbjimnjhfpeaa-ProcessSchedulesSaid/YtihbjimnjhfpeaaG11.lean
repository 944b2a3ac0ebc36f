/- Texts of this seat, one behind the other. -/
import Derived.Test.YtihbjimnjhfpeaaG10
import Derived.ProofKit
import Derived.OpenShut
import Derived.ChangeOld
import Derived.Lib.SmallJoins
import Derived.Deep.Fields
/- What the laws' rows share: arguments opened. -/
namespace Go.Proofs.Ytihbjimnjhfpeaa
open Go.ChangeShapes Go.WideShapes Go.ChangeAt Go.RowKit Go.Joins Go.Deep

theorem own : ownKnob Try.prog.godebug = none := by kernel_rfl
theorem laidOut : laidOutB Try.prog = true := by kernel_rfl
theorem cellsC : Try.prog.cellsOf 31 = 7 := by kernel_rfl
theorem cellsB : Try.prog.cellsOf 61 = 2 := by kernel_rfl
theorem cellsI : Try.prog.cellsOf 3 = 1 := by kernel_rfl

section
variable {H : Type} {enc : TypeId × Value → H} {P : Program} {w : World} {base : Nat} {spare : Nat → Bool} {held : Bool}
/-- A struct of seven fields by value. -/
theorem open_seven {r : Reach} {b0 : Nat} {t : TypeId} {f0 f1 f2 f3 f4 f5 f6 : Field} {v : Value} {d : DataW H} {p : List MemPlace} (hs : P.underlying t = some (.struct #[f0, f1, f2, f3, f4, f5, f6])) (hone : oneCellFields P #[f0, f1, f2, f3, f4, f5, f6] = true) (hC : P.cellsOf t = 7)
    (hv : Value.okWide P w r b0 t v) (h : DataW.Trod enc P w base spare held t v d p) :
    ∃ (v0 v1 v2 v3 v4 v5 v6 : Value) (y0 y1 y2 y3 y4 y5 y6 : DataW H × List MemPlace) (n : Nat), v = .agg #[v0, v1, v2, v3, v4, v5, v6] ∧
      DataW.trod enc P w base spare held n f0.type [v0] = some y0 ∧ DataW.trod enc P w base spare held n f1.type [v1] = some y1 ∧ DataW.trod enc P w base spare held n f2.type [v2] = some y2 ∧ DataW.trod enc P w base spare held n f3.type [v3] = some y3 ∧ DataW.trod enc P w base spare held n f4.type [v4] = some y4 ∧
      DataW.trod enc P w base spare held n f5.type [v5] = some y5 ∧ DataW.trod enc P w base spare held n f6.type [v6] = some y6 := by
  obtain ⟨cs, rfl, hsz⟩ := okWide_struct hs hv
  obtain ⟨l⟩ := cs
  match l, hsz.trans hC with
  | [c0, c1, c2, c3, c4, c5, c6], _ =>
    obtain ⟨fuel, hf⟩ := h
    obtain ⟨xs, n, _, hx, _, hlen, hg⟩ := DataW.trod_struct hs hf
    obtain ⟨o0, k0⟩ := hone_of hone 0 f0 rfl
    obtain ⟨o1, k1⟩ := hone_of hone 1 f1 rfl
    obtain ⟨o2, k2⟩ := hone_of hone 2 f2 rfl
    obtain ⟨o3, k3⟩ := hone_of hone 3 f3 rfl
    obtain ⟨o4, k4⟩ := hone_of hone 4 f4 rfl
    obtain ⟨o5, k5⟩ := hone_of hone 5 f5 rfl
    obtain ⟨o6, k6⟩ := hone_of hone 6 f6 rfl
    match xs, hlen with
    | [y0, y1, y2, y3, y4, y5, y6], _ =>
      exact ⟨c0, c1, c2, c3, c4, c5, c6, y0, y1, y2, y3, y4, y5, y6, n, rfl, by simpa [Value.cells, o0, k0] using hg 0 f0 rfl, by simpa [Value.cells, o1, k1] using hg 1 f1 rfl, by simpa [Value.cells, o2, k2] using hg 2 f2 rfl, by simpa [Value.cells, o3, k3] using hg 3 f3 rfl, by simpa [Value.cells, o4, k4] using hg 4 f4 rfl, by simpa [Value.cells, o5, k5] using hg 5 f5 rfl, by simpa [Value.cells, o6, k6] using hg 6 f6 rfl⟩
set_option maxRecDepth 100000 in
theorem open_can {r : Reach} {b0 : Nat} {v : Value} {d : DataW H} {p : List MemPlace} (hv : Value.okWide Try.prog w r b0 31 v) (h : DataW.Trod enc Try.prog w base spare held 31 v d p) :
    ∃ r l a b k a2 b2 : Int, v = .agg #[.int .i64 r, .int .i64 l, .int .i64 a, .int .i64 b, .int .i64 k, .int .i64 a2, .int .i64 b2] := by
  obtain ⟨v0, v1, v2, v3, v4, v5, v6, y0, y1, y2, y3, y4, y5, y6, n, rfl, h0, h1, h2, h3, h4, h5, h6⟩ := open_seven Try.underlying31 (by kernel_rfl) cellsC hv h
  obtain ⟨n0, e0, _⟩ := DataW.trod_int Try.underlying3 h0
  obtain ⟨n1, e1, _⟩ := DataW.trod_int Try.underlying3 h1
  obtain ⟨n2, e2, _⟩ := DataW.trod_int Try.underlying3 h2
  obtain ⟨n3, e3, _⟩ := DataW.trod_int Try.underlying3 h3
  obtain ⟨n4, e4, _⟩ := DataW.trod_int Try.underlying3 h4
  obtain ⟨n5, e5, _⟩ := DataW.trod_int Try.underlying3 h5
  obtain ⟨n6, e6, _⟩ := DataW.trod_int Try.underlying3 h6
  simp at e0 e1 e2 e3 e4 e5 e6
  subst e0 e1 e2 e3 e4 e5 e6
  exact ⟨n0, n1, n2, n3, n4, n5, n6, rfl⟩
theorem rowI_of_ints {v : Value} {n : Nat} {y : DataW H × List MemPlace} (h : DataW.trod enc Try.prog w base spare held n 44 [v] = some y) : ∃ l : List Int, RowI w v l := by
  rcases open_ints Try.underlying44 Try.underlying3 cellsI h with ⟨hcs, hx⟩ | ⟨a, len', cap', zs, hcs, _, hl, hm, hz, hx, hcell, hwz⟩
  · simp at hcs
    subst hcs
    exact ⟨[], .inl ⟨_, _, rfl, rfl⟩⟩
  · simp at hcs
    subst hcs
    have hz' : len' ≤ zs.length := by rw [hz]; split <;> omega
    clear hz
    by_cases hp : 0 < zs.length
    · obtain ⟨b, off, rfl, hc⟩ := ints_at hcell hp
      have ht : (zs.take len').length = len' := by rw [List.length_take]; omega
      refine ⟨zs.take len', .inr ⟨b, off, cap', by rw [ht], by rw [ht]; omega, fun k hk => ?_⟩⟩
      rw [ht] at hk
      rw [hc k (by omega), List.getElem_take]
      simp [List.getD, show k < zs.length by omega]
    · obtain rfl : len' = 0 := by omega
      exact ⟨[], .inl ⟨_, _, rfl, rfl⟩⟩
set_option maxRecDepth 100000 in
theorem open_body {r : Reach} {b0 : Nat} {v : Value} {d : DataW H} {p : List MemPlace} (hv : Value.okWide Try.prog w r b0 61 v) (h : DataW.Trod enc Try.prog w base spare held 61 v d p) :
    ∃ (u : Value) (l : List Int) (br : Bool), v = .agg #[u, .bool br] ∧ RowI w u l := by
  obtain ⟨c0, c1, y0, y1, m, rfl, _, _, hy0, hy1⟩ := open_agg2 Try.underlying61 (by kernel_rfl) cellsB hv h
  obtain ⟨l, hl⟩ := rowI_of_ints hy0
  obtain ⟨br, e1, _⟩ := DataW.trod_bool Try.underlying4 hy1
  simp at e1
  subst e1
  exact ⟨c0, l, br, rfl, hl⟩
/-- A struct Two by value: its thirteen cells. -/
def TwoV (r l a b k a2 b2 : Int) (u : Value) (br : Bool) (u2 : Value) (br2 : Bool) (v v2 : Value) : Value := .agg #[.int .i64 r, .int .i64 l, .int .i64 a, .int .i64 b, .int .i64 k, .int .i64 a2, .int .i64 b2, u, .bool br, u2, .bool br2, v, v2]
set_option maxRecDepth 100000 in
theorem trod_can {n : Nat} {c0 c1 c2 c3 c4 c5 c6 : Value} {y : DataW H × List MemPlace} (h : DataW.trod enc Try.prog w base spare held n 31 [c0, c1, c2, c3, c4, c5, c6] = some y) :
    ∃ r l a b k a2 b2 : Int, c0 = .int .i64 r ∧ c1 = .int .i64 l ∧ c2 = .int .i64 a ∧ c3 = .int .i64 b ∧ c4 = .int .i64 k ∧ c5 = .int .i64 a2 ∧ c6 = .int .i64 b2 := by
  obtain ⟨xs, m, _, hx, _, hlen, hg⟩ := DataW.trod_struct Try.underlying31 h
  match xs, hlen with
  | [y0, y1, y2, y3, y4, y5, y6], _ =>
    have g0 := hg 0 _ rfl; have g1 := hg 1 _ rfl; have g2 := hg 2 _ rfl; have g3 := hg 3 _ rfl; have g4 := hg 4 _ rfl; have g5 := hg 5 _ rfl; have g6 := hg 6 _ rfl
    simp [cellsI] at g0 g1 g2 g3 g4 g5 g6
    obtain ⟨n0, e0, _⟩ := DataW.trod_int Try.underlying3 g0
    obtain ⟨n1, e1, _⟩ := DataW.trod_int Try.underlying3 g1
    obtain ⟨n2, e2, _⟩ := DataW.trod_int Try.underlying3 g2
    obtain ⟨n3, e3, _⟩ := DataW.trod_int Try.underlying3 g3
    obtain ⟨n4, e4, _⟩ := DataW.trod_int Try.underlying3 g4
    obtain ⟨n5, e5, _⟩ := DataW.trod_int Try.underlying3 g5
    obtain ⟨n6, e6, _⟩ := DataW.trod_int Try.underlying3 g6
    simp at e0 e1 e2 e3 e4 e5 e6
    exact ⟨n0, n1, n2, n3, n4, n5, n6, e0, e1, e2, e3, e4, e5, e6⟩
theorem cellsS : Try.prog.cellsOf 44 = 1 := by kernel_rfl
theorem cellsBo : Try.prog.cellsOf 4 = 1 := by kernel_rfl
set_option maxRecDepth 100000 in
theorem trod_body {n : Nat} {c0 c1 : Value} {y : DataW H × List MemPlace} (h : DataW.trod enc Try.prog w base spare held n 61 [c0, c1] = some y) : ∃ (l : List Int) (br : Bool), c1 = .bool br ∧ RowI w c0 l := by
  obtain ⟨xs, m, _, hx, _, hlen, hg⟩ := DataW.trod_struct Try.underlying61 h
  match xs, hlen with
  | [y0, y1], _ =>
    have g0 := hg 0 _ rfl; have g1 := hg 1 _ rfl
    simp [cellsS, cellsBo] at g0 g1
    obtain ⟨l, hl⟩ := rowI_of_ints g0
    obtain ⟨br, e1, _⟩ := DataW.trod_bool Try.underlying4 g1
    simp at e1
    exact ⟨l, br, e1, hl⟩
end
end Go.Proofs.Ytihbjimnjhfpeaa

/- Walk of HeatBetween. -/
namespace Go.Proofs.Ytihbjimnjhfpeaa
open Go.RowKit


/-- The least and the greatest of a bath and the first k temperatures, or beyond them. -/
structure InR (lo hi bath : Int) (T : List Int) (k : Nat) : Prop where
  b1 : lo ≤ bath
  b2 : bath ≤ hi
  all : ∀ j (h : j < T.length), j < k → lo ≤ T[j] ∧ T[j] ≤ hi
  r1 : -50000 ≤ lo
  r2 : hi ≤ 200000
theorem InR.next {lo hi bath : Int} {T : List Int} {k : Nat} (h : InR lo hi bath T k) (hk : k < T.length) {lo' hi' : Int} (h1 : lo' ≤ lo) (h2 : hi ≤ hi') (h3 : lo' ≤ T[k]) (h4 : T[k] ≤ hi') (h5 : -50000 ≤ lo') (h6 : hi' ≤ 200000) : InR lo' hi' bath T (k + 1) :=
  ⟨by have := h.b1; omega, by have := h.b2; omega, fun j hj hjk => by
    rcases Nat.lt_or_ge j k with g | g
    · have := h.all j hj g; omega
    · obtain rfl : j = k := by omega
      exact ⟨h3, h4⟩, h5, h6⟩

theorem laid2 {w2 W3 : World} {d0 d1 : Value} {T : TypeId} (h : w2.alloc (.cells #[d0, d1] T) = W3) : Below w2.heap.size w2 W3 ∧ W3.cell? ⟨w2.heap.size, 0, none⟩ = some d0 ∧ W3.cell? ⟨w2.heap.size, 1, none⟩ = some d1 := by
  subst h
  exact ⟨(Below.refl _ _).alloc (Nat.le_refl _) _, cell_alloc_new w2 _ T (0, 0) 0, cell_alloc_new w2 _ T (0, 0) 1⟩
theorem runS_one (c : Cn) (x : Bd) (b : Int) : runS c x [b] = tickS c x b := rfl
theorem tickS_in {c : Cn} {x : Bd} {b lo hi : Int} (hc : c.Ok) (hx : Warm c x) (h1 : lo ≤ b) (h2 : b ≤ hi) (h : ∀ j (g : j < x.1.length), lo ≤ x.1[j] ∧ x.1[j] ≤ hi) : ∀ j (g : j < (tickS c x b).1.length), lo ≤ (tickS c x b).1[j] ∧ (tickS c x b).1[j] ≤ hi := by
  obtain ⟨a1, a2, a3⟩ := hc.ra x.2
  intro j g
  exact tickT_bd a1 a2 a3 hx.len (fun t ht => by obtain ⟨i, hi, rfl⟩ := List.getElem_of_mem ht; exact h i hi) ⟨h1, h2⟩ _ (List.getElem_mem g)

end Go.Proofs.Ytihbjimnjhfpeaa
