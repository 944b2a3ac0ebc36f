/- Walk of Signals: contract. -/
import Derived.Test.YtlhjiikbehmamaaDoorNc
namespace Go.Proofs.YtlhjiikbehmamaaDoor
open Go.RowKit

/-- The package's rules as they are laid. -/
def Rls (w : World) : Prop := w.cell? ⟨0, 0, none⟩ = some (.int .i64 1) ∧ w.cell? ⟨0, 1, none⟩ = some (.int .i64 1) ∧ w.cell? ⟨0, 2, none⟩ = some (.int .i64 3) ∧ w.cell? ⟨0, 3, none⟩ = some (.int .i64 3) ∧ w.cell? ⟨0, 4, none⟩ = some (.int .i64 2) ∧ w.cell? ⟨0, 5, none⟩ = some (.int .i64 2) ∧ w.cell? ⟨0, 6, none⟩ = some (.int .i64 7) ∧ w.cell? ⟨0, 7, none⟩ = some (.int .i64 7) ∧ w.cell? ⟨0, 8, none⟩ = some (.int .i64 0)
theorem Rls.keep {w w2 : World} (h : Rls w) (hb : Below w.heap.size w w2) : Rls w2 := by
  obtain ⟨h0, h1, h2, h3, h4, h5, h6, h7, h8⟩ := h
  exact ⟨keep_cell hb h0, keep_cell hb h1, keep_cell hb h2, keep_cell hb h3, keep_cell hb h4, keep_cell hb h5, keep_cell hb h6, keep_cell hb h7, keep_cell hb h8⟩
def rulesV : Value := .agg #[.int .i64 1, .int .i64 1, .int .i64 3, .int .i64 3, .int .i64 2, .int .i64 2, .int .i64 7, .int .i64 7, .int .i64 0]
theorem info_r : (Tryd.prog.info? 41).map (·.size) = some 3 := by kernel_rfl
theorem ixR (j : Nat) (hj : j < 3) (w : World) : Sem.run Tryd.prog (Instr.index 42 (.agg #[.int .i64 1, .int .i64 1, .int .i64 3, .int .i64 3, .int .i64 2, .int .i64 2, .int .i64 7, .int .i64 7, .int .i64 0]) (.int .i64 (j : Int))) w = .ok (.agg #[.int .i64 (rlC j : Nat), .int .i64 (rlD j : Nat), .int .i64 (rlE j)]) w := by
  obtain ⟨i0, hi, hs⟩ : ∃ i, Tryd.prog.info? 41 = some i ∧ i.size = 3 := by
    have h1 := info_r
    cases h2 : Tryd.prog.info? 41 with
    | none => rw [h2] at h1; cases h1
    | some i => rw [h2] at h1; exact ⟨i, rfl, Option.some.inj h1⟩
  rcases (show j = 0 ∨ j = 1 ∨ j = 2 by omega) with rfl | rfl | rfl
  · simp [Instr.index, run_underlying Tryd.underlying42, asIntOf, sizeOf, typeInfo, hi, hs, go_sem, rlC, rlD, rlE]
  · simp [Instr.index, run_underlying Tryd.underlying42, asIntOf, sizeOf, typeInfo, hi, hs, go_sem, rlC, rlD, rlE]
  · simp [Instr.index, run_underlying Tryd.underlying42, asIntOf, sizeOf, typeInfo, hi, hs, go_sem, rlC, rlD, rlE]
theorem infoPr : (Tryd.prog.info? 32).map (fun i => (i.zero, i.size, i.bytes)) = some (some (.agg #[.int .i64 0, .int .i64 0]), 2, 16) := by kernel_rfl
/-- What Signals answers. -/
def SigP (M S : Int) (l adj : List Int) (w : World) (e : Ending) (w' : World) : Prop :=
  ∃ x, e = .returned (.tuple #[x, .int .i64 (sgE M S l adj)]) ∧ RowX w' x (if sgE M S l adj = 0 then sgL M S l adj l.length else []) ∧ Below w.heap.size w w'
theorem sig_no {M S : Int} {l adj : List Int} {w w' : World} {c : Int} (hc : sgE M S l adj = c) (h : c ≠ 0) (hb : Below w.heap.size w w') : SigP M S l adj w (.returned (.tuple #[.slice none 0 0, .int .i64 c])) w' :=
  ⟨_, by rw [hc], by rw [if_neg (by rw [hc]; exact h)]; exact rowX_nil _, hb⟩
theorem drop_cons {A : List Int} {p : Nat} {x : Int} {r : List Int} (h : A.drop p = x :: r) : A[p]? = some x ∧ A.drop (p + 1) = r := by
  refine ⟨?_, ?_⟩
  · have : (A.drop p)[0]? = some x := by rw [h]; rfl
    simpa using this
  · rw [← List.drop_drop, h]; rfl
theorem drop_nil {A : List Int} {p : Nat} (h : A.drop p = []) : A[p]? = none := by
  have : A.length ≤ p := by simpa using h
  exact List.getElem?_eq_none this
set_option maxRecDepth 20000 in
theorem RowQ.tail {w : World} {a : Option Addr} {n cap : Nat} {x : Int} {l : List Int} (h : RowQ w (.slice a n cap) (x :: l)) :
    ∃ b o, a = some ⟨b, o, none⟩ ∧ w.cell? ⟨b, o, none⟩ = some (.int .i64 x) ∧ ∃ v, RowQ w v l ∧ (∀ W : World, (Instr.sliceAt 24 (.slice a n cap) (some (.int .i64 1)) none none).run Tryd.prog W = .ok v W) := by
  obtain ⟨a', b, o, cap', hv, g1, g2, g3, g4⟩ := h
  injection hv with hv1 hv2 hv3
  subst hv1 hv2 hv3
  rcases g3 with h0 | rfl
  · cases h0
  refine ⟨b, o, rfl, g4 0 (by simp), ?_⟩
  simp only [List.length_cons] at g1 g4 ⊢
  by_cases hc : cap = 1
  · subst hc
    have hl : l = [] := List.length_eq_zero_iff.1 (by omega)
    subst hl
    refine ⟨.slice (some ⟨b, o, none⟩) 0 0, ⟨_, 0, 0, 0, rfl, Nat.le_refl _, by simp [maxLen], .inl rfl, fun k hk => absurd hk (Nat.not_lt_zero k)⟩, fun W => ?_⟩
    simp [go_sem, Tryd.underlying24]
  · refine ⟨.slice (some ⟨b, o + 1, none⟩) l.length (cap - 1), ⟨_, b, o + 1, cap - 1, rfl, by omega, by omega, .inr rfl, fun k hk => ?_⟩, fun W => ?_⟩
    · have := g4 (k + 1) (by omega)
      rw [Nat.add_assoc, Nat.add_comm 1 k, this]; simp
    · simp [go_sem, Tryd.underlying24, hc]
      try omega
end Go.Proofs.YtlhjiikbehmamaaDoor
