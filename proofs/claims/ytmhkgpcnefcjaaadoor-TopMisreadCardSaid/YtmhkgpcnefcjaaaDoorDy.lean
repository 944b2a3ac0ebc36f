/- Walk of CodeDays. -/
import Derived.Test.YtmhkgpcnefcjaaaDoorDx
import Derived.Test.YtmhkgpcnefcjaaaDoorDu
namespace Go.Proofs.YtmhkgpcnefcjaaaDoor
open Go.RowKit

theorem month_ex0 (y L : Int) : ∀ K : Nat, L < dB y (1 + K) → 0 ≤ L → ∃ k : Nat, k < K ∧ dB y (1 + k) ≤ L ∧ L < dB y (1 + k + 1)
  | 0, h, h0 => by
    have e : dB y (1 + ((0 : Nat) : Int)) = 0 := dB_1 y
    omega
  | K + 1, h, h0 => by
    by_cases g : L < dB y (1 + K)
    · obtain ⟨k, h1, h2⟩ := month_ex0 y L K g h0
      exact ⟨k, by omega, h2⟩
    · refine ⟨K, by omega, by omega, ?_⟩
      have e : (1 + ((K + 1 : Nat) : Int)) = 1 + K + 1 := by omega
      rw [← e]; exact h
theorem date_ex {n : Int} (h0 : 0 ≤ n) (h1 : n ≤ 73048) : ∃ y m d, IsDate n y m d := by
  obtain ⟨y, hy⟩ := year_ex h0 h1
  have hs := soY_succ hy.1
  obtain ⟨k, hk, h2, h3⟩ := month_ex0 y (n - soY y) 12 (by show n - soY y < dB y 13; rw [dB_13]; have := hy.2.2.2; omega) (by have := hy.2.2.1; omega)
  have hd := dB_succ (y := y) (m := 1 + (k : Int)) (by omega) (by omega)
  exact ⟨y, 1 + k, n - soY y - dB y (1 + k) + 1, hy, by omega, by omega, by omega, by omega, by omega⟩
theorem date_back {n y m d : Int} (h : IsDate n y m d) : dateB y m d = true ∧ dayN y m d = n := by
  obtain ⟨⟨y1, y2, _, _⟩, m1, m2, d1, d2, e⟩ := h
  refine ⟨?_, by unfold dayN; omega⟩
  rw [dateB_eq]
  simp only [Bool.and_eq_true, inB_iff]
  exact ⟨⟨⟨y1, y2⟩, ⟨m1, m2⟩⟩, ⟨d1, d2⟩⟩
theorem dayT_form (y m d : Int) : ∃ n e : Int, (if dateB y m d = true then Value.tuple #[.int .i64 (dayN y m d), .int .i64 0] else .tuple #[.int .i64 0, .int .i64 7]) = .tuple #[.int .i64 n, .int .i64 e] := by
  split
  · exact ⟨_, _, rfl⟩
  · exact ⟨_, _, rfl⟩
/-- Three boxes of dates. -/
def D3 (w W : World) (b5 b7 : Nat) (x y z p q r s t u : Int) : Prop := Bx w W w.heap.size 61 #[.int .i64 x, .int .i64 y, .int .i64 z] ∧ Bx w W b5 61 #[.int .i64 p, .int .i64 q, .int .i64 r] ∧ Bx w W b7 61 #[.int .i64 s, .int .i64 t, .int .i64 u]
theorem D3.keep {w W w2 : World} {b5 b7 : Nat} {x y z p q r s t u : Int} (h : D3 w W b5 b7 x y z p q r s t u) (hb : Below W.heap.size W w2) : D3 w w2 b5 b7 x y z p q r s t u := ⟨h.1.keep hb, h.2.1.keep hb, h.2.2.keep hb⟩
theorem D3.drw {w W : World} {b5 b7 : Nat} {x y z p q r s t u : Int} (h : D3 w W b5 b7 x y z p q r s t u) : D3 w W.drew b5 b7 x y z p q r s t u := ⟨h.1.dr1, h.2.1.dr1, h.2.2.dr1⟩
def S9 (w W : World) (b5 b7 : Nat) (x y z p q r s t u : Int) : Prop :=
  W.cell? ⟨w.heap.size, 0, none⟩ = some (.int .i64 x) ∧ W.cell? ⟨w.heap.size, 1, none⟩ = some (.int .i64 y) ∧ W.cell? ⟨w.heap.size, 2, none⟩ = some (.int .i64 z) ∧
  W.cell? ⟨b5, 0, none⟩ = some (.int .i64 p) ∧ W.cell? ⟨b5, 1, none⟩ = some (.int .i64 q) ∧ W.cell? ⟨b5, 2, none⟩ = some (.int .i64 r) ∧
  W.cell? ⟨b7, 0, none⟩ = some (.int .i64 s) ∧ W.cell? ⟨b7, 1, none⟩ = some (.int .i64 t) ∧ W.cell? ⟨b7, 2, none⟩ = some (.int .i64 u) ∧ Hid (D3 w W b5 b7 x y z p q r s t u)
theorem D3.all {w W : World} {b5 b7 : Nat} {x y z p q r s t u : Int} (h : D3 w W b5 b7 x y z p q r s t u) : S9 w W b5 b7 x y z p q r s t u :=
  ⟨h.1.cell 0, h.1.cell 1, h.1.cell 2, h.2.1.cell 0, h.2.1.cell 1, h.2.1.cell 2, h.2.2.cell 0, h.2.2.cell 1, h.2.2.cell 2, hid h⟩
theorem S9.of {w W : World} {b5 b7 : Nat} {x y z p q r s t u : Int} (h : S9 w W b5 b7 x y z p q r s t u) : D3 w W b5 b7 x y z p q r s t u := h.2.2.2.2.2.2.2.2.2.out
end Go.Proofs.YtmhkgpcnefcjaaaDoor
