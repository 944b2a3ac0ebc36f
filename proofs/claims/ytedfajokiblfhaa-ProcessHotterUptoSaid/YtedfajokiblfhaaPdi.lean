/- Walk of a search's least: contract. -/
import Derived.Test.YtedfajokiblfhaaPdh
namespace Go.Proofs.Ytedfajokiblfhaa
open Go.RowKit Go.Lib

theorem afN_add (c : Cn) (f : Int → Nat) (D : Dish) (b : Int) (p j : Nat) : afN c f (afN c f D b p) b j = afN c f D b (p + j) := by
  induction j with
  | zero => rw [afN_zero]; rfl
  | succ j ih => rw [afN_succ, ih, ← afN_succ]; rfl
theorem rounds_ex (m0 more most : Nat) (h1 : 1 ≤ more) (h : m0 ≤ most) : ∃ N, 1 ≤ N ∧ ∀ k, k < N ↔ m0 + k * more ≤ most :=
  ⟨(most - m0) / more + 1, Nat.le_add_left 1 _, fun k => by rw [Nat.lt_succ_iff, Nat.le_div_iff_mul_le (by omega)]; omega⟩
def risB (c : Cn) (D : Dish) (bath cold : Int) : Bool := (decide (c.K = 0) || D.1.2) && decide (cold ≤ bath)
set_option maxRecDepth 100000 in
set_option maxHeartbeats 4000000 in
theorem rising_any (c : Cn) (need : Int) (F : Nat) (lb : Array Value) (bath cold : Int) (most cooling : Nat) (D : Dish) (ua ub : Option Addr) (uc ud : Nat) (w : World) :
    Calls Try.prog 99 #[.agg #[.int .i64 (c.R : Int), .int .i64 (c.L : Int), .int .i64 c.A, .int .i64 c.B, .int .i64 c.K, .int .i64 c.A2, .int .i64 c.B2, .int .i64 need, .func (.func F) #[] lb, .int .i64 bath, .int .i64 (most : Nat), .int .i64 cold, .int .i64 (cooling : Nat)], .agg #[.slice ua D.1.1.length uc, .bool D.1.2, .slice ub D.2.length ud]] w fun e w' => e = .returned (.bool (risB c D bath cold)) ∧ Below w.heap.size w w' := by
  have HX := hid (b2_start (w := w) (T1 := 124) (T2 := 74) (A := #[.int .i64 (c.R : Int), .int .i64 (c.L : Int), .int .i64 c.A, .int .i64 c.B, .int .i64 c.K, .int .i64 c.A2, .int .i64 c.B2, .int .i64 need, .func (.func F) #[] lb, .int .i64 bath, .int .i64 (most : Nat), .int .i64 cold, .int .i64 (cooling : Nat)]) (B := #[.slice ua D.1.1.length uc, .bool D.1.2, .slice ub D.2.length ud]))
  have hlow := HX.out.low
  have m4 := cell_of_row _ _ 4 _ _ _ HX.out.one
  have s9 := cell_of_row _ _ 9 _ _ _ HX.out.one
  have s11 := cell_of_row _ _ 11 _ _ _ HX.out.one
  have d1 := cell_of_row _ _ 1 _ _ _ HX.out.two
  simp only [List.getElem?_toArray, List.getElem?_cons_zero, List.getElem?_cons_succ] at m4 s9 s11 d1
  have hz := HX.out.lt
  unfold risB
  clear HX
  go_enter Try.func99, Try.ntmps99
  by_cases hK : c.K = 0
  · by_cases hc : cold ≤ bath
    · go_wp2_with fail
      refine bodyPost_ret (v := .bool true) (by simp [results, Try.results99, go_sem, hK]) rfl ⟨by simp [hK, hc], ((Below.refl _ _).alloc (Nat.le_refl _) _).alloc (by simp) _⟩
    · go_wp2_with fail
      refine bodyPost_ret (v := .bool false) (by simp [results, Try.results99, go_sem]) rfl ⟨by simp [hc], ((Below.refl _ _).alloc (Nat.le_refl _) _).alloc (by simp) _⟩
  · cases hD : D.1.2
    · go_wp2_with fail
      refine bodyPost_ret (v := .bool false) (by simp [results, Try.results99, go_sem]) rfl ⟨by simp [hK], ((Below.refl _ _).alloc (Nat.le_refl _) _).alloc (by simp) _⟩
    · by_cases hc : cold ≤ bath
      · go_wp2_with fail
        refine bodyPost_ret (v := .bool true) (by simp [results, Try.results99, go_sem]) rfl ⟨by simp [hK, hc], ((Below.refl _ _).alloc (Nat.le_refl _) _).alloc (by simp) _⟩
      · go_wp2_with fail
        refine bodyPost_ret (v := .bool false) (by simp [results, Try.results99, go_sem]) rfl ⟨by simp [hc], ((Below.refl _ _).alloc (Nat.le_refl _) _).alloc (by simp) _⟩
/-- What least tells. -/
def LeastR (T : Nat → Bool) (most : Nat) (w : World) (e : Ending) (w' : World) : Prop :=
  Below w.heap.size w w' ∧ ((∃ n, n ≤ most ∧ T n = true ∧ (∀ j, j < n → T j = false) ∧ e = .returned (.tuple #[.int .i64 (n : Nat), .int .i64 0])) ∨ ((∀ j, j ≤ most → T j = false) ∧ e = .returned (.tuple #[.int .i64 0, .int .i64 8])))
/-- What least stands on: its search's box, and its last at yb. -/
structure LsL (c : Cn) (need : Int) (F : Nat) (lb : Array Value) (bath cold : Int) (most cooling : Nat) (I : World → Prop) (f : Int → Nat) (D : Dish) (p : Nat) (x : Ck) (w W : World) : Prop where
  one : W.heap[w.heap.size]? = some (.cells #[.int .i64 (c.R : Int), .int .i64 (c.L : Int), .int .i64 c.A, .int .i64 c.B, .int .i64 c.K, .int .i64 c.A2, .int .i64 c.B2, .int .i64 need, .func (.func F) #[] lb, .int .i64 bath, .int .i64 (most : Nat), .int .i64 cold, .int .i64 (cooling : Nat)] 124 (0, 0))
  last : W.heap[w.heap.size + 1 + 1]? = some (.cells (ckc x) 139 (0, 0))
  at' : CkAt (w.heap.size + 1 + 1) x W
  dis : x.d = afN c f D bath p
  tick : x.m = p
  inv : I W
  low : Below w.heap.size w W
section
variable {c : Cn} {need : Int} {F : Nat} {lb : Array Value} {bath cold : Int} {most cooling : Nat} {f : Int → Nat} {lo hi : Int} {mb B0 : Nat} {I : World → Prop} {D : Dish} {p : Nat} {x : Ck} {w W W' : World}
theorem LsL.keep (hR : RateOk F lb f lo hi mb B0 I) (h : LsL c need F lb bath cold most cooling I f D p x w W) (hb : Below W.heap.size W W') : LsL c need F lb bath cold most cooling I f D p x w W' :=
  ⟨(hb.block _ (lt_of_block h.one)).trans h.one, (hb.block _ (lt_of_block h.last)).trans h.last, h.at'.keep hb, h.dis, h.tick, hR.below h.inv hb, bstep h.low h.low.size hb⟩
end
theorem cooks3 {c : Cn} {need : Int} {F : Nat} {lb : Array Value} {bath cold : Int} {most cooling : Nat} {w W : World} {x : Ck} {more : Nat} (hW : ((w.alloc (.cells #[.int .i64 (c.R : Int), .int .i64 (c.L : Int), .int .i64 c.A, .int .i64 c.B, .int .i64 c.K, .int .i64 c.A2, .int .i64 c.B2, .int .i64 need, .func (.func F) #[] lb, .int .i64 bath, .int .i64 (most : Nat), .int .i64 cold, .int .i64 (cooling : Nat)] 124)).alloc (.cells (ckc x) 139)).alloc (.cells #[.int .i64 (more : Nat)] 3) = W) :
    W.heap[w.heap.size]? = some (.cells #[.int .i64 (c.R : Int), .int .i64 (c.L : Int), .int .i64 c.A, .int .i64 c.B, .int .i64 c.K, .int .i64 c.A2, .int .i64 c.B2, .int .i64 need, .func (.func F) #[] lb, .int .i64 bath, .int .i64 (most : Nat), .int .i64 cold, .int .i64 (cooling : Nat)] 124 (0, 0)) ∧ W.heap[w.heap.size + 1]? = some (.cells (ckc x) 139 (0, 0)) ∧ W.heap[w.heap.size + 1 + 1]? = some (.cells #[.int .i64 (more : Nat)] 3 (0, 0)) ∧ Below w.heap.size w W := by
  subst hW
  have h := b3_start (w := w) (T1 := 124) (T2 := 139) (T3 := 3) (A := #[.int .i64 (c.R : Int), .int .i64 (c.L : Int), .int .i64 c.A, .int .i64 c.B, .int .i64 c.K, .int .i64 c.A2, .int .i64 c.B2, .int .i64 need, .func (.func F) #[] lb, .int .i64 bath, .int .i64 (most : Nat), .int .i64 cold, .int .i64 (cooling : Nat)]) (B := ckc x) (R := #[.int .i64 (more : Nat)])
  exact ⟨h.one, h.two, h.three, h.low⟩
end Go.Proofs.Ytedfajokiblfhaa
